/-
  What package runes answers: Valid, Reverse, and Split, Before and After at the document's examples, as contracts of their calls.
-/
import Derived.Test.YtfelcneedpndiaaGreatDoorIws
import Derived.Shelf.Unicode.ValidAny
import Derived.Shelf.SlGeneric
import Derived.Shelf.SlicesE.Reverse
import Derived.Lib.OwnBridge
import Derived.Lib.RuneCount
import Derived.Laws.Cover4
import Derived.Laws.IdiomStrings
namespace Go.Proofs.YtfelcneedpndiaaGreatDoor
open Go.RowKit Go.Lib Go.Shelf Go.Sort

def vren : Go.Shelf.Ren := ⟨fun | 196 => 14 | 259 => 32 | n => n, fun | 9 => 9 | 4 => 4 | 3 => 3 | 5 => 5 | 12 => 12 | 119 => 59 | 0 => 0 | 46 => 63 | 139 => 62 | 138 => 61 | 53 => 80 | n => n, fun | 3 => 0 | 4 => 1 | n => n⟩
theorem vlays196 : Go.Proofs.Lays.n196 Tryz.prog vren := {
  mixed := by kernel_rfl
  f196 := Tryz.func14.trans (congrArg some (by kernel_rfl))
  f259 := Tryz.func32.trans (congrArg some (by kernel_rfl))
  t0 := Tryz.underlying0
  a0 := Tryz.isAgg0
  z0 := Tryz.sizeOf0
  v0 := Tryz.zeroValue0
  t3 := Tryz.underlying3
  a3 := Tryz.isAgg3
  z3 := Tryz.sizeOf3
  v3 := Tryz.zeroValue3
  t4 := Tryz.underlying4
  a4 := Tryz.isAgg4
  z4 := Tryz.sizeOf4
  v4 := Tryz.zeroValue4
  t5 := Tryz.underlying5
  a5 := Tryz.isAgg5
  z5 := Tryz.sizeOf5
  v5 := Tryz.zeroValue5
  t9 := Tryz.underlying9
  a9 := Tryz.isAgg9
  z9 := Tryz.sizeOf9
  v9 := Tryz.zeroValue9
  t12 := Tryz.underlying12
  a12 := Tryz.isAgg12
  z12 := Tryz.sizeOf12
  v12 := Tryz.zeroValue12
  t46 := Tryz.underlying63
  a46 := Tryz.isAgg63
  z46 := Tryz.sizeOf63
  v46 := Tryz.zeroValue63
  t53 := Tryz.underlying80
  a53 := Tryz.isAgg80
  z53 := Tryz.sizeOf80
  v53 := Tryz.zeroValue80
  t119 := Tryz.underlying59
  a119 := Tryz.isAgg59
  z119 := Tryz.sizeOf59
  t138 := Tryz.underlying61
  a138 := Tryz.isAgg61
  z138 := Tryz.sizeOf61
  v138 := Tryz.zeroValue61
  t139 := Tryz.underlying62
  a139 := Tryz.isAgg62
  z139 := Tryz.sizeOf62
  v139 := Tryz.zeroValue62
  g3 := by kernel_rfl
  g4 := by kernel_rfl }
/-- The tables of the library as they are laid. -/
def TabU (w : World) : Prop := Lib.Utf8Tabs 0 1 w
theorem TabU.below {w w' : World} (h : TabU w) (hb : Below w.heap.size w w') : TabU w' := Utf8Tabs_below h hb
set_option linter.unusedVariables false in
set_option linter.unusedSimpArgs false in
set_option maxRecDepth 100000 in
set_option maxHeartbeats 2000000 in
theorem valid_any (s : ByteArray) (hs : s.size ≤ 17592186044416) (w : World) (hT : TabU w) : Calls Tryz.prog 9 #[.string s] w (Ret (.bool (validD s.data.toList)) w) := by
  have CV := Lib.hid (show Calls Tryz.prog 14 #[.string s] w fun e w' => e = .returned (.bool (Lib.validD s.data.toList)) ∧ Below w.heap.size w w' from Any.utf8_ValidString vlays196 s w (by omega) hT)
  generalize validD s.data.toList = V at *
  go_enter Tryz.func9, Tryz.ntmps9
  go_wp2_with (go_at_call 14; (with_reducible refine CV.out.mono ?_); rintro e w1 ⟨rfl, b1⟩)
  go_ret
  exact ⟨rfl, b1⟩
/-- What []rune(s) makes. -/
theorem runesFrom_rn (s : ByteArray) : ∀ (bound i : Nat) (acc : Array Value), s.size ≤ i + bound → Conv.runesFrom s bound i acc = acc ++ ((rn (s.data.toList.drop i)).map rc).toArray
  | 0, i, acc, h => by
    rw [rn_end s i (by omega)]
    simp [Conv.runesFrom]
  | bound + 1, i, acc, h => by
    unfold Conv.runesFrom
    by_cases hi : i < s.size
    · have wd := Lib.decode_width_pos s i hi
      rw [if_pos hi, rn_at s i hi]
      show Conv.runesFrom s bound (i + (Utf8.decode s i).2) (acc.push (.int .i32 (Int.ofNat (Utf8.decode s i).1))) = _
      rw [runesFrom_rn s bound _ _ (by omega)]
      apply Array.ext'
      simp [rc]
    · rw [if_neg hi, rn_end s i hi]
      simp
theorem runesBytes_enc : ∀ (L : List Nat) (a : ByteArray), (L.map fun r : Nat => (r : Int)).foldl (fun r n => r ++ Utf8.encode n) a = a ++ ⟨(enc L).toArray⟩
  | [], a => by
    apply ByteArray.ext
    simp
  | x :: t, a => by
    rw [List.map_cons, List.foldl_cons, runesBytes_enc t, encI_list, enc_cons]
    apply ByteArray.ext
    simp [Array.append_assoc]
theorem runesBytes_L (L : List Nat) : runesBytes (L.map fun r : Nat => (r : Int)) = ⟨(enc L).toArray⟩ := by
  unfold runesBytes
  rw [runesBytes_enc]
  apply ByteArray.ext
  simp
theorem rc_one : OneCell rc := fun _ => rfl
set_option linter.unusedVariables false in
set_option linter.unusedSimpArgs false in
set_option maxRecDepth 100000 in
set_option maxHeartbeats 2000000 in
theorem index_ex (w : World) : Calls Tryz.prog 49 #[.string ⟨#[97, 98, 99]⟩, .string ⟨#[]⟩] w fun e w' => e = .returned (.int .i64 0) ∧ w' = w := by
  go_enter Tryz.func49, Tryz.ntmps49
  go_wp2
  go_ret
  exact ⟨rfl, rfl⟩
set_option linter.unusedVariables false in
set_option linter.unusedSimpArgs false in
set_option maxRecDepth 100000 in
set_option maxHeartbeats 2000000 in
theorem cut_ex (w : World) : Calls Tryz.prog 19 #[.string ⟨#[97, 98, 99]⟩, .string ⟨#[]⟩] w fun e w' => e = .returned (.tuple #[.string ⟨#[]⟩, .string ⟨#[97, 98, 99]⟩, .bool true]) ∧ Below w.heap.size w w' := by
  have CL := Lib.hid (show ∀ W, Calls Tryz.prog 34 #[.string ⟨#[97, 98, 99]⟩, .string ⟨#[]⟩] W fun e w' => e = .returned (.tuple #[.string ⟨#[]⟩, .string ⟨#[97, 98, 99]⟩, .bool true]) ∧ Below W.heap.size W w' from fun W => by
    have IX := Lib.hid (fun W => index_ex W)
    have mixed : Tryz.prog.follows .mixedOrders = true := by kernel_rfl
    have wr0 : IntKind.i64.wrap 0 = 0 := by decide
    go_enter Tryz.func34, Tryz.ntmps34
    go_wp2_with (go_at_call 49; (with_reducible refine (IX.out _).mono ?_); rintro e w1 ⟨rfl, rfl⟩)
    go_region_o
    go_wp2
    go_ret3
    exact ⟨rfl, by go_grown⟩)
  go_enter Tryz.func19, Tryz.ntmps19
  go_wp2_with (go_at_call 34; (with_reducible refine (CL.out _).mono ?_); rintro e w1 ⟨rfl, b1⟩)
  go_ret3
  exact ⟨rfl, b1⟩
end Go.Proofs.YtfelcneedpndiaaGreatDoor

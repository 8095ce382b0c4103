/-
  What package runes answers: Valid, Reverse, and Split, Before and After at the document's examples, as contracts of their calls.
-/
import Derived.Test.YtfdbpeplmkfijaaDoorIws
import Derived.Shelf.Unicode.ValidAny
import Derived.Shelf.SlGeneric
import Derived.Shelf.SlicesE.Reverse
import Derived.Lib.OwnBridge
import Derived.Lib.RuneCount
import Derived.Laws.Cover4
import Derived.Laws.IdiomStrings
namespace Go.Proofs.YtfdbpeplmkfijaaDoor
open Go.RowKit Go.Lib Go.Shelf Go.Sort

def vren : Go.Shelf.Ren := ⟨fun | 196 => 29 | 259 => 38 | n => n, fun | 9 => 9 | 4 => 4 | 3 => 3 | 5 => 5 | 12 => 12 | 119 => 58 | 0 => 0 | 46 => 62 | 139 => 61 | 138 => 60 | 53 => 67 | n => n, fun | 3 => 0 | 4 => 1 | n => n⟩
theorem vlays196 : Go.Proofs.Lays.n196 Tryd.prog vren := {
  mixed := by kernel_rfl
  f196 := Tryd.func29.trans (congrArg some (by kernel_rfl))
  f259 := Tryd.func38.trans (congrArg some (by kernel_rfl))
  t0 := Tryd.underlying0
  a0 := Tryd.isAgg0
  z0 := Tryd.sizeOf0
  v0 := Tryd.zeroValue0
  t3 := Tryd.underlying3
  a3 := Tryd.isAgg3
  z3 := Tryd.sizeOf3
  v3 := Tryd.zeroValue3
  t4 := Tryd.underlying4
  a4 := Tryd.isAgg4
  z4 := Tryd.sizeOf4
  v4 := Tryd.zeroValue4
  t5 := Tryd.underlying5
  a5 := Tryd.isAgg5
  z5 := Tryd.sizeOf5
  v5 := Tryd.zeroValue5
  t9 := Tryd.underlying9
  a9 := Tryd.isAgg9
  z9 := Tryd.sizeOf9
  v9 := Tryd.zeroValue9
  t12 := Tryd.underlying12
  a12 := Tryd.isAgg12
  z12 := Tryd.sizeOf12
  v12 := Tryd.zeroValue12
  t46 := Tryd.underlying62
  a46 := Tryd.isAgg62
  z46 := Tryd.sizeOf62
  v46 := Tryd.zeroValue62
  t53 := Tryd.underlying67
  a53 := Tryd.isAgg67
  z53 := Tryd.sizeOf67
  v53 := Tryd.zeroValue67
  t119 := Tryd.underlying58
  a119 := Tryd.isAgg58
  z119 := Tryd.sizeOf58
  t138 := Tryd.underlying60
  a138 := Tryd.isAgg60
  z138 := Tryd.sizeOf60
  v138 := Tryd.zeroValue60
  t139 := Tryd.underlying61
  a139 := Tryd.isAgg61
  z139 := Tryd.sizeOf61
  v139 := Tryd.zeroValue61
  g3 := by kernel_rfl
  g4 := by kernel_rfl }
/-- The tables of the library as they are laid. -/
def TabU (w : World) : Prop := Lib.Utf8Tabs 0 1 w
theorem TabU.below {w w' : World} (h : TabU w) (hb : Below w.heap.size w w') : TabU w' := Utf8Tabs_below h hb
set_option linter.unusedVariables false in
set_option linter.unusedSimpArgs false in
set_option maxRecDepth 100000 in
set_option maxHeartbeats 2000000 in
theorem valid_any (s : ByteArray) (hs : s.size ≤ 17592186044416) (w : World) (hT : TabU w) : Calls Tryd.prog 13 #[.string s] w (Ret (.bool (validD s.data.toList)) w) := by
  have CV := Lib.hid (show Calls Tryd.prog 29 #[.string s] w fun e w' => e = .returned (.bool (Lib.validD s.data.toList)) ∧ Below w.heap.size w w' from Any.utf8_ValidString vlays196 s w (by omega) hT)
  generalize validD s.data.toList = V at *
  go_enter Tryd.func13, Tryd.ntmps13
  go_wp2_with (go_at_call 29; (with_reducible refine CV.out.mono ?_); rintro e w1 ⟨rfl, b1⟩)
  go_ret
  exact ⟨rfl, b1⟩
def rren : Go.Shelf.Ren := ⟨fun | 35 => 33 | n => n, fun | 22 => 27 | 23 => 21 | 3 => 3 | 4 => 4 | 0 => 0 | n => n, fun | n => n⟩
theorem rlays35 : Go.Proofs.SlLaysE.n35 Tryd.prog rren := {
  mixed := by kernel_rfl
  f35 := ⟨Tryd.f33.name, by decide, Tryd.func33.trans (congrArg some (by kernel_rfl))⟩
  t0 := Tryd.underlying0
  a0 := Tryd.isAgg0
  z0 := Tryd.sizeOf0
  v0 := Tryd.zeroValue0
  t3 := Tryd.underlying3
  a3 := Tryd.isAgg3
  z3 := Tryd.sizeOf3
  v3 := Tryd.zeroValue3
  t4 := Tryd.underlying4
  a4 := Tryd.isAgg4
  z4 := Tryd.sizeOf4
  v4 := Tryd.zeroValue4
  t22 := Tryd.underlying27
  a22 := Tryd.isAgg27
  z22 := Tryd.sizeOf27
  v22 := Tryd.zeroValue27
  a23 := Tryd.isAgg21
  z23 := Tryd.sizeOf21 }
/-- What []rune(s) makes. -/
theorem runesFrom_rn (s : ByteArray) : ∀ (bound i : Nat) (acc : Array Value), s.size ≤ i + bound → Conv.runesFrom s bound i acc = acc ++ ((rn (s.data.toList.drop i)).map rc).toArray
  | 0, i, acc, h => by
    rw [rn_end s i (by omega)]
    simp [Conv.runesFrom]
  | bound + 1, i, acc, h => by
    unfold Conv.runesFrom
    by_cases hi : i < s.size
    · have wd := Lib.decode_width_pos s i hi
      rw [if_pos hi, rn_at s i hi]
      show Conv.runesFrom s bound (i + (Utf8.decode s i).2) (acc.push (.int .i32 (Int.ofNat (Utf8.decode s i).1))) = _
      rw [runesFrom_rn s bound _ _ (by omega)]
      apply Array.ext'
      simp [rc]
    · rw [if_neg hi, rn_end s i hi]
      simp
theorem runesBytes_enc : ∀ (L : List Nat) (a : ByteArray), (L.map fun r : Nat => (r : Int)).foldl (fun r n => r ++ Utf8.encode n) a = a ++ ⟨(enc L).toArray⟩
  | [], a => by
    apply ByteArray.ext
    simp
  | x :: t, a => by
    rw [List.map_cons, List.foldl_cons, runesBytes_enc t, encI_list, enc_cons]
    apply ByteArray.ext
    simp [Array.append_assoc]
theorem runesBytes_L (L : List Nat) : runesBytes (L.map fun r : Nat => (r : Int)) = ⟨(enc L).toArray⟩ := by
  unfold runesBytes
  rw [runesBytes_enc]
  apply ByteArray.ext
  simp
theorem rc_one : OneCell rc := fun _ => rfl
set_option linter.unusedVariables false in
set_option linter.unusedSimpArgs false in
set_option maxRecDepth 100000 in
set_option maxHeartbeats 4000000 in
theorem reverse_any (s : ByteArray) (hs : s.size ≤ 17592186044416) (w : World) : Calls Tryd.prog 17 #[.string s] w (RetTx (enc (rnS s).reverse) w) := by
  have LE := rnS_le s
  have RF : Conv.runesFrom s s.size 0 #[] = ((rnS s).map rc).toArray := by rw [runesFrom_rn s s.size 0 #[] (by omega)]; simp [rnS]
  have SZ : (Conv.runesFrom s s.size 0 #[]).size = (rnS s).length := by rw [RF]; simp
  have CR := Lib.hid (fun W => run_runes_of_string (P := Tryd.prog) W 9 27 21 s Tryd.underlying9 Tryd.underlying27 Tryd.underlying21 (by rw [SZ]; omega))
  rw [SZ, RF] at CR
  clear RF SZ
  generalize rnS s = L at *
  have HG : ∀ (W : World) (n : Nat), Holds rc (W.alloc (.cells ((L.map rc).toArray ++ Array.replicate n (.int .i32 0)) 21)).drew W.heap.size 0 L.toArray := by
    intro W n j hj
    have hj' : j < L.length := by simpa using hj
    rw [Nat.zero_add]
    refine ⟨?_, ?_⟩
    · rw [World.cell?_drew, World.cell?_alloc_mark]
      rw [Array.getElem?_append_left (by simpa using hj')]
      simp [hj', getElem!_pos]
    · exact (World.frozen?_alloc_mark _ _ _ 0 0 j).trans (by simp)
  have CE := CR.out w
  have RV := Lib.hid (show ∀ (W : World) (g cap : Nat), Holds rc W g 0 L.toArray → Calls Tryd.prog 33 #[.slice (some ⟨g, 0, none⟩) L.length cap] W fun e w' => e = .returned (.tuple #[]) ∧ ∃ n, w' = putRow rc (Sort.ahead W n) g 0 L.reverse.toArray from fun (W : World) (g cap : Nat) (hH : Holds rc W g 0 L.toArray) => AnyE.slices_Reverse rlays35 rc rc_one g 0 cap L W hH (by omega))
  have HG' := Lib.hid HG
  have BB := Lib.hid (fun n : Nat => ((Below.refl w.heap.size w).alloc (Nat.le_refl _) (.cells ((L.map rc).toArray ++ Array.replicate n (.int .i32 0)) 21)).drew)
  clear HG CR
  generalize grownCap w L.length 0 21 = cap at *
  go_enter Tryd.func17, Tryd.ntmps17
  go_wp2_with fail
  refine (RV.out _ w.heap.size cap (HG'.out w _)).mono ?_
  rintro e w2 ⟨rfl, n, hw2⟩
  have B2 : Below w.heap.size w w2 := by rw [hw2]; exact Lib.below_putRow (BB.out _) (Nat.le_refl _)
  have H2 : Holds rc w2 w.heap.size 0 L.reverse.toArray := by rw [hw2]; exact holds_putRow rc _ _ _ L.toArray _ (holds_ahead rc _ _ _ _ _ (HG'.out w _)) (by simp)
  have CV : (convert 27 9 (.slice (some ⟨w.heap.size, 0, none⟩) L.length cap)).run Tryd.prog w2 = .ok (.string ⟨(enc L.reverse).toArray⟩) w2 := by
    rw [run_convert_runes w2 27 9 21 ⟨w.heap.size, 0, none⟩ L.length cap (L.reverse.map fun r : Nat => (r : Int)) (by simp) Tryd.underlying27 Tryd.underlying21 Tryd.underlying9 ?_]
    · rw [List.take_of_length_le (by simp), runesBytes_L]
    · intro j hj
      have hj' : j < L.reverse.length := by simpa using hj
      have c := (H2 j (by simpa using hj')).1
      rw [Nat.zero_add] at c
      rw [show Addr.add (⟨w.heap.size, 0, none⟩ : Addr) j = ⟨w.heap.size, j, none⟩ from by unfold Addr.add; split <;> simp_all, c]
      rw [List.getD_eq_getElem?_getD, List.getElem?_map, List.getElem?_eq_getElem hj']
      rw [show L.reverse.toArray[j]! = L.reverse[j]'hj' from by rw [getElem!_pos _ _ (by simpa using hj')]; simp]
      rfl
  clear hw2 H2 BB HG' RV CE
  generalize enc L.reverse = X at *
  go_wp2
  go_ret
  exact ⟨rfl, B2⟩
set_option linter.unusedVariables false in
set_option linter.unusedSimpArgs false in
set_option maxRecDepth 100000 in
set_option maxHeartbeats 2000000 in
/-- Three texts in a slice. -/
theorem split_ex (w : World) : Calls Tryd.prog 22 #[.string ⟨#[97, 44, 44, 98]⟩, .string ⟨#[44]⟩] w fun e w' => ∃ g o c, e = .returned (.slice (some ⟨g, o, none⟩) 3 c) ∧ 3 ≤ c ∧ c ≤ maxLen ∧ g < w'.heap.size ∧ w'.cell? ⟨g, o + 1, none⟩ = some (.string ⟨#[]⟩) ∧ Below w.heap.size w w' := by
  have GS := Lib.hid (fun W => Any.strings_genSplit_core Tryd.lays221 (by kernel_rfl) ⟨#[97, 44, 44, 98]⟩ ⟨#[44]⟩ 0 (-1) 3 W (by decide) (by decide) (by decide)
    (fun x c hx => (Tryd.strings_Index_one x 44 _).mono fun e w' h => ⟨h.1.trans (congrArg Ending.returned (congrArg (Value.int IntKind.i64) (Lib.index_one x.data.toList 44).symm)), h.2⟩)
    ((Tryd.strings_Count_one ⟨#[97, 44, 44, 98]⟩ 44 W).mono fun e w' h => ⟨h.1.trans (congrArg Ending.returned (congrArg (Value.int IntKind.i64) (by decide +kernel))), h.2⟩) (by decide) (by decide) (by decide +kernel))
  have CS := Lib.hid (show ∀ W, Calls Tryd.prog 39 #[.string ⟨#[97, 44, 44, 98]⟩, .string ⟨#[44]⟩, .int .i64 0, .int .i64 (-1)] W fun e w' => e = .returned (.slice (some ⟨W.heap.size, 0, none⟩) 3 3) ∧ w' = W.alloc (.cells #[.string ⟨#[97]⟩, .string ⟨#[]⟩, .string ⟨#[98]⟩] 9) from fun W => (GS.out W).mono fun e w' h => by
    have e1 : (Lib.splitB ⟨#[44]⟩ 0 (3 - 1) ⟨#[97, 44, 44, 98]⟩).length = 3 := by decide +kernel
    have e2 : Lib.splitB ⟨#[44]⟩ 0 (3 - 1) ⟨#[97, 44, 44, 98]⟩ = [⟨#[97]⟩, ⟨#[]⟩, ⟨#[98]⟩] := by decide +kernel
    refine ⟨?_, ?_⟩
    · have q := h.1
      rw [e1] at q
      exact q
    · have q := h.2
      rw [e2] at q
      exact q)
  have CT := Lib.hid (show ∀ W, Calls Tryd.prog 34 #[.string ⟨#[97, 44, 44, 98]⟩, .string ⟨#[44]⟩] W fun e w' => e = .returned (.slice (some ⟨W.heap.size, 0, none⟩) 3 3) ∧ w' = W.alloc (.cells #[.string ⟨#[97]⟩, .string ⟨#[]⟩, .string ⟨#[98]⟩] 9) from fun W => by
    go_enter Tryd.func34, Tryd.ntmps34
    go_wp2_with (go_at_call 39; (with_reducible refine (CS.out _).mono ?_); rintro e w1 ⟨rfl, hw⟩)
    go_ret
    first | exact ⟨rfl, hw⟩ | exact ⟨rfl, rfl⟩)
  clear GS CS
  go_enter Tryd.func22, Tryd.ntmps22
  go_wp2_with (go_at_call 34; (with_reducible refine (CT.out _).mono ?_); rintro e w1 ⟨rfl, hw⟩)
  go_ret
  subst hw
  refine ⟨_, 0, 3, rfl, by decide, by decide, by simp, ?_, (Below.refl _ _).alloc (Nat.le_refl _) _⟩
  rw [World.cell?_alloc_mark]
  rfl
set_option linter.unusedVariables false in
set_option linter.unusedSimpArgs false in
set_option maxRecDepth 100000 in
set_option maxHeartbeats 2000000 in
theorem index_ex (w : World) : Calls Tryd.prog 46 #[.string ⟨#[97, 98, 99]⟩, .string ⟨#[]⟩] w fun e w' => e = .returned (.int .i64 0) ∧ w' = w := by
  go_enter Tryd.func46, Tryd.ntmps46
  go_wp2
  go_ret
  exact ⟨rfl, rfl⟩
set_option linter.unusedVariables false in
set_option linter.unusedSimpArgs false in
set_option maxRecDepth 100000 in
set_option maxHeartbeats 2000000 in
theorem cut_ex (w : World) : Calls Tryd.prog 35 #[.string ⟨#[97, 98, 99]⟩, .string ⟨#[]⟩] w fun e w' => e = .returned (.tuple #[.string ⟨#[]⟩, .string ⟨#[97, 98, 99]⟩, .bool true]) ∧ Below w.heap.size w w' := by
  have CL := Lib.hid (show ∀ W, Calls Tryd.prog 40 #[.string ⟨#[97, 98, 99]⟩, .string ⟨#[]⟩] W fun e w' => e = .returned (.tuple #[.string ⟨#[]⟩, .string ⟨#[97, 98, 99]⟩, .bool true]) ∧ Below W.heap.size W w' from fun W => by
    have IX := Lib.hid (fun W => index_ex W)
    have mixed : Tryd.prog.follows .mixedOrders = true := by kernel_rfl
    have wr0 : IntKind.i64.wrap 0 = 0 := by decide
    go_enter Tryd.func40, Tryd.ntmps40
    go_wp2_with (go_at_call 46; (with_reducible refine (IX.out _).mono ?_); rintro e w1 ⟨rfl, rfl⟩)
    go_region_o
    go_wp2
    go_ret3
    exact ⟨rfl, by go_grown⟩)
  go_enter Tryd.func35, Tryd.ntmps35
  go_wp2_with (go_at_call 40; (with_reducible refine (CL.out _).mono ?_); rintro e w1 ⟨rfl, b1⟩)
  go_ret3
  exact ⟨rfl, b1⟩
set_option linter.unusedVariables false in
set_option linter.unusedSimpArgs false in
set_option maxRecDepth 100000 in
set_option maxHeartbeats 2000000 in
theorem before_ex (w : World) : Calls Tryd.prog 23 #[.string ⟨#[97, 98, 99]⟩, .string ⟨#[]⟩] w (Ret (.string ⟨#[]⟩) w) := by
  have CU := Lib.hid (fun W => cut_ex W)
  go_enter Tryd.func23, Tryd.ntmps23
  go_wp2_with (go_at_call 35; (with_reducible refine (CU.out _).mono ?_); rintro e w1 ⟨rfl, b1⟩)
  go_ret
  exact ⟨rfl, b1⟩
set_option linter.unusedVariables false in
set_option linter.unusedSimpArgs false in
set_option maxRecDepth 100000 in
set_option maxHeartbeats 2000000 in
theorem after_ex (w : World) : Calls Tryd.prog 24 #[.string ⟨#[97, 98, 99]⟩, .string ⟨#[]⟩] w (Ret (.string ⟨#[97, 98, 99]⟩) w) := by
  have CU := Lib.hid (fun W => cut_ex W)
  go_enter Tryd.func24, Tryd.ntmps24
  go_wp2_with (go_at_call 35; (with_reducible refine (CU.out _).mono ?_); rintro e w1 ⟨rfl, b1⟩)
  go_ret
  exact ⟨rfl, b1⟩
end Go.Proofs.YtfdbpeplmkfijaaDoor

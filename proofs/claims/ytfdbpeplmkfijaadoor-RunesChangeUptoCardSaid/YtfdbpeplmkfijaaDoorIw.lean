/-
  What package runes answers: Letter, Digit, Space, Length, Upper, Lower, as contracts of their calls.
-/
import Derived.Test.YtfdbpeplmkfijaaDoorJq
import Derived.Test.YtfdbpeplmkfijaaDoorIe
import Derived.Test.YtfdbpeplmkfijaaDoorIf
namespace Go.Proofs.YtfdbpeplmkfijaaDoor
open Go.RowKit Go.Lib

set_option linter.unusedVariables false in
set_option linter.unusedSimpArgs false in
set_option maxRecDepth 100000 in
set_option maxHeartbeats 2000000 in
theorem letterP_any (r : Int) (h : -2147483648 ≤ r ∧ r ≤ 2147483647) (w : World) : Calls Tryd.prog 19 #[.int .i32 r] w (Ret (.bool ((decide (97 ≤ r) && decide (r ≤ 122)) || (decide (65 ≤ r) && decide (r ≤ 90)) || r == 95 || decide (128 ≤ r))) w) := by
  go_enter Tryd.func19, Tryd.ntmps19
  go_wp2
  all_goals go_ret
  all_goals (refine ⟨congrArg Ending.returned (congrArg Value.bool ?_), Below.refl _ _⟩; first | rfl | (rw [Bool.eq_iff_iff]; simp; omega))
set_option linter.unusedVariables false in
set_option linter.unusedSimpArgs false in
set_option maxRecDepth 100000 in
set_option maxHeartbeats 2000000 in
theorem digitP_any (r : Int) (h : -2147483648 ≤ r ∧ r ≤ 2147483647) (w : World) : Calls Tryd.prog 20 #[.int .i32 r] w (Ret (.bool (decide (48 ≤ r) && decide (r ≤ 57))) w) := by
  go_enter Tryd.func20, Tryd.ntmps20
  go_wp2
  all_goals go_ret
  all_goals (refine ⟨congrArg Ending.returned (congrArg Value.bool ?_), Below.refl _ _⟩; first | rfl | (rw [Bool.eq_iff_iff]; simp; omega))
set_option linter.unusedVariables false in
set_option linter.unusedSimpArgs false in
set_option maxRecDepth 100000 in
set_option maxHeartbeats 2000000 in
theorem spaceP_any (r : Int) (h : -2147483648 ≤ r ∧ r ≤ 2147483647) (w : World) : Calls Tryd.prog 21 #[.int .i32 r] w (Ret (.bool (r == 32 || r == 9 || r == 10 || r == 13)) w) := by
  go_enter Tryd.func21, Tryd.ntmps21
  go_wp2
  all_goals go_ret
  all_goals (refine ⟨congrArg Ending.returned (congrArg Value.bool ?_), Below.refl _ _⟩; first | rfl | (rw [Bool.eq_iff_iff]; simp; omega))
set_option linter.unusedVariables false in
set_option linter.unusedSimpArgs false in
set_option maxRecDepth 100000 in
set_option maxHeartbeats 2000000 in
/-- Length: how many runes there are. -/
theorem length_any (s : ByteArray) (hs : s.size ≤ 17592186044416) (w : World) : Calls Tryd.prog 11 #[.string s] w (Ret (.int .i64 (((rnS s).length : Nat) : Int)) w) := by
  go_enter Tryd.func11, Tryd.ntmps11
  go_wp2
  go_loopw [3] (fun o wr => ∃ (pos n : Nat), o = .int .i64 (n : Int) ∧ wr.heap[w.heap.size]? = some (.stringIter s pos) ∧ Below w.heap.size w wr ∧ Hid (n + (rn (s.data.toList.drop pos)).length = (rnS s).length)) (fun o wr => s.size - wr.iterPos (w.heap.size))
  case atStart =>
    refine ⟨0, 0, rfl, ?_, (Below.refl _ _).alloc (Nat.le_refl _) _, Lib.hid (by rw [List.drop_zero, Nat.zero_add]; rfl)⟩
    have := World.iter_heap w s 0
    simpa using this
  case round =>
    obtain ⟨pos, n, rfl, hit, hbw, hL⟩ := hrel
    have hsz : w.heap.size < wr.heap.size := (Array.getElem?_eq_some_iff.1 hit).1
    by_cases hp : pos < s.size
    · have hnx : ∀ ty, (Instr.next (.pointer (some ⟨w.heap.size, 0, none⟩)) true ty).run Tryd.prog wr = _ := fun ty => Lib.run_next_any_at wr (w.heap.size) s pos ty hit hp
      have hwd := Lib.width_pos s pos
      have hd1 := decode_le s pos
      have hit2 := Lib.iterAt_heap wr (w.heap.size) s pos (pos + (Utf8.decode s pos).2) hit
      have hbw2 := Lib.below_iterAt hbw (k := w.heap.size) (by omega) s (pos + (Utf8.decode s pos).2)
      have ST := Lib.hid (rn_at s pos hp)
      have LE : n + 1 ≤ s.size := by
        have e := hL.out
        have := rnS_le s
        rw [ST.out, List.length_cons] at e
        omega
      generalize (Utf8.decode s pos).1 = r at *
      generalize (Utf8.decode s pos).2 = d at *
      go_wp2
      go_roundw
      case rel =>
        refine ⟨pos + d, n + 1, by go_num, hit2, hbw2, Lib.hid ?_⟩
        have e := hL.out
        rw [ST.out, List.length_cons] at e
        omega
      case measure =>
        simp only [World.iterPos, hit2, hit]
        omega
    · have hnx : ∀ ty, (Instr.next (.pointer (some ⟨w.heap.size, 0, none⟩)) true ty).run Tryd.prog wr = _ := fun ty => Lib.run_next_end_at wr (w.heap.size) s pos ty hit hp
      have E := Lib.hid (rn_end s pos hp)
      go_wp2
      go_ret
      have e := hL.out
      rw [E.out, List.length_nil, Nat.add_zero] at e
      rw [← e]
      exact ⟨rfl, hbw⟩
set_option linter.unusedVariables false in
set_option linter.unusedSimpArgs false in
set_option maxRecDepth 100000 in
set_option maxHeartbeats 2000000 in
theorem upper_one (r : Nat) (hr : r ≤ 1114111) (w : World) : Calls Tryd.prog 31 #[.int .i32 (r : Int)] w fun e w' => e = .returned (.int .i32 ((mvR 97 122 (-32) r : Nat) : Int)) ∧ w' = w := by
  rcases Nat.lt_or_ge r 97 with a | a
  · have E : mvR 97 122 (-32) r = r := by unfold mvR; rw [if_neg (by omega)]
    rw [E]
    go_enter Tryd.func31, Tryd.ntmps31
    go_wp2
    go_ret
    exact ⟨rfl, rfl⟩
  rcases Nat.lt_or_ge 122 r with b | b
  · have E : mvR 97 122 (-32) r = r := by unfold mvR; rw [if_neg (by omega)]
    rw [E]
    go_enter Tryd.func31, Tryd.ntmps31
    go_wp2
    go_ret
    exact ⟨rfl, rfl⟩
  · have E : ((mvR 97 122 (-32) r : Nat) : Int) = (r : Int) - 97 + 65 := by unfold mvR; rw [if_pos (by omega)]; omega
    rw [E]
    go_enter Tryd.func31, Tryd.ntmps31
    go_wp2
    go_ret
    exact ⟨rfl, rfl⟩
set_option linter.unusedVariables false in
set_option linter.unusedSimpArgs false in
set_option maxRecDepth 100000 in
set_option maxHeartbeats 2000000 in
theorem lower_one (r : Nat) (hr : r ≤ 1114111) (w : World) : Calls Tryd.prog 32 #[.int .i32 (r : Int)] w fun e w' => e = .returned (.int .i32 ((mvR 65 90 32 r : Nat) : Int)) ∧ w' = w := by
  rcases Nat.lt_or_ge r 65 with a | a
  · have E : mvR 65 90 32 r = r := by unfold mvR; rw [if_neg (by omega)]
    rw [E]
    go_enter Tryd.func32, Tryd.ntmps32
    go_wp2
    go_ret
    exact ⟨rfl, rfl⟩
  rcases Nat.lt_or_ge 90 r with b | b
  · have E : mvR 65 90 32 r = r := by unfold mvR; rw [if_neg (by omega)]
    rw [E]
    go_enter Tryd.func32, Tryd.ntmps32
    go_wp2
    go_ret
    exact ⟨rfl, rfl⟩
  · have E : ((mvR 65 90 32 r : Nat) : Int) = (r : Int) - 65 + 97 := by unfold mvR; rw [if_pos (by omega)]; omega
    rw [E]
    go_enter Tryd.func32, Tryd.ntmps32
    go_wp2
    go_ret
    exact ⟨rfl, rfl⟩
theorem byteCells_enc (L : List Nat) (r : Nat) : byteCells (enc L) ++ runeCells (r : Int) = byteCells (enc (L ++ [r])) := by
  rw [enc_append, enc_cons, enc_nil, List.append_nil, byteCells_append, byteCells_encodeRune]
set_option linter.unusedVariables false in
set_option linter.unusedSimpArgs false in
set_option maxRecDepth 100000 in
set_option maxHeartbeats 4000000 in
/-- mapped: any function that answers a rune for a rune and changes nothing. -/
theorem mapped_any (s : ByteArray) (g : FuncId) (f : Nat → Nat) (hge : ∀ args W, (callFunc g args).run Tryd.prog W = .ok (.enter g args) W) (hf : ∀ r, r ≤ 1114111 → f r ≤ 2147483647) (hg : ∀ r, r ≤ 1114111 → ∀ W, Calls Tryd.prog g #[.int .i32 ((r : Nat) : Int)] W fun e w' => e = .returned (.int .i32 ((f r : Nat) : Int)) ∧ w' = W) (hs : s.size ≤ 17592186044416) (w : World) :
    Calls Tryd.prog 30 #[.string s, .func (.func g) #[] #[]] w (RetTx (enc ((rnS s).map f)) w) := by
  have HG := Lib.hid hg
  have HF := Lib.hid hf
  clear hg hf
  go_enter Tryd.func30, Tryd.ntmps30
  go_wp2
  go_loopw [] (fun wr => ∃ (pos : Nat) (L : List Nat), Hid (IsBuilderF BT BE w.heap.size w.heap.size (byteCells (enc (L.map f))) wr) ∧ wr.heap[w.heap.size + 1]? = some (.stringIter s pos) ∧ Below w.heap.size w wr ∧ Hid (L ++ rn (s.data.toList.drop pos) = rnS s)) (fun wr => s.size - wr.iterPos (w.heap.size + 1))
  case atStart =>
    refine ⟨0, [], Lib.hid ((Lib.IsBuilderF.of (Lib.fresh_isBuilder BT BE w)).alloc _), ?_, ((Below.refl _ w).alloc (Nat.le_refl _) _).alloc (by simp) _, Lib.hid rfl⟩
    have := World.iter_heap (w.alloc (.cells #[.pointer none, .slice none 0 0] BT)) s 0
    simpa using this
  case round =>
    obtain ⟨pos, L, hI, hit, hbw, hL⟩ := hrel
    have hsz : w.heap.size + 1 < wr.heap.size := (Array.getElem?_eq_some_iff.1 hit).1
    have LE : L.length ≤ s.size := by
      have e := congrArg List.length hL.out
      have := rnS_le s
      rw [List.length_append] at e
      omega
    have ZE := (enc_length_le (L.map f)).2
    rw [List.length_map] at ZE
    by_cases hp : pos < s.size
    · have hnx : ∀ ty, (Instr.next (.pointer (some ⟨w.heap.size + 1, 0, none⟩)) true ty).run Tryd.prog wr = _ := fun ty => Lib.run_next_any_at wr (w.heap.size + 1) s pos ty hit hp
      have hwd := Lib.width_pos s pos
      have hd1 := decode_le s pos
      have hI2 := Lib.hid (hI.out.iterAt hit (pos + (Utf8.decode s pos).2))
      have hit2 := Lib.iterAt_heap wr (w.heap.size + 1) s pos (pos + (Utf8.decode s pos).2) hit
      have hbw2 := Lib.below_iterAt hbw (k := w.heap.size + 1) (by omega) s (pos + (Utf8.decode s pos).2)
      have hsz2 : w.heap.size ≤ (wr.iterAt (w.heap.size + 1) s (pos + (Utf8.decode s pos).2)).heap.size := by rw [Lib.iterAt_size]; omega
      have ST := Lib.hid (rn_at s pos hp)
      have RV : (Utf8.decode s pos).1 ≤ 1114111 := by
        have q : Vr (Utf8.decode s pos).1 := rn_vr (s.data.toList.drop pos) _ (by rw [ST.out]; exact List.mem_cons_self ..)
        unfold Vr at q
        omega
      generalize (Utf8.decode s pos).1 = r at *
      generalize (Utf8.decode s pos).2 = d at *
      have CF := Lib.hid (HG.out r RV)
      have FB := HF.out r RV
      have WR := Lib.hid (fun W hI2 hz => WriteRune_k w.heap.size w.heap.size (byteCells (enc (L.map f))) ((f r : Nat) : Int) (by omega) (by omega) W hI2 (by rw [Lib.byteCells_length]; omega) hz)
      have FE : Hid (byteCells (enc (L.map f)) ++ runeCells ((f r : Nat) : Int) = byteCells (enc ((L ++ [r]).map f))) := Lib.hid (by rw [byteCells_enc, List.map_append]; rfl)
      generalize f r = q at *
      go_wp2_with (first
        | (go_at_fn g; (with_reducible refine (CF.out _).mono ?_); rintro e W0 ⟨rfl, rfl⟩)
        | (go_at_call 27; (with_reducible refine (WR.out _ hI2.out hsz2).mono ?_); rintro e W1 ⟨rfl, h1, b1, k1⟩))
      have h1' : Hid (IsBuilderF BT BE w.heap.size w.heap.size (byteCells (enc ((L ++ [r]).map f))) W1) := Lib.hid (by rw [← FE.out]; exact Or.inr h1)
      have IT := k1.iter hit2 (by omega)
      clear h1 hI hI2
      go_wp2
      go_roundw
      case rel =>
        refine ⟨pos + d, L ++ [r], h1', IT, hbw2.trans b1, Lib.hid ?_⟩
        rw [List.append_assoc, List.singleton_append, ← ST.out]
        exact hL.out
      case measure =>
        simp only [World.iterPos, IT, hit]
        omega
    · have hnx : ∀ ty, (Instr.next (.pointer (some ⟨w.heap.size + 1, 0, none⟩)) true ty).run Tryd.prog wr = _ := fun ty => Lib.run_next_end_at wr (w.heap.size + 1) s pos ty hit hp
      have E := Lib.hid (rn_end s pos hp)
      have SB := Lib.hid (Tryd.Builder_String_any_k w.heap.size w.heap.size (enc (L.map f)) wr hI.out (by omega))
      clear hI
      go_wp2_with (go_at_call 28; (with_reducible refine SB.out.mono ?_); rintro e W1 ⟨rfl, _, b1, _⟩)
      go_ret
      have e := hL.out
      rw [E.out, List.append_nil] at e
      rw [← e]
      exact ⟨rfl, hbw.trans b1⟩
theorem mv_le (a z : Nat) (b : Int) (hb : b ≤ 1000) (r : Nat) (hr : r ≤ 1114111) : mvR a z b r ≤ 2147483647 := by
  unfold mvR
  split <;> omega
set_option linter.unusedVariables false in
set_option linter.unusedSimpArgs false in
set_option maxRecDepth 100000 in
set_option maxHeartbeats 2000000 in
theorem upper_any (s : ByteArray) (hs : s.size ≤ 17592186044416) (w : World) : Calls Tryd.prog 14 #[.string s] w (RetTx (enc ((rnS s).map (mvR 97 122 (-32)))) w) := by
  have CM := Lib.hid (fun W => mapped_any s 31 (mvR 97 122 (-32)) (enters_of Tryd.func31 (by kernel_rfl) rfl) (mv_le _ _ _ (by decide)) (fun r hr W => upper_one r hr W) hs W)
  generalize enc ((rnS s).map (mvR 97 122 (-32))) = X at *
  go_enter Tryd.func14, Tryd.ntmps14
  go_wp2_with (go_at_call 30; (with_reducible refine (CM.out _).mono ?_); rintro e w1 ⟨rfl, b1⟩)
  go_ret
  exact ⟨rfl, b1⟩
set_option linter.unusedVariables false in
set_option linter.unusedSimpArgs false in
set_option maxRecDepth 100000 in
set_option maxHeartbeats 2000000 in
theorem lower_any (s : ByteArray) (hs : s.size ≤ 17592186044416) (w : World) : Calls Tryd.prog 16 #[.string s] w (RetTx (enc ((rnS s).map (mvR 65 90 32))) w) := by
  have CM := Lib.hid (fun W => mapped_any s 32 (mvR 65 90 32) (enters_of Tryd.func32 (by kernel_rfl) rfl) (mv_le _ _ _ (by decide)) (fun r hr W => lower_one r hr W) hs W)
  generalize enc ((rnS s).map (mvR 65 90 32)) = X at *
  go_enter Tryd.func16, Tryd.ntmps16
  go_wp2_with (go_at_call 30; (with_reducible refine (CM.out _).mono ?_); rintro e w1 ⟨rfl, b1⟩)
  go_ret
  exact ⟨rfl, b1⟩
end Go.Proofs.YtfdbpeplmkfijaaDoor

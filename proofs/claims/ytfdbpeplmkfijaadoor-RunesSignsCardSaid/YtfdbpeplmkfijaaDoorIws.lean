/-
  What package runes answers: Sub, as a contract of its call.
-/
import Derived.Test.YtfdbpeplmkfijaaDoorIw
namespace Go.Proofs.YtfdbpeplmkfijaaDoor
open Go.RowKit Go.Lib

set_option linter.unusedVariables false in
set_option linter.unusedSimpArgs false in
set_option maxRecDepth 100000 in
set_option maxHeartbeats 2000000 in
theorem place_yes (f : Int) (len K : Nat) (hl : len ≤ 17592186044416) (hf : I64 f) (hK : K < len) (h : (f < 0 ∧ (len : Int) + f = K) ∨ (0 < f ∧ f - 1 = K)) (w : World) :
    Calls Tryd.prog 26 #[.int .i64 f, .int .i64 (len : Int)] w fun e w' => e = .returned (.tuple #[.int .i64 (K : Int), .bool true]) ∧ w' = w := by
  obtain ⟨f1, f2⟩ := hf
  rcases h with ⟨a, b⟩ | ⟨a, b⟩
  · obtain rfl : f = (K : Int) - (len : Int) := by omega
    have e1 : (K : Int) - (len : Int) + ((len : Int) + 1) = (K : Int) + 1 := by omega
    have e2 : (K : Int) + 1 - 1 = (K : Int) := by omega
    have c1 : (K : Int) - (len : Int) < 0 := by omega
    have c2 : (1 : Int) ≤ (K : Int) + 1 := by omega
    have c3 : (K : Int) + 1 ≤ (len : Int) := by omega
    have d1 : decide ((1 : Int) ≤ (K : Int) + 1) = true := decide_eq_true c2
    have d2 : decide ((K : Int) + 1 ≤ (len : Int)) = true := decide_eq_true c3
    go_enter Tryd.func26, Tryd.ntmps26
    go_wp2
    all_goals first | (exfalso; omega) | skip
    all_goals go_ret2
    all_goals exact ⟨by simp, rfl⟩
  · obtain rfl : f = (K : Int) + 1 := by omega
    have e2 : (K : Int) + 1 - 1 = (K : Int) := by omega
    have c1 : ¬ ((K : Int) + 1 < 0) := by omega
    have c2 : (1 : Int) ≤ (K : Int) + 1 := by omega
    have c3 : (K : Int) + 1 ≤ (len : Int) := by omega
    have d1 : decide ((1 : Int) ≤ (K : Int) + 1) = true := decide_eq_true c2
    have d2 : decide ((K : Int) + 1 ≤ (len : Int)) = true := decide_eq_true c3
    go_enter Tryd.func26, Tryd.ntmps26
    go_wp2
    all_goals first | (exfalso; omega) | skip
    all_goals go_ret2
    all_goals exact ⟨by simp, rfl⟩
set_option linter.unusedVariables false in
set_option linter.unusedSimpArgs false in
set_option maxRecDepth 100000 in
set_option maxHeartbeats 2000000 in
theorem place_no (f : Int) (len : Nat) (hl : len ≤ 17592186044416) (hf : I64 f) (h : f = 0 ∨ (f < 0 ∧ (len : Int) + f < 0) ∨ (0 < f ∧ (len : Int) < f)) (w : World) :
    Calls Tryd.prog 26 #[.int .i64 f, .int .i64 (len : Int)] w fun e w' => ∃ x, e = .returned (.tuple #[.int .i64 x, .bool false]) ∧ w' = w := by
  obtain ⟨f1, f2⟩ := hf
  rcases h with rfl | ⟨a, b⟩ | ⟨a, b⟩
  · go_enter Tryd.func26, Tryd.ntmps26
    go_wp2
    go_ret2
    exact ⟨_, rfl, rfl⟩
  · have c2 : ¬ ((1 : Int) ≤ f + ((len : Int) + 1)) := by omega
    have d1 : decide ((1 : Int) ≤ f + ((len : Int) + 1)) = false := decide_eq_false c2
    go_enter Tryd.func26, Tryd.ntmps26
    go_wp2
    all_goals first | (exfalso; omega) | skip
    all_goals go_ret2
    all_goals first | exact ⟨_, rfl, rfl⟩ | exact ⟨⟨_, rfl⟩, rfl⟩
  · have c1 : ¬ (f < 0) := by omega
    have c2 : (1 : Int) ≤ f := by omega
    have c3 : ¬ (f ≤ (len : Int)) := by omega
    have d1 : decide ((1 : Int) ≤ f) = true := decide_eq_true c2
    have d2 : decide (f ≤ (len : Int)) = false := decide_eq_false c3
    go_enter Tryd.func26, Tryd.ntmps26
    go_wp2
    all_goals first | (exfalso; omega) | skip
    all_goals go_ret2
    all_goals first | exact ⟨_, rfl, rfl⟩ | exact ⟨⟨_, rfl⟩, rfl⟩
/-- So many runes from place K on. -/
def subM (L : List Nat) (K : Nat) (n : Int) : List Nat := if n < 0 then L.drop K else (L.drop K).take n.toNat
theorem subM_out (L : List Nat) (K : Nat) (n : Int) (r : Nat) (h : L.length < K) : subM (L ++ [r]) K n = subM L K n := by
  unfold subM
  rw [List.drop_eq_nil_of_le (show (L ++ [r]).length ≤ K by simp; omega), List.drop_eq_nil_of_le (show L.length ≤ K by omega)]
theorem subM_add (L : List Nat) (K : Nat) (n : Int) (r : Nat) (h : K ≤ L.length) (hn : n < 0 ∨ (L.length : Int) - K < n) : subM (L ++ [r]) K n = subM L K n ++ [r] := by
  unfold subM
  rw [List.drop_append_of_le_length h]
  split
  · rfl
  · have z : (L.drop K).length < n.toNat := by rw [List.length_drop]; omega
    rw [List.take_of_length_le (by rw [List.length_append, List.length_singleton]; omega), List.take_of_length_le (Nat.le_of_lt z)]
theorem subM_full (L : List Nat) (K : Nat) (n : Int) (r : Nat) (h : K ≤ L.length) (h0 : 0 ≤ n) (hn : n ≤ (L.length : Int) - K) : subM (L ++ [r]) K n = subM L K n := by
  unfold subM
  rw [if_neg (by omega), if_neg (by omega), List.drop_append_of_le_length h, List.take_append_of_le_length (by rw [List.length_drop]; omega)]
theorem subM_len (L : List Nat) (K : Nat) (n : Int) : (subM L K n).length ≤ L.length := by
  unfold subM
  split
  · rw [List.length_drop]; omega
  · rw [List.length_take, List.length_drop]; omega
theorem subM_nil (K : Nat) (n : Int) : subM [] K n = [] := by
  unfold subM
  simp
set_option linter.unusedVariables false in
set_option linter.unusedSimpArgs false in
set_option maxRecDepth 100000 in
set_option maxHeartbeats 4000000 in
theorem sub_none_p (s : ByteArray) (f n : Int) (hf : I64 f) (w : World) (hs : s.size ≤ 17592186044416) (h : f = 0 ∨ (f < 0 ∧ ((rnS s).length : Int) + f < 0) ∨ (0 < f ∧ ((rnS s).length : Int) < f)) :
    Calls Tryd.prog 9 #[.string s, .int .i64 f, .int .i64 n] w (RetSub none w) := by
  have CL := Lib.hid (fun W => length_any s hs W)
  have LE := rnS_le s
  have CP := Lib.hid (fun W => place_no f (rnS s).length (by omega) hf h W)
  clear h
  obtain ⟨f1, f2⟩ := hf
  generalize rnS s = L at *
  have NB : (L.length : Int) ≤ 9223372036854775806 := by omega
  go_enter Tryd.func9, Tryd.ntmps9
  go_wp2_with (first
    | (go_at_call 11; (with_reducible refine (CL.out _).mono ?_); rintro e w1 ⟨rfl, b1⟩)
    | (go_at_call 26; (with_reducible refine (CP.out _).mono ?_); rintro e w2 ⟨x, rfl, rfl⟩))
  go_ret2
  exact ⟨rfl, b1⟩
set_option linter.unusedVariables false in
set_option linter.unusedSimpArgs false in
set_option maxRecDepth 100000 in
set_option maxHeartbeats 8000000 in
theorem sub_some_p (s : ByteArray) (f n : Int) (K : Nat) (hf : I64 f) (hn : I64 n) (w : World) (hs : s.size ≤ 17592186044416) (hK : K < (rnS s).length) (h : (f < 0 ∧ ((rnS s).length : Int) + f = K) ∨ (0 < f ∧ f - 1 = K)) :
    Calls Tryd.prog 9 #[.string s, .int .i64 f, .int .i64 n] w (RetSub (some (subM (rnS s) K n)) w) := by
  have CL := Lib.hid (fun W => length_any s hs W)
  have LE0 := rnS_le s
  have CP := Lib.hid (fun W => place_yes f (rnS s).length K (by omega) hf hK h W)
  have K1 : (K : Int) ≤ 17592186044416 := by omega
  clear h
  obtain ⟨f1, f2⟩ := hf
  obtain ⟨n1, n2⟩ := hn
  have NB : ((rnS s).length : Int) ≤ 9223372036854775806 := by omega
  go_enter Tryd.func9, Tryd.ntmps9
  go_wp2_with (first
    | (go_at_call 11; (with_reducible refine (CL.out _).mono ?_); rintro e w1 ⟨rfl, b1⟩)
    | (go_at_call 26; (with_reducible refine (CP.out _).mono ?_); rintro e wq ⟨rfl, rfl⟩))
  go_loopw [11] (fun o wr => ∃ (pos : Nat) (L : List Nat), o = .int .i64 (L.length : Int) ∧ Hid (IsBuilderF BT BE wq.heap.size wq.heap.size (byteCells (enc (subM L K n))) wr) ∧ wr.heap[wq.heap.size + 1]? = some (.stringIter s pos) ∧ Below wq.heap.size wq wr ∧ Hid (L ++ rn (s.data.toList.drop pos) = rnS s)) (fun o wr => s.size - wr.iterPos (wq.heap.size + 1))
  case atStart =>
    refine ⟨0, [], rfl, Lib.hid (by rw [subM_nil]; exact (Lib.IsBuilderF.of (Lib.fresh_isBuilder BT BE wq)).alloc _), ?_, ((Below.refl _ wq).alloc (Nat.le_refl _) _).alloc (by simp) _, Lib.hid rfl⟩
    have := World.iter_heap (wq.alloc (.cells #[.pointer none, .slice none 0 0] BT)) s 0
    simpa using this
  case round =>
    obtain ⟨pos, L, rfl, hI, hit, hbw, hL⟩ := hrel
    have hsz : wq.heap.size + 1 < wr.heap.size := (Array.getElem?_eq_some_iff.1 hit).1
    have LE : L.length ≤ s.size := by
      have e := congrArg List.length hL.out
      rw [List.length_append] at e
      omega
    have ZE := (enc_length_le (subM L K n)).2
    have ZL := subM_len L K n
    by_cases hp : pos < s.size
    · have hnx : ∀ ty, (Instr.next (.pointer (some ⟨wq.heap.size + 1, 0, none⟩)) true ty).run Tryd.prog wr = _ := fun ty => Lib.run_next_any_at wr (wq.heap.size + 1) s pos ty hit hp
      have hwd := Lib.width_pos s pos
      have hd1 := decode_le s pos
      have hI2 := Lib.hid (hI.out.iterAt hit (pos + (Utf8.decode s pos).2))
      have hit2 := Lib.iterAt_heap wr (wq.heap.size + 1) s pos (pos + (Utf8.decode s pos).2) hit
      have hbw2 := Lib.below_iterAt hbw (k := wq.heap.size + 1) (by omega) s (pos + (Utf8.decode s pos).2)
      have hsz2 : wq.heap.size ≤ (wr.iterAt (wq.heap.size + 1) s (pos + (Utf8.decode s pos).2)).heap.size := by rw [Lib.iterAt_size]; omega
      have ST := Lib.hid (rn_at s pos hp)
      have LE2 : L.length + 1 ≤ s.size := by
        have e := congrArg List.length hL.out
        rw [ST.out, List.length_append, List.length_cons] at e
        omega
      have LE3 : ((L.length : Nat) : Int) ≤ 17592186044416 := by omega
      have RV : (Utf8.decode s pos).1 ≤ 1114111 := by
        have q : Vr (Utf8.decode s pos).1 := rn_vr (s.data.toList.drop pos) _ (by rw [ST.out]; exact List.mem_cons_self ..)
        unfold Vr at q
        omega
      generalize (Utf8.decode s pos).1 = r at *
      generalize (Utf8.decode s pos).2 = d at *
      have NX : L ++ r :: rn (s.data.toList.drop (pos + d)) = rnS s := by rw [← ST.out]; exact hL.out
      have NXT := Lib.hid (show (L ++ [r]) ++ rn (s.data.toList.drop (pos + d)) = rnS s from by rw [List.append_assoc, List.singleton_append]; exact NX)
      clear NX ST hL
      by_cases A : K ≤ L.length
      · have a1 : (K : Int) ≤ (L.length : Int) := by omega
        have a2 : decide ((K : Int) ≤ (L.length : Int)) = true := decide_eq_true a1
        by_cases B : n < 0 ∨ (L.length : Int) - K < n
        · have EQ := Lib.hid (subM_add L K n r A B)
          have WR := Lib.hid (fun W hI2 hz => WriteRune_k wq.heap.size wq.heap.size (byteCells (enc (subM L K n))) ((r : Nat) : Int) (by omega) (by omega) W hI2 (by rw [Lib.byteCells_length]; omega) hz)
          have FE : Hid (byteCells (enc (subM L K n)) ++ runeCells ((r : Nat) : Int) = byteCells (enc (subM (L ++ [r]) K n))) := Lib.hid (by rw [byteCells_enc, EQ.out])
          clear EQ
          have B' : decide (n < 0) = true ∨ (decide (n < 0) = false ∧ decide ((L.length : Int) - (K : Int) < n) = true) := by
            by_cases q : n < 0
            · exact .inl (decide_eq_true q)
            · exact .inr ⟨decide_eq_false q, decide_eq_true (by omega)⟩
          have CONT : ∀ W1, BuilderAtF BT BE wq.heap.size wq.heap.size (.pointer (some ⟨wq.heap.size, 0, none⟩)) (byteCells (enc (subM L K n)) ++ runeCells ((r : Nat) : Int)) W1 → IsBuilderF BT BE wq.heap.size wq.heap.size (byteCells (enc (subM (L ++ [r]) K n))) W1 := fun W1 h1 => by rw [← FE.out]; exact Or.inr h1
          have CONT' := Lib.hid CONT
          clear CONT FE
          rcases B' with q | ⟨q, q2⟩
          all_goals
            go_wp2_with (go_at_call 27; (with_reducible refine (WR.out _ hI2.out hsz2).mono ?_); rintro e W1 ⟨rfl, h1, bb, k1⟩)
            have h1' := Lib.hid (CONT'.out _ h1)
            have IT := k1.iter hit2 (by omega)
            clear h1 hI hI2
            go_wp2
            go_roundw
            case rel => exact ⟨pos + d, L ++ [r], by rw [List.length_append, List.length_singleton]; go_num, h1', IT, hbw2.trans bb, NXT⟩
            case measure =>
              simp only [World.iterPos, IT, hit]
              omega
        · have EQ := Lib.hid (subM_full L K n r A (by omega) (by omega))
          have q : decide (n < 0) = false := decide_eq_false (by omega)
          have q2 : decide ((L.length : Int) - (K : Int) < n) = false := decide_eq_false (by omega)
          have h1' := Lib.hid (show IsBuilderF BT BE wq.heap.size wq.heap.size (byteCells (enc (subM (L ++ [r]) K n))) _ from by rw [EQ.out]; exact hI2.out)
          have qq : ¬ n < 0 := by omega
          have qq2 : ¬ ((L.length : Int) - (K : Int) < n) := by omega
          clear hI hI2 EQ B
          go_wp2
          go_roundw
          case rel => exact ⟨pos + d, L ++ [r], by rw [List.length_append, List.length_singleton]; go_num, h1', hit2, hbw2, NXT⟩
          case measure =>
            simp only [World.iterPos, hit2, hit]
            omega
      · have EQ := Lib.hid (subM_out L K n r (by omega))
        have a1 : ¬ ((K : Int) ≤ (L.length : Int)) := by omega
        have a2 : decide ((K : Int) ≤ (L.length : Int)) = false := decide_eq_false a1
        have h1' := Lib.hid (show IsBuilderF BT BE wq.heap.size wq.heap.size (byteCells (enc (subM (L ++ [r]) K n))) _ from by rw [EQ.out]; exact hI2.out)
        clear hI hI2 EQ
        go_wp2
        go_roundw
        case rel => exact ⟨pos + d, L ++ [r], by rw [List.length_append, List.length_singleton]; go_num, h1', hit2, hbw2, NXT⟩
        case measure =>
          simp only [World.iterPos, hit2, hit]
          omega
    · have hnx : ∀ ty, (Instr.next (.pointer (some ⟨wq.heap.size + 1, 0, none⟩)) true ty).run Tryd.prog wr = _ := fun ty => Lib.run_next_end_at wr (wq.heap.size + 1) s pos ty hit hp
      have E := Lib.hid (rn_end s pos hp)
      have SB := Lib.hid (Tryd.Builder_String_any_k wq.heap.size wq.heap.size (enc (subM L K n)) wr hI.out (by omega))
      clear hI
      go_wp2_with (go_at_call 28; (with_reducible refine SB.out.mono ?_); rintro e W1 ⟨rfl, _, bb, _⟩)
      go_ret2
      have e := hL.out
      rw [E.out, List.append_nil] at e
      rw [← e]
      exact ⟨rfl, bstep b1 (hbw.trans bb)⟩
/-- Sub, whatever is asked. -/
theorem sub_any (s : ByteArray) (f n : Int) (hf : I64 f) (hn : I64 n) (hs : s.size ≤ 17592186044416) (w : World) : Calls Tryd.prog 9 #[.string s, .int .i64 f, .int .i64 n] w (RetSub (subL (rnS s) f n) w) := by
  by_cases h : f = 0 ∨ (f < 0 ∧ ((rnS s).length : Int) + f < 0) ∨ (0 < f ∧ ((rnS s).length : Int) < f)
  · rw [sub_none h]
    exact sub_none_p s f n hf w hs h
  · obtain ⟨K, hK, hc⟩ : ∃ K : Nat, K < (rnS s).length ∧ ((f < 0 ∧ ((rnS s).length : Int) + f = K) ∨ (0 < f ∧ f - 1 = K)) := by
      by_cases q : f < 0
      · exact ⟨((rnS s).length + f).toNat, by omega, .inl ⟨q, by omega⟩⟩
      · exact ⟨(f - 1).toNat, by omega, .inr ⟨by omega, by omega⟩⟩
    rw [sub_some hK hc]
    exact sub_some_p s f n K hf hn w hs hK hc
end Go.Proofs.YtfdbpeplmkfijaaDoor

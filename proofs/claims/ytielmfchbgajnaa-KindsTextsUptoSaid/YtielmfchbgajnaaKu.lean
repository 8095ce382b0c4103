/-
  The law's text (layer 13): lists, ranges, words, functions; so of any type that may be.
-/
import Derived.Test.YtielmfchbgajnaaKt
import Derived.Test.YtielmfchbgajnaaJx
namespace Go.Proofs.Ytielmfchbgajnaa
open Go.RowKit Go.Shelf
theorem seq_one (it : Nat → T) (n : Nat) (h : n ≤ 1) : seqL (fun i => textL (it i)) n = if n = 0 then [] else textL (it 0) := by
  obtain rfl | rfl : n = 0 ∨ n = 1 := by omega
  · rfl
  · show [] ++ [] ++ textL (it 0) = _
    simp
set_option linter.unusedSimpArgs false in
set_option linter.unusedVariables false in
set_option maxRecDepth 100000 in
set_option maxHeartbeats 4000000 in
theorem ltext_list (n : Nat) (hn1 : n ≤ 1) (it : Nat → T) (m : Nat) (nm : Nat → ByteArray) (ih : ∀ i, i < n → LTextFor (it i)) (S : Nat → Prop) (w : World) (a : Option Addr) (c : Nat) (b : Option Addr) (d : Nat) (hl : room (.mk 10 n it m nm) + 64 ≤ 140737488355328) (h : Lies S w (TV 10 a n c b m d) (.mk 10 n it m nm)) :
    Calls Try.prog 32 #[TV 10 a n c b m d] w (Ret (.string ⟨(textL (.mk 10 n it m nm)).toArray⟩) w) := by
  obtain ⟨FW, hc, hd, hk, -, -⟩ := h.few
  have NB : (n : Int) ≤ 9223372036854775806 := by have := FW.1; omega
  have HL := Lib.hid h
  have HC := Lib.hid (And.intro hc hd)
  have IH := Lib.hid ih
  have HR := Lib.hid hl
  clear h hc hd hk ih FW hl
  go_enter Try.func32, Try.ntmps32
  go_wp2
  go_loopg [3, 5] n (fun gg s i wr => ∃ (kk : Nat), kk ≤ n ∧ n - kk ≤ gg ∧ s = .string ⟨(seqL (fun i => textL (it i)) kk).toArray⟩ ∧ i = .int .i64 (kk : Int) ∧ Hid (Boxed wr w.heap.size (.int .i64 10) (.slice a n c) (.slice b m d)) ∧ Hid (Below w.heap.size w wr))
  case atStart => exact ⟨0, Nat.zero_le _, Nat.le_refl _, rfl, rfl, Lib.hid (Boxed.new w _ _ _), Lib.hid ((Below.refl _ _).alloc (Nat.le_refl _) _)⟩
  case round =>
    obtain ⟨kk, hkk, hg, rfl, rfl, BX, HB⟩ := hrel
    obtain ⟨x0, x1, x2⟩ := BX.out.cells
    have gx := BX.out.lt
    by_cases hlt : kk < n
    · obtain ⟨g3, o3, rfl, k3, a3, n3, c3, b3, m3, d3, t0, t1, t2, tg, L3⟩ := (HL.out.on HB.out).item kk (by omega)
      have hlti : (0 : Int) ≤ (kk : Int) ∧ (kk : Int) < (n : Int) := by omega
      have hltn : (0 : Int) ≤ (kk : Int) ∧ (kk : Int) < (n : Int) := by omega
      have le0 := HB.out.size
      have r1 : (seqL (fun i => textL (it i)) kk).length + (room (it kk) + 8) ≤ room (.mk 10 n it m nm) := by
        obtain rfl : kk = 0 := by omega
        have q := sumN_at (fun i => room (it i) + 8) n 0 hlt
        have e0 : (seqL (fun i => textL (it i)) 0).length = 0 := rfl
        show _ ≤ (if (10 : Int) = 0 then 40 else 80) + sumN (fun i => room (it i) + 8) n + sumN (fun i => 5 * (nm i).size + 8) m
        split <;> omega
      have r2 := textL_le (it kk)
      have r4 := HR.out
      have CT := Lib.hid (IH.out kk (by omega) S wr k3 a3 n3 c3 b3 m3 d3 (by omega) L3)
      have NX2 := Lib.hid (show seqL (fun i => textL (it i)) (kk + 1) = seqL (fun i => textL (it i)) kk ++ (if 0 < kk then [44, 32] else []) ++ textL (it kk) from rfl)
      clear L3
      generalize seqL (fun i => textL (it i)) kk = A at *
      generalize textL (it kk) = X at *
      have z : A.length + X.length + 8 ≤ 140737488355328 := by omega
      clear r1 r2 r4
      · have hz0 : ¬ (0 : Int) < (kk : Int) := by omega
        have HZ := Lib.hid (show kk = 0 by omega)
        go_wp2_with (go_at_call 32; (with_reducible refine (CT.out).mono ?_); rintro e w6 ⟨rfl, hb7⟩)
        have BX5 := Lib.hid (BX.out.below hb7)
        have HB5 := Lib.hid (bstep HB.out hb7)
        clear x0 x1 x2 t0 t1 t2 hb7 CT
        go_roundg (n - (kk + 1))
        case measure => omega
        case rel =>
          refine ⟨kk + 1, by omega, Nat.le_refl _, ?_, by go_num, BX5, HB5⟩
          refine congrArg Value.string ?_
          rw [NX2.out, if_neg (by have := HZ.out; omega : ¬ 0 < kk)]; simp only [strl_append, List.append_assoc, List.nil_append, List.append_nil]
    · obtain rfl : kk = n := by omega
      have YS : textL (.mk 10 kk it m nm) = litList ++ seqL (fun i => textL (it i)) kk ++ [62] := by
        rw [seq_one it kk hn1]
        rfl
      have r2 := textL_le (.mk 10 kk it m nm)
      have r4 := HR.out
      have z : (seqL (fun i => textL (it i)) kk).length + 10 ≤ 140737488355328 := by
        rw [YS] at r2
        simp only [List.length_append] at r2
        omega
      have RES := Lib.hid (show (⟨#[108, 105, 115, 116, 60]⟩ : ByteArray) ++ ⟨(seqL (fun i => textL (it i)) kk).toArray⟩ ++ ⟨#[62]⟩ = ⟨(textL (.mk 10 kk it m nm)).toArray⟩ from by
        rw [YS, show (⟨#[108, 105, 115, 116, 60]⟩ : ByteArray) = ⟨litList.toArray⟩ from rfl, show (⟨#[62]⟩ : ByteArray) = ⟨[62].toArray⟩ from rfl, strl_append, strl_append])
      clear r2 r4 YS
      generalize seqL (fun i => textL (it i)) kk = A at *
      generalize textL (.mk 10 kk it m nm) = XX at *
      go_wp2
      go_ret
      exact ⟨congrArg (fun z => Ending.returned (.string z)) RES.out, HB.out⟩
set_option linter.unusedSimpArgs false in
set_option linter.unusedVariables false in
set_option maxRecDepth 100000 in
set_option maxHeartbeats 4000000 in
theorem ltext_range (n : Nat) (hn1 : n ≤ 1) (it : Nat → T) (m : Nat) (nm : Nat → ByteArray) (ih : ∀ i, i < n → LTextFor (it i)) (S : Nat → Prop) (w : World) (a : Option Addr) (c : Nat) (b : Option Addr) (d : Nat) (hl : room (.mk 12 n it m nm) + 64 ≤ 140737488355328) (h : Lies S w (TV 12 a n c b m d) (.mk 12 n it m nm)) :
    Calls Try.prog 32 #[TV 12 a n c b m d] w (Ret (.string ⟨(textL (.mk 12 n it m nm)).toArray⟩) w) := by
  obtain ⟨FW, hc, hd, hk, -, -⟩ := h.few
  have NB : (n : Int) ≤ 9223372036854775806 := by have := FW.1; omega
  have HL := Lib.hid h
  have HC := Lib.hid (And.intro hc hd)
  have IH := Lib.hid ih
  have HR := Lib.hid hl
  clear h hc hd hk ih FW hl
  go_enter Try.func32, Try.ntmps32
  go_wp2
  go_loopg [3, 5] n (fun gg s i wr => ∃ (kk : Nat), kk ≤ n ∧ n - kk ≤ gg ∧ s = .string ⟨(seqL (fun i => textL (it i)) kk).toArray⟩ ∧ i = .int .i64 (kk : Int) ∧ Hid (Boxed wr w.heap.size (.int .i64 12) (.slice a n c) (.slice b m d)) ∧ Hid (Below w.heap.size w wr))
  case atStart => exact ⟨0, Nat.zero_le _, Nat.le_refl _, rfl, rfl, Lib.hid (Boxed.new w _ _ _), Lib.hid ((Below.refl _ _).alloc (Nat.le_refl _) _)⟩
  case round =>
    obtain ⟨kk, hkk, hg, rfl, rfl, BX, HB⟩ := hrel
    obtain ⟨x0, x1, x2⟩ := BX.out.cells
    have gx := BX.out.lt
    by_cases hlt : kk < n
    · obtain ⟨g3, o3, rfl, k3, a3, n3, c3, b3, m3, d3, t0, t1, t2, tg, L3⟩ := (HL.out.on HB.out).item kk (by omega)
      have hlti : (0 : Int) ≤ (kk : Int) ∧ (kk : Int) < (n : Int) := by omega
      have hltn : (0 : Int) ≤ (kk : Int) ∧ (kk : Int) < (n : Int) := by omega
      have le0 := HB.out.size
      have r1 : (seqL (fun i => textL (it i)) kk).length + (room (it kk) + 8) ≤ room (.mk 12 n it m nm) := by
        obtain rfl : kk = 0 := by omega
        have q := sumN_at (fun i => room (it i) + 8) n 0 hlt
        have e0 : (seqL (fun i => textL (it i)) 0).length = 0 := rfl
        show _ ≤ (if (12 : Int) = 0 then 40 else 80) + sumN (fun i => room (it i) + 8) n + sumN (fun i => 5 * (nm i).size + 8) m
        split <;> omega
      have r2 := textL_le (it kk)
      have r4 := HR.out
      have CT := Lib.hid (IH.out kk (by omega) S wr k3 a3 n3 c3 b3 m3 d3 (by omega) L3)
      have NX2 := Lib.hid (show seqL (fun i => textL (it i)) (kk + 1) = seqL (fun i => textL (it i)) kk ++ (if 0 < kk then [44, 32] else []) ++ textL (it kk) from rfl)
      clear L3
      generalize seqL (fun i => textL (it i)) kk = A at *
      generalize textL (it kk) = X at *
      have z : A.length + X.length + 8 ≤ 140737488355328 := by omega
      clear r1 r2 r4
      · have hz0 : ¬ (0 : Int) < (kk : Int) := by omega
        have HZ := Lib.hid (show kk = 0 by omega)
        go_wp2_with (go_at_call 32; (with_reducible refine (CT.out).mono ?_); rintro e w6 ⟨rfl, hb7⟩)
        have BX5 := Lib.hid (BX.out.below hb7)
        have HB5 := Lib.hid (bstep HB.out hb7)
        clear x0 x1 x2 t0 t1 t2 hb7 CT
        go_roundg (n - (kk + 1))
        case measure => omega
        case rel =>
          refine ⟨kk + 1, by omega, Nat.le_refl _, ?_, by go_num, BX5, HB5⟩
          refine congrArg Value.string ?_
          rw [NX2.out, if_neg (by have := HZ.out; omega : ¬ 0 < kk)]; simp only [strl_append, List.append_assoc, List.nil_append, List.append_nil]
    · obtain rfl : kk = n := by omega
      have YS : textL (.mk 12 kk it m nm) = litRange ++ seqL (fun i => textL (it i)) kk ++ [62] := by
        rw [seq_one it kk hn1]
        rfl
      have r2 := textL_le (.mk 12 kk it m nm)
      have r4 := HR.out
      have z : (seqL (fun i => textL (it i)) kk).length + 10 ≤ 140737488355328 := by
        rw [YS] at r2
        simp only [List.length_append] at r2
        omega
      have RES := Lib.hid (show (⟨#[114, 97, 110, 103, 101, 60]⟩ : ByteArray) ++ ⟨(seqL (fun i => textL (it i)) kk).toArray⟩ ++ ⟨#[62]⟩ = ⟨(textL (.mk 12 kk it m nm)).toArray⟩ from by
        rw [YS, show (⟨#[114, 97, 110, 103, 101, 60]⟩ : ByteArray) = ⟨litRange.toArray⟩ from rfl, show (⟨#[62]⟩ : ByteArray) = ⟨[62].toArray⟩ from rfl, strl_append, strl_append])
      clear r2 r4 YS
      generalize seqL (fun i => textL (it i)) kk = A at *
      generalize textL (.mk 12 kk it m nm) = XX at *
      go_wp2
      go_ret
      exact ⟨congrArg (fun z => Ending.returned (.string z)) RES.out, HB.out⟩
set_option linter.unusedSimpArgs false in
set_option linter.unusedVariables false in
set_option maxRecDepth 100000 in
set_option maxHeartbeats 4000000 in
theorem ltext_word (k : Int) (e10 : k ≠ 10) (e11 : k ≠ 11) (e12 : k ≠ 12) (e13 : k ≠ 13) (n : Nat) (hn1 : n ≤ 1) (it : Nat → T) (m : Nat) (nm : Nat → ByteArray) (ih : ∀ i, i < n → LTextFor (it i)) (S : Nat → Prop) (w : World) (a : Option Addr) (c : Nat) (b : Option Addr) (d : Nat) (hl : room (.mk k n it m nm) + 64 ≤ 140737488355328) (h : Lies S w (TV k a n c b m d) (.mk k n it m nm)) :
    Calls Try.prog 32 #[TV k a n c b m d] w (Ret (.string ⟨(textL (.mk k n it m nm)).toArray⟩) w) := by
  obtain ⟨FW, hc, hd, hk, -, -⟩ := h.few
  have NB : (n : Int) ≤ 9223372036854775806 := by have := FW.1; omega
  have HL := Lib.hid h
  have HC := Lib.hid (And.intro hc hd)
  have IH := Lib.hid ih
  have HR := Lib.hid hl
  clear h hc hd hk ih FW hl
  have b10 : (k == 10) = false := by simp [e10]
  have b11 : (k == 11) = false := by simp [e11]
  have b12 : (k == 12) = false := by simp [e12]
  have b13 : (k == 13) = false := by simp [e13]
  have YS : (⟨(textL (.mk k n it m nm)).toArray⟩ : ByteArray) = wordOf k := by
    unfold textL
    rw [if_neg e10, if_neg e12, if_neg e11, if_neg e13]
  rw [YS]
  go_enter Try.func32, Try.ntmps32
  go_wp2
  go_loopg [3, 5] n (fun gg s i wr => ∃ (kk : Nat), kk ≤ n ∧ n - kk ≤ gg ∧ s = .string ⟨(seqL (fun i => textL (it i)) kk).toArray⟩ ∧ i = .int .i64 (kk : Int) ∧ Hid (Boxed wr w.heap.size (.int .i64 k) (.slice a n c) (.slice b m d)) ∧ Hid (Below w.heap.size w wr))
  case atStart => exact ⟨0, Nat.zero_le _, Nat.le_refl _, rfl, rfl, Lib.hid (Boxed.new w _ _ _), Lib.hid ((Below.refl _ _).alloc (Nat.le_refl _) _)⟩
  case round =>
    obtain ⟨kk, hkk, hg, rfl, rfl, BX, HB⟩ := hrel
    obtain ⟨x0, x1, x2⟩ := BX.out.cells
    have gx := BX.out.lt
    by_cases hlt : kk < n
    · obtain ⟨g3, o3, rfl, k3, a3, n3, c3, b3, m3, d3, t0, t1, t2, tg, L3⟩ := (HL.out.on HB.out).item kk (by omega)
      have hlti : (0 : Int) ≤ (kk : Int) ∧ (kk : Int) < (n : Int) := by omega
      have hltn : (0 : Int) ≤ (kk : Int) ∧ (kk : Int) < (n : Int) := by omega
      have le0 := HB.out.size
      have r1 : (seqL (fun i => textL (it i)) kk).length + (room (it kk) + 8) ≤ room (.mk k n it m nm) := by
        obtain rfl : kk = 0 := by omega
        have q := sumN_at (fun i => room (it i) + 8) n 0 hlt
        have e0 : (seqL (fun i => textL (it i)) 0).length = 0 := rfl
        show _ ≤ (if (k : Int) = 0 then 40 else 80) + sumN (fun i => room (it i) + 8) n + sumN (fun i => 5 * (nm i).size + 8) m
        split <;> omega
      have r2 := textL_le (it kk)
      have r4 := HR.out
      have CT := Lib.hid (IH.out kk (by omega) S wr k3 a3 n3 c3 b3 m3 d3 (by omega) L3)
      have NX2 := Lib.hid (show seqL (fun i => textL (it i)) (kk + 1) = seqL (fun i => textL (it i)) kk ++ (if 0 < kk then [44, 32] else []) ++ textL (it kk) from rfl)
      clear L3
      generalize seqL (fun i => textL (it i)) kk = A at *
      generalize textL (it kk) = X at *
      have z : A.length + X.length + 8 ≤ 140737488355328 := by omega
      clear r1 r2 r4
      · have hz0 : ¬ (0 : Int) < (kk : Int) := by omega
        have HZ := Lib.hid (show kk = 0 by omega)
        go_wp2_with (go_at_call 32; (with_reducible refine (CT.out).mono ?_); rintro e w6 ⟨rfl, hb7⟩)
        have BX5 := Lib.hid (BX.out.below hb7)
        have HB5 := Lib.hid (bstep HB.out hb7)
        clear x0 x1 x2 t0 t1 t2 hb7 CT
        go_roundg (n - (kk + 1))
        case measure => omega
        case rel =>
          refine ⟨kk + 1, by omega, Nat.le_refl _, ?_, by go_num, BX5, HB5⟩
          refine congrArg Value.string ?_
          rw [NX2.out, if_neg (by have := HZ.out; omega : ¬ 0 < kk)]; simp only [strl_append, List.append_assoc, List.nil_append, List.append_nil]
    · obtain rfl : kk = n := by omega
      have CW := Lib.hid (lword_walk k wr)
      generalize wordOf k = XX at *
      generalize seqL (fun i => textL (it i)) kk = A at *
      go_wp2_with (go_at_call 29; (with_reducible refine (CW.out).mono ?_); rintro e w6 ⟨rfl, hb7⟩)
      go_ret
      exact ⟨rfl, bstep HB.out hb7⟩
set_option linter.unusedSimpArgs false in
set_option linter.unusedVariables false in
set_option maxRecDepth 100000 in
set_option maxHeartbeats 4000000 in
theorem ltext_fun (r n : Nat) (hr : n = r + 1) (it : Nat → T) (m : Nat) (nm : Nat → ByteArray) (ih : ∀ i, i < n → LTextFor (it i)) (S : Nat → Prop) (w : World) (a : Option Addr) (c : Nat) (b : Option Addr) (d : Nat) (hl : room (.mk 13 n it m nm) + 64 ≤ 140737488355328) (h : Lies S w (TV 13 a n c b m d) (.mk 13 n it m nm)) :
    Calls Try.prog 32 #[TV 13 a n c b m d] w (Ret (.string ⟨(textL (.mk 13 n it m nm)).toArray⟩) w) := by
  obtain ⟨FW, hc, hd, hk, -, -⟩ := h.few
  have NB : (n : Int) ≤ 9223372036854775806 := by have := FW.1; omega
  have HL := Lib.hid h
  have HC := Lib.hid (And.intro hc hd)
  have IH := Lib.hid ih
  have HR := Lib.hid hl
  clear h hc hd hk ih FW hl
  have e1 : wrap64 ((n : Int) - 1) = (r : Int) := by unfold wrap64; omega
  have e1' : IntKind.i64.wrap ((n : Int) - 1) = (r : Int) := by rw [IntKind.wrap_i64]; omega
  have hr1 : r < n := by omega
  have hr2 : n ≤ r + 1 := by omega
  clear hr
  go_enter Try.func32, Try.ntmps32
  go_wp2
  go_loopg [3, 5] r (fun gg s i wr => ∃ (kk : Nat), kk ≤ r ∧ r - kk ≤ gg ∧ s = .string ⟨(seqL (fun i => textL (it i)) kk).toArray⟩ ∧ i = .int .i64 (kk : Int) ∧ Hid (Boxed wr w.heap.size (.int .i64 13) (.slice a n c) (.slice b m d)) ∧ Hid (Below w.heap.size w wr))
  case atStart => exact ⟨0, Nat.zero_le _, Nat.le_refl _, rfl, rfl, Lib.hid (Boxed.new w _ _ _), Lib.hid ((Below.refl _ _).alloc (Nat.le_refl _) _)⟩
  case round =>
    obtain ⟨kk, hkk, hg, rfl, rfl, BX, HB⟩ := hrel
    obtain ⟨x0, x1, x2⟩ := BX.out.cells
    have gx := BX.out.lt
    by_cases hlt : kk < r
    · obtain ⟨g3, o3, rfl, k3, a3, n3, c3, b3, m3, d3, t0, t1, t2, tg, L3⟩ := (HL.out.on HB.out).item kk (by omega)
      have hlti : (0 : Int) ≤ (kk : Int) ∧ (kk : Int) < (r : Int) := by omega
      have hltn : (0 : Int) ≤ (kk : Int) ∧ (kk : Int) < (n : Int) := by omega
      have le0 := HB.out.size
      have r1 : (seqL (fun i => textL (it i)) kk).length + (room (it kk) + 8) ≤ room (.mk 13 n it m nm) := by have := fun_room1 n it m nm kk (by omega); omega
      have r2 := textL_le (it kk)
      have r4 := HR.out
      have CT := Lib.hid (IH.out kk (by omega) S wr k3 a3 n3 c3 b3 m3 d3 (by omega) L3)
      have NX2 := Lib.hid (show seqL (fun i => textL (it i)) (kk + 1) = seqL (fun i => textL (it i)) kk ++ (if 0 < kk then [44, 32] else []) ++ textL (it kk) from rfl)
      clear L3
      generalize seqL (fun i => textL (it i)) kk = A at *
      generalize textL (it kk) = X at *
      have z : A.length + X.length + 8 ≤ 140737488355328 := by omega
      clear r1 r2 r4
      rcases Nat.eq_zero_or_pos kk with hz | hz
      · have hz0 : ¬ (0 : Int) < (kk : Int) := by omega
        have HZ := Lib.hid hz
        clear hz
        go_wp2_with (go_at_call 32; (with_reducible refine (CT.out).mono ?_); rintro e w6 ⟨rfl, hb7⟩)
        have BX5 := Lib.hid (BX.out.below hb7)
        have HB5 := Lib.hid (bstep HB.out hb7)
        clear x0 x1 x2 t0 t1 t2 hb7 CT
        go_roundg (r - (kk + 1))
        case measure => omega
        case rel =>
          refine ⟨kk + 1, by omega, Nat.le_refl _, ?_, by go_num, BX5, HB5⟩
          refine congrArg Value.string ?_
          rw [NX2.out, if_neg (by have := HZ.out; omega : ¬ 0 < kk)]; simp only [strl_append, List.append_assoc, List.nil_append, List.append_nil]
      · have hz0 : (0 : Int) < (kk : Int) := by omega
        have HZ := Lib.hid hz
        go_wp2_with (go_at_call 32; (with_reducible refine (CT.out).mono ?_); rintro e w6 ⟨rfl, hb7⟩)
        have BX5 := Lib.hid (BX.out.below hb7)
        have HB5 := Lib.hid (bstep HB.out hb7)
        clear x0 x1 x2 t0 t1 t2 hb7 CT
        go_roundg (r - (kk + 1))
        case measure => omega
        case rel =>
          refine ⟨kk + 1, by omega, Nat.le_refl _, ?_, by go_num, BX5, HB5⟩
          refine congrArg Value.string ?_
          rw [NX2.out, if_pos HZ.out, show (⟨#[44, 32]⟩ : ByteArray) = ⟨[44, 32].toArray⟩ from rfl]; simp only [strl_append, List.append_assoc]
    · obtain rfl : kk = r := by omega
      obtain ⟨g3, o3, rfl, k3, a3, n3, c3, b3, m3, d3, t0, t1, t2, tg, L3⟩ := (HL.out.on HB.out).item kk (by omega)
      have hltn : (0 : Int) ≤ (kk : Int) ∧ (kk : Int) < (n : Int) := by omega
      have le0 := HB.out.size
      have r1 := fun_room1 n it m nm kk (by omega)
      have r2 := textL_le (it kk)
      have r4 := HR.out
      have CT := Lib.hid (IH.out kk (by omega) S wr k3 a3 n3 c3 b3 m3 d3 (by omega) L3)
      have YS : textL (.mk 13 n it m nm) = litFun ++ seqL (fun i => textL (it i)) kk ++ litGives ++ textL (it kk) := by
        rw [textL_fun]
        have g : T.gives (.mk 13 n it m nm) = it kk := by
          show (if n = 0 then T.zero else it (n - 1)) = _
          rw [if_neg (by omega), show n - 1 = kk by omega]
        rw [g, show n - 1 = kk by omega]
      have RES := Lib.hid (show (⟨#[102, 117, 110, 99, 116, 105, 111, 110, 60]⟩ : ByteArray) ++ ⟨(seqL (fun i => textL (it i)) kk).toArray⟩ ++ ⟨#[62, 32, 45, 62, 32]⟩ ++ ⟨(textL (it kk)).toArray⟩ = ⟨(textL (.mk 13 n it m nm)).toArray⟩ from by
        rw [YS, show (⟨#[102, 117, 110, 99, 116, 105, 111, 110, 60]⟩ : ByteArray) = ⟨litFun.toArray⟩ from rfl, show (⟨#[62, 32, 45, 62, 32]⟩ : ByteArray) = ⟨litGives.toArray⟩ from rfl, strl_append, strl_append, strl_append])
      clear L3 YS
      generalize seqL (fun i => textL (it i)) kk = A at *
      generalize textL (it kk) = X at *
      generalize textL (.mk 13 n it m nm) = XX at *
      have z : A.length + X.length + 40 ≤ 140737488355328 := by omega
      clear r1 r2 r4
      go_wp2_with (go_at_call 32; (with_reducible refine (CT.out).mono ?_); rintro e w6 ⟨rfl, hb7⟩)
      go_ret
      exact ⟨congrArg (fun z => Ending.returned (.string z)) RES.out, bstep HB.out hb7⟩
theorem ltext_any : ∀ t, mayB t = true → LTextFor t := by
  intro t
  induction t with
  | z => intro h; cases h
  | mk k n it m nm ih =>
    intro hm S w k' a n' c b m' d hl h
    obtain rfl : k = k' := h.kk
    obtain rfl : n = n' := h.nn
    obtain rfl : m = m' := h.mm
    unfold mayB at hm
    rw [Bool.and_eq_true, allN_iff] at hm
    obtain ⟨ha, hq⟩ := hm
    have IH : ∀ i, i < n → LTextFor (it i) := fun i hi => ih i (ha i hi)
    by_cases k11 : k = 11
    · subst k11
      rw [if_pos rfl] at hq
      rw [Bool.and_eq_true] at hq
      obtain rfl : n = m := eq_of_beq hq.2
      exact ltext_ctx n it nm IH S w a c b d hl h
    · rw [if_neg k11] at hq
      by_cases k13 : k = 13
      · subst k13
        have : 0 < n := by simp [simB] at hq; omega
        exact ltext_fun (n - 1) n (by omega) it m nm IH S w a c b d hl h
      · have hn1 : n ≤ 1 := by simp [k13] at hq; omega
        by_cases k10 : k = 10
        · subst k10; exact ltext_list n hn1 it m nm IH S w a c b d hl h
        by_cases k12 : k = 12
        · subst k12; exact ltext_range n hn1 it m nm IH S w a c b d hl h
        exact ltext_word k k10 k11 k12 k13 n hn1 it m nm IH S w a c b d hl h
end Go.Proofs.Ytielmfchbgajnaa

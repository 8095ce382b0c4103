/-
  The document's answer of layer 15: Sub, as a contract of its call.
-/
import Derived.Test.YtfdbpeplmkfijaaDoorIc
namespace Go.Proofs.YtfdbpeplmkfijaaDoor
open Go.RowKit Go.Lib

/-- The runes from a place on (counted from 1, or from -1 back), so many. -/
def subL (L : List Nat) (f n : Int) : Option (List Nat) :=
  let k := if f < 0 then (L.length : Int) + f else f - 1
  if f = 0 ∨ k < 0 ∨ (L.length : Int) ≤ k then none else some (if n < 0 then L.drop k.toNat else (L.drop k.toNat).take n.toNat)
def RetSub (o : Option (List Nat)) (w : World) (e : Ending) (w' : World) : Prop :=
  (match o with
   | none => e = .returned (.tuple #[.string ⟨#[]⟩, .bool false])
   | some M => e = .returned (.tuple #[.string ⟨(enc M).toArray⟩, .bool true])) ∧ Below w.heap.size w w'
theorem sub_none {L : List Nat} {f n : Int} (h : f = 0 ∨ (f < 0 ∧ (L.length : Int) + f < 0) ∨ (0 < f ∧ (L.length : Int) < f)) : subL L f n = none := by
  unfold subL
  dsimp only
  rw [if_pos]
  rcases h with h | ⟨h, k⟩ | ⟨h, k⟩
  · exact .inl h
  · rw [if_pos h]; exact .inr (.inl k)
  · rw [if_neg (by omega)]; exact .inr (.inr (by omega))
theorem sub_some {L : List Nat} {f n : Int} {K : Nat} (hK : K < L.length) (h : (f < 0 ∧ (L.length : Int) + f = K) ∨ (0 < f ∧ f - 1 = K)) : subL L f n = some (if n < 0 then L.drop K else (L.drop K).take n.toNat) := by
  unfold subL
  dsimp only
  have e : (if f < 0 then (L.length : Int) + f else f - 1) = K := by
    rcases h with ⟨h, k⟩ | ⟨h, k⟩
    · rw [if_pos h]; exact k
    · rw [if_neg (by omega)]; exact k
  rw [e, if_neg (by omega), Int.toNat_natCast]
theorem RowN.sl {b : Nat} {W : World} {v : Value} {L : List Nat} (h : RowN b W v L) : ∃ A cap, v = .slice A L.length cap := by
  rcases h.form with ⟨rfl, rfl⟩ | ⟨g, cap, rfl, _⟩
  · exact ⟨_, _, rfl⟩
  · exact ⟨_, _, rfl⟩
theorem RowN.cell {b : Nat} {W : World} {A : Option Addr} {n cap : Nat} {L : List Nat} (h : RowN b W (.slice A n cap) L) {k : Nat} (hk : k < L.length) : ∃ g, A = some ⟨g, 0, none⟩ ∧ g < W.heap.size ∧ b ≤ g ∧ L.length ≤ cap ∧ cap ≤ maxLen ∧ W.cell? ⟨g, k, none⟩ = some (.int .i32 ((L.getD k 0 : Nat) : Int)) := by
  rcases h.form with ⟨_, e⟩ | ⟨g, cap', e, h1, h2, h3, h4, h5⟩
  · rw [e] at hk; simp at hk
  · injection e with e1 e2 e3
    subst e3
    exact ⟨g, e1, h4, h3, h1, h2, h5 k hk⟩
set_option linter.unusedVariables false in
set_option linter.unusedSimpArgs false in
set_option maxRecDepth 100000 in
set_option maxHeartbeats 4000000 in
theorem rsub_none (s : ByteArray) (f n : Int) (hf : I64 f) (w : World) (hs : s.size ≤ 17592186044416) (h : f = 0 ∨ (f < 0 ∧ ((rnS s).length : Int) + f < 0) ∨ (0 < f ∧ ((rnS s).length : Int) < f)) :
    Calls Tryd.prog 10 #[.string s, .int .i64 f, .int .i64 n] w (RetSub none w) := by
  have CR := Lib.hid (fun W => runes_any s W hs)
  have LE := rnS_le s
  obtain ⟨f1, f2⟩ := hf
  generalize rnS s = L at *
  have NB : (L.length : Int) ≤ 9223372036854775806 := by omega
  rcases h with rfl | ⟨h1, h2⟩ | ⟨h1, h2⟩
  all_goals
    go_enter Tryd.func10, Tryd.ntmps10
    go_wp2_with (go_at_call 12; (with_reducible refine (CR.out _).mono ?_); rintro e w1 ⟨v1, rfl, R1, hb1⟩; obtain ⟨A1, c1, rfl⟩ := R1.sl; have R1' := Lib.hid R1; clear R1)
    go_ret2
    exact ⟨rfl, hb1⟩
set_option linter.unusedVariables false in
set_option linter.unusedSimpArgs false in
set_option maxRecDepth 100000 in
set_option maxHeartbeats 8000000 in
theorem rsub_neg (s : ByteArray) (f : Int) (n : Int) (K : Nat) (hf : I64 f) (hn : I64 n) (hn0 : n < 0) (w : World) (hs : s.size ≤ 17592186044416) (hK : K < (rnS s).length) (h : (f < 0 ∧ ((rnS s).length : Int) + f = K) ∨ (0 < f ∧ f - 1 = K)) :
    Calls Tryd.prog 10 #[.string s, .int .i64 f, .int .i64 n] w (RetSub (some ((rnS s).drop K)) w) := by
  obtain ⟨i0, hi0, hz0, hz1, hz2⟩ := info_parts rune_info
  have CR := Lib.hid (fun W => runes_any s W hs)
  have LE := rnS_le s
  obtain ⟨f1, f2⟩ := hf
  obtain ⟨n1, n2⟩ := hn
  generalize rnS s = L at *
  obtain ⟨T, hT⟩ : ∃ T, T = L.length - K := ⟨_, rfl⟩
  have NB : (L.length : Int) ≤ 9223372036854775806 := by omega
  have KI : (0 : Int) ≤ K ∧ (K : Int) < L.length := by omega
  have z0 : (f == 0) = false := by simp; omega
  have z1 : decide ((K : Int) < 0) = false := by simp
  have z2 : decide (L.length ≤ K) = false := by simp; omega
  have z3 : decide (n < 0) = true := by simp; omega
  have HK := Lib.hid hK
  have HT := Lib.hid hT
  have HS := Lib.hid hs
  clear hT hK hs
  rcases h with ⟨h1, h2⟩ | ⟨h1, h2⟩
  all_goals
    go_enter Tryd.func10, Tryd.ntmps10
    go_wp2_with (go_at_call 12; (with_reducible refine (CR.out _).mono ?_); rintro e w1 ⟨v1, rfl, R1, hb1⟩; obtain ⟨A1, c1, rfl⟩ := R1.sl; have R1' := Lib.hid R1; clear R1)
    go_loopg [10, 11] T (fun gg o i wr => ∃ (m j : Nat) (M : List Nat), m + gg = T ∧ j = K + m ∧ Hid (M = (L.drop K).take m) ∧ M.length = m ∧ Hid (RowN w1.heap.size wr o M) ∧ i = .int .i64 (j : Int) ∧ Hid (Below w1.heap.size w1 wr))
    case atStart => exact ⟨0, K, [], by omega, rfl, Lib.hid rfl, rfl, Lib.hid RowN.nil, rfl, Lib.hid (Below.refl _ _)⟩
    case round =>
      obtain ⟨m, j, M, hm, hj, hM, hMl, OW, rfl, HB⟩ := hrel
      have hT := HT.out
      have hK := HK.out
      have hs := HS.out
      by_cases hlt : m < T
      · have KL : j < L.length := by omega
        obtain ⟨g, rfl, h4, h3, h5, h6, c⟩ := (R1'.out.below HB.out).cell (k := j) KL
        have NX : (L.drop K).take (m + 1) = (L.drop K).take m ++ [L.getD j 0] := by
          rw [List.take_succ_eq_append_getElem (by rw [List.length_drop]; omega), List.getElem_drop]
          subst hj
          rw [List.getD_eq_getElem?_getD, List.getElem?_eq_getElem KL]
          rfl
        have NX' := Lib.hid NX
        have HJ := Lib.hid hj
        have HTm := Lib.hid hm
        have HMl := Lib.hid hMl
        have hsz := HB.out.size
        have m1 : m + 1 ≤ 17592186044416 := by omega
        have kk0 : (K : Int) ≤ (j : Int) := by omega
        
        clear NX hj hm hMl hT hK
        generalize L.getD j 0 = r at *
        go_wp2_with (at_builtin; refine wpList_append_own _ rfl (.tmp 52) (.tmp 57) _ rfl w1.heap.size 21 i0 _ 1 4 Tryd.underlying27 hi0 hz0 hz1 hz2 rfl (by omega) u10 m (M.map rc) rfl (by have q := OW.out; unfold RowN at q; rw [HMl.out] at q; exact q.alloc _) ⟨wr.heap.size, 0, none⟩ 1 1 [.int .i32 (r : Int)] rfl rfl (cell_one_new _ _ _) (by intro u hu; rw [List.mem_singleton.1 hu]; rfl) (by simp only [maxLen]; omega) (by omega) (by simp; omega) ?_)
        intro v' w' hown3 hg _
        have OWn : RowN w1.heap.size w' v' (M ++ [r]) := by
          unfold RowN
          rw [List.length_append, HMl.out, List.map_append]
          exact hown3
        have BB : Below w1.heap.size w1 w' := (HB.out.alloc hsz _).grown hg (by simp; omega) (fun k hk => (OW.out.lt k hk).1)
        have OWn' := Lib.hid OWn
        have BB' := Lib.hid BB
        clear hown3 hg OWn BB
        go_wp2
        go_roundg (T - (m + 1))
        case measure => have := HTm.out; omega
        case rel =>
          refine ⟨m + 1, j + 1, M ++ [r], by have := HTm.out; omega, by have := HJ.out; omega, Lib.hid ?_, by rw [List.length_append, HMl.out]; rfl, OWn', by go_num, BB'⟩
          rw [hM.out, NX'.out]
      · obtain rfl : m = T := by omega
        have HJ := Lib.hid hj
        have RES : M = L.drop K := by
          rw [hM.out, hT]
          rw [List.take_of_length_le (by rw [List.length_drop]; omega)]
        have RES' := Lib.hid RES
        have ML : M.length ≤ 17592186044416 := by omega
        have ML' := Lib.hid ML
        clear RES ML hM
        have jl : j = L.length := by omega
        have z6 : decide ((j : Int) < L.length) = false := by simp; omega
        · skip
          have HMl := Lib.hid hMl
          have CT := Lib.hid (fun W (hW : Below wr.heap.size wr W) => textR_any _ u10 M W ML'.out (OW.out.below hW))
          clear hj hm hMl hT hK
          go_wp2_with (go_at_call 25; (with_reducible refine (CT.out _ (by go_grown)).mono ?_); rintro e w2 ⟨rfl, hb2⟩)
          go_ret2
          refine ⟨?_, bstep (bstep hb1 HB.out) hb2⟩
          rw [← RES'.out]
          rfl

set_option linter.unusedVariables false in
set_option linter.unusedSimpArgs false in
set_option maxRecDepth 100000 in
set_option maxHeartbeats 8000000 in
theorem rsub_nat (s : ByteArray) (f : Int) (N : Nat) (K : Nat) (hf : I64 f) (hn : I64 (N : Int)) (w : World) (hs : s.size ≤ 17592186044416) (hK : K < (rnS s).length) (h : (f < 0 ∧ ((rnS s).length : Int) + f = K) ∨ (0 < f ∧ f - 1 = K)) :
    Calls Tryd.prog 10 #[.string s, .int .i64 f, .int .i64 (N : Int)] w (RetSub (some (((rnS s).drop K).take N)) w) := by
  obtain ⟨i0, hi0, hz0, hz1, hz2⟩ := info_parts rune_info
  have CR := Lib.hid (fun W => runes_any s W hs)
  have LE := rnS_le s
  obtain ⟨f1, f2⟩ := hf
  obtain ⟨n1, n2⟩ := hn
  generalize rnS s = L at *
  obtain ⟨T, hT⟩ : ∃ T, T = min N (L.length - K) := ⟨_, rfl⟩
  have NB : (L.length : Int) ≤ 9223372036854775806 := by omega
  have KI : (0 : Int) ≤ K ∧ (K : Int) < L.length := by omega
  have z0 : (f == 0) = false := by simp; omega
  have z1 : decide ((K : Int) < 0) = false := by simp
  have z2 : decide (L.length ≤ K) = false := by simp; omega
  have z3 : decide ((N : Int) < 0) = false := by simp
  have HK := Lib.hid hK
  have HT := Lib.hid hT
  have HS := Lib.hid hs
  clear hT hK hs
  rcases h with ⟨h1, h2⟩ | ⟨h1, h2⟩
  all_goals
    go_enter Tryd.func10, Tryd.ntmps10
    go_wp2_with (go_at_call 12; (with_reducible refine (CR.out _).mono ?_); rintro e w1 ⟨v1, rfl, R1, hb1⟩; obtain ⟨A1, c1, rfl⟩ := R1.sl; have R1' := Lib.hid R1; clear R1)
    go_loopg [10, 11] T (fun gg o i wr => ∃ (m j : Nat) (M : List Nat), m + gg = T ∧ j = K + m ∧ Hid (M = (L.drop K).take m) ∧ M.length = m ∧ Hid (RowN w1.heap.size wr o M) ∧ i = .int .i64 (j : Int) ∧ Hid (Below w1.heap.size w1 wr))
    case atStart => exact ⟨0, K, [], by omega, rfl, Lib.hid rfl, rfl, Lib.hid RowN.nil, rfl, Lib.hid (Below.refl _ _)⟩
    case round =>
      obtain ⟨m, j, M, hm, hj, hM, hMl, OW, rfl, HB⟩ := hrel
      have hT := HT.out
      have hK := HK.out
      have hs := HS.out
      by_cases hlt : m < T
      · have KL : j < L.length := by omega
        obtain ⟨g, rfl, h4, h3, h5, h6, c⟩ := (R1'.out.below HB.out).cell (k := j) KL
        have NX : (L.drop K).take (m + 1) = (L.drop K).take m ++ [L.getD j 0] := by
          rw [List.take_succ_eq_append_getElem (by rw [List.length_drop]; omega), List.getElem_drop]
          subst hj
          rw [List.getD_eq_getElem?_getD, List.getElem?_eq_getElem KL]
          rfl
        have NX' := Lib.hid NX
        have HJ := Lib.hid hj
        have HTm := Lib.hid hm
        have HMl := Lib.hid hMl
        have hsz := HB.out.size
        have m1 : m + 1 ≤ 17592186044416 := by omega
        have kk0 : (K : Int) ≤ (j : Int) := by omega
        have z5 : decide ((j : Int) - (K : Int) < (N : Int)) = true := by simp; omega
        clear NX hj hm hMl hT hK
        generalize L.getD j 0 = r at *
        go_wp2_with (at_builtin; refine wpList_append_own _ rfl (.tmp 52) (.tmp 57) _ rfl w1.heap.size 21 i0 _ 1 4 Tryd.underlying27 hi0 hz0 hz1 hz2 rfl (by omega) u10 m (M.map rc) rfl (by have q := OW.out; unfold RowN at q; rw [HMl.out] at q; exact q.alloc _) ⟨wr.heap.size, 0, none⟩ 1 1 [.int .i32 (r : Int)] rfl rfl (cell_one_new _ _ _) (by intro u hu; rw [List.mem_singleton.1 hu]; rfl) (by simp only [maxLen]; omega) (by omega) (by simp; omega) ?_)
        intro v' w' hown3 hg _
        have OWn : RowN w1.heap.size w' v' (M ++ [r]) := by
          unfold RowN
          rw [List.length_append, HMl.out, List.map_append]
          exact hown3
        have BB : Below w1.heap.size w1 w' := (HB.out.alloc hsz _).grown hg (by simp; omega) (fun k hk => (OW.out.lt k hk).1)
        have OWn' := Lib.hid OWn
        have BB' := Lib.hid BB
        clear hown3 hg OWn BB
        go_wp2
        go_roundg (T - (m + 1))
        case measure => have := HTm.out; omega
        case rel =>
          refine ⟨m + 1, j + 1, M ++ [r], by have := HTm.out; omega, by have := HJ.out; omega, Lib.hid ?_, by rw [List.length_append, HMl.out]; rfl, OWn', by go_num, BB'⟩
          rw [hM.out, NX'.out]
      · obtain rfl : m = T := by omega
        have HJ := Lib.hid hj
        have RES : M = (L.drop K).take N := by
          rw [hM.out, hT]
          exact List.take_eq_take_iff.2 (by rw [List.length_drop]; omega)
        have RES' := Lib.hid RES
        have ML : M.length ≤ 17592186044416 := by omega
        have ML' := Lib.hid ML
        clear RES ML hM
        by_cases jl : j < L.length
        · have z5 : decide ((j : Int) - (K : Int) < (N : Int)) = false := by simp; omega
          have HMl := Lib.hid hMl
          have CT := Lib.hid (fun W (hW : Below wr.heap.size wr W) => textR_any _ u10 M W ML'.out (OW.out.below hW))
          clear hj hm hMl hT hK
          go_wp2_with (go_at_call 25; (with_reducible refine (CT.out _ (by go_grown)).mono ?_); rintro e w2 ⟨rfl, hb2⟩)
          go_ret2
          refine ⟨?_, bstep (bstep hb1 HB.out) hb2⟩
          rw [← RES'.out]
          rfl
        · have z6 : decide ((j : Int) < L.length) = false := by simp; omega
          have HMl := Lib.hid hMl
          have CT := Lib.hid (fun W (hW : Below wr.heap.size wr W) => textR_any _ u10 M W ML'.out (OW.out.below hW))
          clear hj hm hMl hT hK
          go_wp2_with (go_at_call 25; (with_reducible refine (CT.out _ (by go_grown)).mono ?_); rintro e w2 ⟨rfl, hb2⟩)
          go_ret2
          refine ⟨?_, bstep (bstep hb1 HB.out) hb2⟩
          rw [← RES'.out]
          rfl

/-- Sub: any string (of up to 2^44 bytes), any two ints. -/
theorem rsub_any (s : ByteArray) (f n : Int) (hf : I64 f) (hn : I64 n) (w : World) (hs : s.size ≤ 17592186044416) :
    Calls Tryd.prog 10 #[.string s, .int .i64 f, .int .i64 n] w (RetSub (subL (rnS s) f n) w) := by
  by_cases h : f = 0 ∨ (f < 0 ∧ ((rnS s).length : Int) + f < 0) ∨ (0 < f ∧ ((rnS s).length : Int) < f)
  · rw [sub_none h]
    exact rsub_none s f n hf w hs h
  · obtain ⟨K, hK, hk⟩ : ∃ K : Nat, K < (rnS s).length ∧ ((f < 0 ∧ ((rnS s).length : Int) + f = K) ∨ (0 < f ∧ f - 1 = K)) := by
      rcases Int.lt_or_le f 0 with a | a
      · exact ⟨((rnS s).length + f).toNat, by omega, .inl ⟨a, by omega⟩⟩
      · exact ⟨(f - 1).toNat, by omega, .inr ⟨by omega, by omega⟩⟩
    rw [sub_some hK hk]
    rcases Int.lt_or_le n 0 with a | a
    · rw [if_pos a]
      exact rsub_neg s f n K hf hn a w hs hK hk
    · rw [if_neg (by omega)]
      obtain ⟨N, rfl⟩ := Int.eq_ofNat_of_zero_le a
      rw [Int.toNat_natCast]
      exact rsub_nat s f N K hf hn w hs hK hk
end Go.Proofs.YtfdbpeplmkfijaaDoor

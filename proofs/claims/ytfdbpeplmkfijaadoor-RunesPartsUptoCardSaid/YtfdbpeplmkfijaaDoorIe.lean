/-
  The document's answer of layer 15: Moved and Reverse, and the law's Valid, as contracts of their calls.
-/
import Derived.Test.YtfdbpeplmkfijaaDoorId
namespace Go.Proofs.YtfdbpeplmkfijaaDoor
open Go.RowKit Go.Lib

/-- A rune moved, if it lies from one on up to one. -/
def mvR (a z : Nat) (b : Int) (r : Nat) : Nat := if a ≤ r ∧ r ≤ z then ((r : Int) + b).toNat else r
theorem take_map_step {L : List Nat} {f : Nat → Nat} {k : Nat} (hk : k < L.length) : ((L.take k).map f ++ L.drop k).getD k 0 = L.getD k 0 ∧ ((L.take k).map f ++ L.drop k).set k (f (L.getD k 0)) = (L.take (k + 1)).map f ++ L.drop (k + 1) := by
  have e1 : ((L.take k).map f).length = k := by rw [List.length_map, List.length_take]; omega
  have g : L.getD k 0 = L[k] := by rw [List.getD_eq_getElem?_getD, List.getElem?_eq_getElem hk]; rfl
  refine ⟨?_, ?_⟩
  · rw [List.getD_eq_getElem?_getD, List.getElem?_append_right (by omega), e1, Nat.sub_self, List.getElem?_drop, Nat.add_zero, List.getD_eq_getElem?_getD]
  · rw [g, List.set_append_right _ _ (by omega), e1, Nat.sub_self, List.drop_eq_getElem_cons hk, List.set_cons_zero, List.take_succ_eq_append_getElem hk, List.map_append, List.append_assoc]
    rfl
theorem set_map_rc (L : List Nat) (k r : Nat) : (L.map rc).set k (rc r) = (L.set k r).map rc := by rw [List.map_set]
set_option linter.unusedVariables false in
set_option linter.unusedSimpArgs false in
set_option maxRecDepth 100000 in
set_option maxHeartbeats 4000000 in
/-- Moved: any string (of up to 2^44 bytes). -/
theorem moved_any (s : ByteArray) (a z : Nat) (b : Int) (hz : z ≤ 1000) (hb : 0 ≤ a + b) (hb2 : b ≤ 1000) (w : World) (hs : s.size ≤ 17592186044416) :
    Calls Tryd.prog 15 #[.string s, .int .i32 (a : Int), .int .i32 (z : Int), .int .i32 b] w (RetTx (enc ((rnS s).map (mvR a z b))) w) := by
  have CR := Lib.hid (fun W => runes_any s W hs)
  have LE := rnS_le s
  have HV : Hid (Vrs (rnS s)) := Lib.hid (rn_vr _)
  generalize rnS s = L at *
  have NB : (L.length : Int) ≤ 9223372036854775806 := by omega
  go_enter Tryd.func15, Tryd.ntmps15
  go_wp2_with (go_at_call 12; (with_reducible refine (CR.out _).mono ?_); rintro e w1 ⟨v1, rfl, R1, hb1⟩; obtain ⟨A1, c1, rfl⟩ := R1.sl; have R1' := Lib.hid R1; clear R1)
  go_loopg [10] L.length (fun gg i wr => ∃ (kk : Nat) (M : List Nat), kk + gg = L.length ∧ M.length = L.length ∧ Hid (M = (L.take kk).map (mvR a z b) ++ L.drop kk) ∧ i = .int .i64 (kk : Int) ∧ Hid (RowN w.heap.size wr (.slice A1 L.length c1) M) ∧ Hid (Below w.heap.size w wr))
  case atStart => exact ⟨0, L, by omega, rfl, Lib.hid rfl, rfl, R1', Lib.hid hb1⟩
  case round =>
    obtain ⟨kk, M, hkk, hMl, hM, rfl, OW, HB⟩ := hrel
    by_cases hlt : kk < L.length
    · obtain ⟨g, rfl, h4, h3, h5, h6, c⟩ := OW.out.cell (k := kk) (by omega)
      obtain ⟨t1, t2⟩ := take_map_step (f := mvR a z b) hlt
      rw [← hM.out] at t1 t2
      rw [t1] at c
      have VR : Vr (L.getD kk 0) := HV.out _ (by rw [List.getD_eq_getElem?_getD, List.getElem?_eq_getElem hlt]; exact List.getElem_mem _)
      have r1 : L.getD kk 0 ≤ 1114111 := by unfold Vr at VR; omega
      have C1 := Lib.hid t1
      have T2 := Lib.hid t2
      clear t1 t2 VR
      generalize L.getD kk 0 = r at *
      have ow : wr.ownsRow w.heap.size 21 1 (.slice (some ⟨g, 0, none⟩) L.length c1) L.length (M.map rc) := by
        have q := OW.out
        unfold RowN at q
        rw [hMl] at q
        exact q
      have fz := ow.frozenAt kk
      by_cases in1 : a ≤ r ∧ r ≤ z
      · obtain ⟨x1, x2⟩ := in1
        have E := Lib.hid (show mvR a z b r = ((r : Int) + b).toNat from by unfold mvR; rw [if_pos ⟨x1, x2⟩])
        obtain ⟨q, hq⟩ : ∃ q : Nat, ((r : Int) + b) = q := Int.eq_ofNat_of_zero_le (by omega)
        have q1 : (q : Int) ≤ 2147483647 := by omega
        have d1 : decide ((a : Int) ≤ (r : Int)) = true := by simp; omega
        have d2 : decide ((r : Int) ≤ (z : Int)) = true := by simp; omega
        have ST := (ow.stored kk (.int .i32 (q : Int))).1
        have OWn : RowN w.heap.size (wr.setCell ⟨g, kk, none⟩ (.int .i32 (q : Int))) (.slice (some ⟨g, 0, none⟩) L.length c1) (M.set kk q) := by
          unfold RowN
          rw [List.length_set, hMl, ← set_map_rc]
          exact ST
        have OWn' := Lib.hid OWn
        have HBn := Lib.hid (Below.set1 HB.out g kk h3 (.int .i32 (q : Int)))
        clear OWn ST ow
        go_wp2
        go_roundg (L.length - (kk + 1))
        case measure => omega
        case rel =>
          refine ⟨kk + 1, M.set kk q, by omega, by rw [List.length_set]; exact hMl, Lib.hid ?_, by go_num, OWn', HBn⟩
          rw [← T2.out, E.out, hq, Int.toNat_natCast]
      · have E := Lib.hid (show mvR a z b r = r from by unfold mvR; rw [if_neg in1])
        have SAME := Lib.hid (show M.set kk r = M from by
          have e := C1.out
          rw [List.getD_eq_getElem?_getD, List.getElem?_eq_getElem (show kk < M.length by omega)] at e
          rw [← e]
          exact List.set_getElem_self _)
        rcases Nat.lt_or_ge r a with y | y
        · have d1 : decide ((a : Int) ≤ (r : Int)) = false := by simp; omega
          clear in1
          go_wp2
          go_roundg (L.length - (kk + 1))
          case measure => omega
          case rel => exact ⟨kk + 1, M, by omega, hMl, Lib.hid (by rw [← T2.out, E.out, SAME.out]), by go_num, OW, HB⟩
        · have d1 : decide ((a : Int) ≤ (r : Int)) = true := by simp; omega
          have d2 : decide ((r : Int) ≤ (z : Int)) = false := by simp; omega
          have d3 : ¬ r ≤ z := by omega
          have d4 : decide (r ≤ z) = false := by simp; omega
          clear in1
          go_wp2
          go_roundg (L.length - (kk + 1))
          case measure => omega
          case rel => exact ⟨kk + 1, M, by omega, hMl, Lib.hid (by rw [← T2.out, E.out, SAME.out]), by go_num, OW, HB⟩
    · have hkl : kk = L.length := by omega
      have RES := Lib.hid (show M = L.map (mvR a z b) from by rw [hM.out, hkl, List.take_length, List.drop_length, List.append_nil])
      have CT := Lib.hid (fun W (hW : Below wr.heap.size wr W) => textR_any _ _ M W (by omega) (OW.out.below hW))
      go_wp2_with (go_at_call 25; (with_reducible refine (CT.out _ (by go_grown)).mono ?_); rintro e w2 ⟨rfl, hb2⟩)
      go_ret
      rw [← RES.out]
      exact ⟨rfl, bstep HB.out hb2⟩
set_option linter.unusedVariables false in
set_option linter.unusedSimpArgs false in
set_option maxRecDepth 100000 in
set_option maxHeartbeats 4000000 in
/-- Reverse: any string (of up to 2^44 bytes). -/
theorem rreverse_any (s : ByteArray) (w : World) (hs : s.size ≤ 17592186044416) :
    Calls Tryd.prog 18 #[.string s] w (RetTx (enc (rnS s).reverse) w) := by
  obtain ⟨i0, hi0, hz0, hz1, hz2⟩ := info_parts rune_info
  have CR := Lib.hid (fun W => runes_any s W hs)
  have LE := rnS_le s
  generalize rnS s = L at *
  have NB : (L.length : Int) ≤ 9223372036854775806 := by omega
  go_enter Tryd.func18, Tryd.ntmps18
  go_wp2_with (go_at_call 12; (with_reducible refine (CR.out _).mono ?_); rintro e w1 ⟨v1, rfl, R1, hb1⟩; obtain ⟨A1, c1, rfl⟩ := R1.sl; have R1' := Lib.hid R1; clear R1)
  go_loopg [4, 5] L.length (fun gg o i wr => ∃ (m : Nat) (M : List Nat) (ki : Int), m + gg = L.length ∧ ki = (gg : Int) - 1 ∧ Hid (M = (L.drop gg).reverse) ∧ M.length = m ∧ Hid (RowN w1.heap.size wr o M) ∧ i = .int .i64 ki ∧ Hid (Below w1.heap.size w1 wr))
  case atStart => exact ⟨0, [], _, by omega, rfl, Lib.hid (by rw [List.drop_length]; rfl), rfl, Lib.hid RowN.nil, by go_num, Lib.hid (Below.refl _ _)⟩
  case round =>
    obtain ⟨m, M, ki, hm, hki, hM, hMl, OW, rfl, HB⟩ := hrel
    by_cases hlt : 0 < gk
    · obtain ⟨j, hj⟩ : ∃ j, j + 1 = gk := ⟨gk - 1, by omega⟩
      have kj : ki = (j : Int) := by omega
      have KL : j < L.length := by omega
      obtain ⟨g, rfl, h4, h3, h5, h6, c⟩ := (R1'.out.below HB.out).cell (k := j) KL
      have NX := Lib.hid (show (L.drop j).reverse = (L.drop (j + 1)).reverse ++ [L.getD j 0] from by
        rw [List.drop_eq_getElem_cons KL, List.reverse_cons, List.getD_eq_getElem?_getD, List.getElem?_eq_getElem KL]
        rfl)
      have HJ := Lib.hid hj
      have HMl := Lib.hid hMl
      have hsz := HB.out.size
      have m1 : m + 1 ≤ 17592186044416 := by omega
      clear hki
      subst kj
      generalize L.getD j 0 = r at *
      go_wp2_with (at_builtin; refine wpList_append_own _ rfl (.tmp 15) (.tmp 20) _ rfl w1.heap.size 21 i0 _ 1 4 Tryd.underlying27 hi0 hz0 hz1 hz2 rfl (by omega) u4 m (M.map rc) rfl (by have q := OW.out; unfold RowN at q; rw [HMl.out] at q; exact q.alloc _) ⟨wr.heap.size, 0, none⟩ 1 1 [.int .i32 (r : Int)] rfl rfl (cell_one_new _ _ _) (by intro u hu; rw [List.mem_singleton.1 hu]; rfl) (by simp only [maxLen]; omega) (by omega) (by simp; omega) ?_)
      intro v' w' hown3 hg _
      have OWn : RowN w1.heap.size w' v' (M ++ [r]) := by
        unfold RowN
        rw [List.length_append, HMl.out, List.map_append]
        exact hown3
      have BB : Below w1.heap.size w1 w' := (HB.out.alloc hsz _).grown hg (by simp; omega) (fun k hk => (OW.out.lt k hk).1)
      have OWn' := Lib.hid OWn
      have BB' := Lib.hid BB
      clear hown3 hg OWn BB
      go_wp2
      go_roundg j
      case measure => omega
      case rel =>
        refine ⟨m + 1, M ++ [r], (j : Int) - 1, by omega, rfl, Lib.hid ?_, by rw [List.length_append, HMl.out]; rfl, OWn', by go_num, BB'⟩
        rw [hM.out, NX.out, ← HJ.out]
    · obtain rfl : gk = 0 := by omega
      have RES := Lib.hid (show M = L.reverse from by rw [hM.out, List.drop_zero])
      have CT := Lib.hid (fun W (hW : Below wr.heap.size wr W) => textR_any _ u4 M W (by omega) (OW.out.below hW))
      have kn : ki = -1 := by omega
      subst kn
      clear hki
      go_wp2_with (go_at_call 25; (with_reducible refine (CT.out _ (by go_grown)).mono ?_); rintro e w2 ⟨rfl, hb2⟩)
      go_ret
      rw [← RES.out]
      exact ⟨rfl, bstep (bstep hb1 HB.out) hb2⟩
set_option linter.unusedVariables false in
set_option linter.unusedSimpArgs false in
set_option maxRecDepth 100000 in
set_option maxHeartbeats 4000000 in
/-- Valid: any string (of up to 2^44 bytes). -/
theorem lvalid_any (s : ByteArray) (w : World) (hs : s.size ≤ 17592186044416) :
    Calls Tryd.prog 8 #[.string s] w (RetTx (enc (rnS s)) w) := by
  have CR := Lib.hid (fun W => runes_any s W hs)
  have LE := rnS_le s
  generalize rnS s = L at *
  go_enter Tryd.func8, Tryd.ntmps8
  go_wp2_with (first
    | (go_at_call 12; (with_reducible refine (CR.out _).mono ?_); rintro e w1 ⟨v1, rfl, R1, hb1⟩; have CT := Lib.hid (fun W (hW : Below w1.heap.size w1 W) => textR_any _ v1 L W (by omega) (R1.below hW)); clear R1)
    | (go_at_call 25; (with_reducible refine (CT.out _ (by go_grown)).mono ?_); rintro e w2 ⟨rfl, hb2⟩))
  go_ret
  exact ⟨rfl, bstep hb1 hb2⟩
end Go.Proofs.YtfdbpeplmkfijaaDoor

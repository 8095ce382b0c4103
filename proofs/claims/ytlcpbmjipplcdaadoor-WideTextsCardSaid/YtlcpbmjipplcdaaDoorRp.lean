/-
  The document's digits moved up by any number of places, and powers of two, each as a contract of its call.
-/
import Derived.Test.YtlcpbmjipplcdaaDoorR7
import Derived.Test.YtlcpbmjipplcdaaDoorR3
namespace Go.Proofs.YtlcpbmjipplcdaaDoor
open Go.RowKit

theorem val_shift (n m : Nat) : trim (List.replicate n 0 ++ Dg.dg m) = Dg.dg (m * 10 ^ n) := by
  unfold trim
  rw [Dg.val_append, Dg.val_zeros _ (fun d hd => (List.mem_replicate.1 hd).2), Dg.val_dg, List.length_replicate, Nat.zero_add, Nat.mul_comm]

def ShRel (w : World) (n m : Nat) (d k : Value) (W : World) : Prop :=
  ∃ j : Nat, k = .int .i64 (j : Int) ∧ j + m = n ∧ W.ownsRow w.heap.size 3 1 d j ((List.replicate j 0).map fun d : Nat => Value.int .i64 (d : Int)) ∧ Below w.heap.size w W

set_option maxRecDepth 100000 in
set_option maxHeartbeats 4000000 in
/-- So many times ten. -/
theorem shift_any (v : Value) (m n : Nat) (hn : n ≤ 20000) (la : (Dg.dg m).length ≤ 20000) (w : World) (h : Row w v (Dg.dg m)) : Calls Tryd.prog 21 #[v, .int .i64 (n : Int)] w (RetRow (Dg.dg (m * 10 ^ n)) w) := by
  obtain ⟨i0, hi0, hz0, hz1, hz2⟩ := info_parts int_info
  rw [← val_shift]
  have HDL := Lib.hid (show ∀ d ∈ List.replicate n 0 ++ Dg.dg m, d < 10 from fun d hd => by
    rcases List.mem_append.1 hd with hd | hd
    · rw [(List.mem_replicate.1 hd).2]; omega
    · exact Dg.dg_lt m d hd)
  have F := Lib.hid h.form
  obtain ⟨A, ca, rfl⟩ := slice_of h
  generalize Dg.dg m = a at *
  clear m h
  go_enter Tryd.func21, Tryd.ntmps21
  go_wp2
  go_loopg [5, 6] n (fun m d k W => ShRel w n m d k W)
  case atStart => exact ⟨0, rfl, by omega, ⟨rfl, .inl ⟨rfl, rfl⟩⟩, Below.refl _ _⟩
  case round =>
    obtain ⟨j, rfl, e1, own, HB⟩ := hrel
    have E1 := Lib.hid e1
    have jn : j ≤ n := by omega
    have base := HB.size
    rcases Nat.lt_or_ge j n with z | z
    · have t : decide (j < n) = true := by simpa using z
      have j1 : j ≤ 20000 := by omega
      clear e1
      go_wp2_with (at_builtin; refine wpList_append_own _ rfl (.tmp 12) (.tmp 13) _ rfl w.heap.size 3 i0 _ 1 8 Tryd.underlying29 hi0 hz0 hz1 hz2 rfl (by omega) u5 j ((List.replicate j 0).map fun d : Nat => Value.int .i64 (d : Int)) rfl (own.alloc _) ⟨wr.heap.size, 0, none⟩ 1 1 [.int .i64 0] rfl rfl (cell_one_new _ _ _) (by intro u hu; rw [List.mem_singleton.1 hu]; rfl) (by simp only [maxLen]; omega) (by omega) (by simp; omega) ?_)
      intro v' w' hown hg _
      have OW := Lib.hid hown
      have BB : Below w.heap.size w w' := (HB.alloc base _).grown hg (by simp; omega) (fun k hk => (own.lt k hk).1)
      clear hown hg
      go_wp2
      go_roundg (gk - 1)
      case measure => have := E1.out; omega
      case rel =>
        refine ⟨j + 1, by go_num, by have := E1.out; omega, ?_, BB⟩
        rw [List.replicate_succ', List.map_append, List.map_replicate]
        exact OW.out
    · have ej : j = n := by omega
      subst ej
      have t : decide (j < j) = false := by simp
      clear e1 z jn
      rcases F.out with ⟨e, rfl⟩ | ⟨g, cap, e, h1, h2, h3, h4⟩
      · rw [e]
        have R : Row wr u5 (List.replicate j 0 ++ []) := by
          rw [List.append_nil]
          refine row_of (b := w.heap.size) ?_
          rw [List.length_replicate]
          exact own
        have HR := Lib.hid R
        clear R e
        go_wp2_with (at_builtin; refine wpList_append_named_none _ rfl (.tmp 15) (.tmp 16) _ _ rfl w.heap.size 3 i0 1 Tryd.underlying29 Tryd.underlying30 hi0 u5 j ((List.replicate j 0).map fun d : Nat => Value.int .i64 (d : Int)) rfl own rfl ?_)
        go_wp2_with fail
        refine (trim_any _ (List.replicate j 0 ++ []) (by simp; omega) HDL.out _ HR.out).mono ?_
        rintro e w3 ⟨v3, rfl, R3, hb3⟩
        have HR3 := Lib.hid R3
        clear R3
        go_wp2
        go_ret
        exact ⟨v3, rfl, HR3.out, bstep HB hb3⟩
      · rw [e]
        have nw := Lib.hid (cells_take (w := wr) (g := g) (l := a) (fun k hk => (HB.cell (p := ⟨g, k, none⟩) h3).trans (h4 k hk)) (Nat.le_refl _))
        have h2' : cap ≤ 9223372036854775807 := h2
        clear h2 h4 e
        go_wp2_with (at_builtin; refine wpList_append_named _ rfl (.tmp 15) (.tmp 16) _ _ rfl w.heap.size 3 i0 _ 1 8 Tryd.underlying29 Tryd.underlying30 hi0 hz0 hz1 hz2 rfl (by omega) u5 j ((List.replicate j 0).map fun d : Nat => Value.int .i64 (d : Int)) rfl own ⟨g, 0, none⟩ a.length cap (a.map fun d : Nat => Value.int .i64 (d : Int)) rfl (by simp) (by have := nw.out; rw [List.take_length] at this; exact this) (by intro u hu; obtain ⟨y, _, rfl⟩ := List.mem_map.1 hu; rfl) (by simp only [maxLen]; omega) (by omega) base ?_)
        intro v2 w2 hown2 hg2
        have B2 : Below w.heap.size w w2 := HB.grown hg2 base (fun k hk => (own.lt k hk).1)
        have R : Row w2 v2 (List.replicate j 0 ++ a) := by
          refine row_of (b := w.heap.size) ?_
          rw [List.length_append, List.length_replicate, List.map_append, List.map_replicate]
          exact hown2
        have HR := Lib.hid R
        clear hown2 hg2 R nw
        go_wp2_with fail
        refine (trim_any _ (List.replicate j 0 ++ a) (by simp; omega) HDL.out _ HR.out).mono ?_
        rintro e w3 ⟨v3, rfl, R3, hb3⟩
        have HR3 := Lib.hid R3
        clear R3
        go_wp2
        go_ret
        exact ⟨v3, rfl, HR3.out, bstep B2 hb3⟩

def PwRel (w : World) (n m : Nat) (o k : Value) (W : World) : Prop := ∃ j : Nat, k = .int .i64 (j : Int) ∧ j + m = n ∧ Row W o (Dg.dg (2 ^ j)) ∧ Below w.heap.size w W

theorem one_row1 (W : World) : Row (W.alloc (.cells #[.int .i64 1] 3)) (.slice (some ⟨W.heap.size, 0, none⟩) 1 1) [1] := by
  refine ⟨rfl, .inr ⟨W.heap.size, 1, #[.int .i64 1], rfl, Nat.zero_le _, ?_, Nat.le_refl _, by decide, rfl, rfl⟩⟩
  exact heap_alloc_new W _
theorem dg_one : Dg.dg 1 = [1] := by rw [Dg.dg_pos (by decide)]; simp [Dg.dg_zero]
theorem pw_lt {j : Nat} (h : j ≤ 256) : 2 ^ j < 10 ^ 200 := Nat.lt_of_le_of_lt (Nat.pow_le_pow_right (by decide) h) (by decide +kernel)

set_option maxRecDepth 100000 in
set_option maxHeartbeats 2000000 in
theorem pow_any (n : Nat) (hn : n ≤ 256) (w : World) : Calls Tryd.prog 23 #[.int .i64 (n : Int)] w (RetRow (Dg.dg (2 ^ n)) w) := by
  have OR := Lib.hid (one_row1 w)
  go_enter Tryd.func23, Tryd.ntmps23
  go_wp2
  go_loopg [3, 4] n (fun m o k W => PwRel w n m o k W)
  case atStart => exact ⟨0, rfl, by omega, by rw [show Dg.dg (2 ^ 0) = [1] from dg_one]; exact OR.out, by go_grown⟩
  case round =>
    obtain ⟨j, rfl, e1, R, HB⟩ := hrel
    have HR := Lib.hid R
    have E1 := Lib.hid e1
    have jn : j ≤ n := by omega
    clear R e1 OR
    rcases Nat.lt_or_ge j n with z | z
    · have t : decide (j < n) = true := by simpa using z
      have L := Lib.hid (dg_small (pw_lt (show j ≤ 256 by omega)))
      go_wp2_with fail
      refine (small_any u3 (Dg.dg (2 ^ j)) 2 0 2 0 rfl rfl (by omega) (by omega) (by have := L.out; omega) (Dg.dg_lt _) _ HR.out).mono ?_
      rintro e w1 ⟨v1, rfl, R1, hb1⟩
      rw [Dg.val_dg, Nat.add_zero, ← Nat.pow_succ] at R1
      have HR1 := Lib.hid R1
      have B1 : Below w.heap.size w w1 := bstep HB hb1
      clear R1 hb1
      go_wp2
      go_roundg (gk - 1)
      case measure => have := E1.out; omega
      case rel => exact ⟨j + 1, by go_num, by have := E1.out; omega, HR1.out, B1⟩
    · have ej : j = n := by omega
      have t : decide (j < n) = false := by simp; omega
      have EJ := Lib.hid ej
      clear ej
      go_wp2
      go_ret
      exact ⟨_, rfl, by have := HR.out; rw [EJ.out] at this; exact this, HB⟩
end Go.Proofs.YtlcpbmjipplcdaaDoor

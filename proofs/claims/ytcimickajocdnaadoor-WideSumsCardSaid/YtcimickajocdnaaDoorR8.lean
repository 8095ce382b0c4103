/-
  The document's product, as a contract of its call.
-/
import Derived.Test.YtcimickajocdnaaDoorR7
import Derived.Deep.RegionHeld3
import Derived.Deep.DeepCutAuto
namespace Go.Proofs.YtcimickajocdnaaDoor
open Go.RowKit

def MulRel2 (w : World) (m : Nat) (b : List Nat) (j : Nat) (o k : Value) (W : World) : Prop := k = .int .i64 ((j : Int) - 1) ∧ j ≤ b.length ∧ Row W o (Dg.dg (m * Dg.val (b.drop j))) ∧ Below w.heap.size w W

theorem val_drop {b : List Nat} {i : Nat} (h : i < b.length) : Dg.val (b.drop i) = b.getD i 0 + 10 * Dg.val (b.drop (i + 1)) := by
  rw [List.drop_eq_getElem_cons h, Dg.val]
  simp [List.getD, h]
theorem dg_mul_len {m n a b : Nat} (h1 : m < 10 ^ a) (h2 : n < 10 ^ b) : (Dg.dg (m * n)).length ≤ a + b ∧ (Dg.dg (10 * (m * n))).length ≤ a + b + 1 := by
  have h : m * n < 10 ^ (a + b) := by rw [Nat.pow_add]; exact Nat.mul_lt_mul'' h1 h2
  exact ⟨Dg.dg_length_le h, Dg.dg_length_le (by rw [Nat.pow_succ]; omega)⟩

set_option maxRecDepth 100000 in
set_option maxHeartbeats 8000000 in
theorem rmul_any (v1 v2 : Value) (m n : Nat) (la : (Dg.dg m).length ≤ 200) (lb : (Dg.dg n).length ≤ 200) (w : World) (h1 : Row w v1 (Dg.dg m)) (h2 : Row w v2 (Dg.dg n)) :
    Calls Tryd.prog 25 #[v1, v2] w (RetRow (Dg.dg (m * n)) w) := by
  have H1 := Lib.hid h1
  obtain ⟨B, cb, rfl⟩ := slice_of h2
  have F2 := h2.form
  have mb := (Dg.dg_bounds m).1
  have dn := Dg.dg_lt n
  have vn := Dg.val_dg n
  have mlen := la
  have MB : m < 10 ^ 200 := Nat.lt_of_lt_of_le mb (Nat.pow_le_pow_right (by decide) la)
  have HMB := Lib.hid MB
  have HLA := Lib.hid la
  have ev : m * n = m * Dg.val (Dg.dg n) := by rw [vn]
  rw [ev]
  clear h1 h2 mb la mlen vn ev MB
  generalize Dg.dg n = b at *
  have HF := Lib.hid F2
  have DN := Lib.hid dn
  clear F2 dn n
  go_enter Tryd.func25, Tryd.ntmps25
  go_wp2
  go_loopg [5, 6] b.length (fun j o k W => MulRel2 w m b j o k W)
  case atStart => exact ⟨rfl, Nat.le_refl _, by rw [List.drop_length, Dg.val, Nat.mul_zero, Dg.dg_zero]; exact Row.nil, Below.refl _ _⟩
  case round =>
    obtain ⟨rfl, r1, R, HB⟩ := hrel
    have HR := Lib.hid R
    clear R
    rcases Nat.eq_zero_or_pos gk with g0 | g0
    · subst g0
      have ek : (((0 : Nat) : Int) - 1) = -1 := rfl
      rw [ek]
      clear ek
      go_wp2
      go_ret
      exact ⟨_, rfl, by have := HR.out; rw [List.drop_zero] at this; exact this, HB⟩
    · obtain ⟨i, rfl⟩ : ∃ i, gk = i + 1 := ⟨gk - 1, by omega⟩
      obtain ⟨g2, c2, p1, p2, p3, p4⟩ : ∃ g c, Value.slice B b.length cb = .slice (some ⟨g, 0, none⟩) b.length c ∧ b.length ≤ c ∧ g < w.heap.size ∧ ∀ k, k < b.length → w.cell? ⟨g, k, none⟩ = some (.int .i64 ((b.getD k 0 : Nat) : Int)) := by
        rcases HF.out with ⟨_, e⟩ | ⟨g, c, e, f1, _, f2, f3⟩
        · subst e; simp at r1
        · exact ⟨g, c, e, f1, f2, f3⟩
      have c := (HB.cell (p := ⟨g2, i, none⟩) p3).trans (p4 i (by omega))
      injection p1 with p1 _ p1'
      subst p1 p1'
      have ek : (((i + 1 : Nat) : Int) - 1) = (i : Int) := by omega
      rw [ek]
      have VD := Lib.hid (val_drop (b := b) (i := i) (by omega))
      have d9 := Dg.getD_lt DN.out i
      have vb : Dg.val (b.drop (i + 1)) < 10 ^ 200 := Nat.lt_of_lt_of_le (Dg.val_lt _ (fun d hd => DN.out d (List.mem_of_mem_drop hd))) (Nat.pow_le_pow_right (by decide) (by simp; omega))
      obtain ⟨L1, L2⟩ := dg_mul_len HMB.out vb
      have HL1 := Lib.hid L1
      have HL2 := Lib.hid L2
      have L3 := Lib.hid (dg_mul_len HMB.out (show b.getD i 0 < 10 ^ 1 by omega)).1
      generalize Dg.val (b.drop (i + 1)) = V at *
      generalize b.getD i 0 = d at *
      have gw : g2 < wr.heap.size := by have := HB.size; omega
      have A1 := Lib.hid (H1.out.below HB)
      have HD9 := Lib.hid d9
      have k0 : (0 : Int) ≤ (i : Int) := by omega
      have k1 : (i : Int) < (b.length : Int) := by omega
      have k2 : i < b.length := by omega
      clear p4 ek vb L1 L2 HF d9
      go_wp2
      go_region_held3 (fun w' => w'.cell? ⟨g2, i, none⟩ = some (.int .i64 (d : Int)) ∧ Below wr.heap.size wr w') (first | assumption | exact ⟨c, (Below.refl _ _).drew⟩ | exact ⟨by assumption, by assumption⟩)
        (first
          | (go_at_call 32; refine (shift1_any u5 (m * V) ?_ _ (HR.out.below (And.right (by assumption)))).mono ?_; (have := HL1.out; omega); rintro e w1 ⟨v15, rfl, R15, hb1⟩; (try (have R21b := R21.below hb1)); have B1 : Below wr.heap.size wr w1 := bstep (And.right (by assumption)) hb1; have c1 : w1.cell? ⟨g2, i, none⟩ = some (.int .i64 (d : Int)) := (B1.cell gw).trans c; clear hb1)
          | (go_at_call 47; refine (small_any _ (Dg.dg m) _ _ d 0 rfl rfl ?_ ?_ ?_ (Dg.dg_lt m) _ (A1.out.below (And.right (by assumption)))).mono ?_; (have := HD9.out; omega); omega; (have := HLA.out; omega); rintro e w2 ⟨v21, rfl, R21, hb2⟩; (try (have R15b := R15.below hb2)); have B2 : Below wr.heap.size wr w2 := bstep (And.right (by assumption)) hb2; have c2 : w2.cell? ⟨g2, i, none⟩ = some (.int .i64 (d : Int)) := (B2.cell gw).trans c; clear hb2)
          | (go_at_call 21; refine (radd_any v15 v21 (Dg.dg (10 * (m * V))) (Dg.dg (Dg.val (Dg.dg m) * d + 0)) ?_ ?_ (Dg.dg_lt _) (Dg.dg_lt _) _ (by assumption) (by assumption)).mono ?_; (have := HL2.out; omega); (have := L3.out; rw [Dg.val_dg, Nat.add_zero]; omega); rintro e w3 ⟨v22, rfl, R22, hb3⟩; have B3 : Below wr.heap.size wr w3 := bstep (And.right (by assumption)) hb3; have c3 : w3.cell? ⟨g2, i, none⟩ = some (.int .i64 (d : Int)) := (B3.cell gw).trans c; clear hb3))
      all_goals
        go_wp2
        go_roundg i
        case measure => omega
        case rel =>
          refine ⟨rfl, by omega, ?_, bstep HB B3⟩
          rw [VD.out]
          have q := R22
          rw [Dg.val_dg, Dg.val_dg, Dg.val_dg, Nat.add_zero, show 10 * (m * V) + m * d = m * (d + 10 * V) from by rw [Nat.mul_add, Nat.mul_left_comm]; omega] at q
          exact q
end Go.Proofs.YtcimickajocdnaaDoor

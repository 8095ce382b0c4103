/-
  Sums, differences, comparisons and products of package wide, each as a contract of its call.
-/
import Derived.Test.YtncpdoeikebomaaDoorA
namespace Go.Proofs.YtncpdoeikebomaaDoor
open Go.RowKit

theorem bcell {W w1 : World} (hb : Below W.heap.size W w1) : (∀ b o, b < W.heap.size → w1.cell? ⟨b, o, none⟩ = W.cell? ⟨b, o, none⟩) ∧ (∀ b o, b < W.heap.size → w1.frozen? ⟨b, o, none⟩ = W.frozen? ⟨b, o, none⟩) :=
  ⟨fun b o h => hb.cell (p := ⟨b, o, none⟩) h, fun b o h => hb.frozen (p := ⟨b, o, none⟩) h⟩

theorem addCarry0 (ah al bh bl : Nat) (ha : WW ah al) (hb : WW bh bl) (w : World) :
    Calls Tryd.prog 100 #[U ah al, U bh bl, .int .u64 0] w (RetUW (SumF ah al bh bl 0) w) := addCarry_any ah al bh bl 0 ha hb (by omega) w


theorem bstep {w W w1 : World} (h : Below w.heap.size w W) (k : Below W.heap.size W w1) : Below w.heap.size w w1 := h.trans (k.mono h.size)

set_option maxHeartbeats 400000 in
theorem add_any (ah al bh bl : Nat) (ha : WW ah al) (hb : WW bh bl) (w : World) :
    Calls Tryd.prog 74 #[U ah al, U bh bl] w (RetUW (SumF ah al bh bl 0) w) := by
  go_enter Tryd.func74, Tryd.ntmps74
  go_wp2_with fail
  refine (addCarry0 ah al bh bl ha hb _).mono ?_
  rintro e w1 ⟨h, l, c, F, rfl, hb1⟩
  have Hb1 : Below w.heap.size w w1 := bstep (by go_grown) hb1
  obtain ⟨hc, hf⟩ := bcell hb1
  clear hb1
  go_wp2
  refine bodyPost_ret (v := .tuple #[U h l, .int .u64 (c : Int)]) (by simp [results, Tryd.results74, go_sem, hc]) rfl ⟨_, _, _, F, rfl, ?_⟩
  clear hc hf
  go_grown

theorem lt6 {a b : Nat} (h : a + 6 ≤ b) : a < b ∧ a + 1 < b ∧ a + 1 + 1 < b ∧ a + 1 + 1 + 1 < b ∧ a + 1 + 1 + 1 + 1 < b ∧ a + 1 + 1 + 1 + 1 + 1 < b := by omega

/-- What a sum of 256 bits is. -/
def Sum2F (ah al bh bl ch cl dh dl h l h' l' c : Nat) : Prop := WW h l ∧ WW h' l' ∧ c ≤ 1 ∧ nv h l * B128 + nv h' l' + c * (B128 * B128) = nv ah al * B128 + nv bh bl + (nv ch cl * B128 + nv dh dl)
theorem sum2F_mk {ah al bh bl ch cl dh dl h l h' l' c k : Nat} (f : SumF bh bl dh dl 0 h' l' k) (g : SumF ah al ch cl k h l c) : Sum2F ah al bh bl ch cl dh dl h l h' l' c := by
  unfold SumF at f g
  unfold Sum2F
  refine ⟨g.1, f.1, g.2.1, ?_⟩
  have e1 := f.2.2
  have e2 := g.2.2
  generalize nv h l = x at *
  generalize nv h' l' = y at *
  generalize nv ah al = a at *
  generalize nv bh bl = b at *
  generalize nv ch cl = cc at *
  generalize nv dh dl = d at *
  unfold B128 at *
  omega

set_option maxHeartbeats 800000 in
theorem add2_any (ah al bh bl ch cl dh dl : Nat) (ha : WW ah al) (hb : WW bh bl) (hcc : WW ch cl) (hd : WW dh dl) (w : World) :
    Calls Tryd.prog 101 #[U ah al, U bh bl, U ch cl, U dh dl] w (RetUUW (Sum2F ah al bh bl ch cl dh dl) w) := by
  go_enter Tryd.func101, Tryd.ntmps101
  go_wp2_with fail
  refine (addCarry0 bh bl dh dl hb hd _).mono ?_
  rintro e w1 ⟨h', l', k, F, rfl, hb1⟩
  have Hb1 : Below w.heap.size w w1 := bstep (by go_grown) hb1
  obtain ⟨z0, z1, z2, z3, z4, z5⟩ := lt6 (by have := hb1.size; simp at this; omega : w.heap.size + 6 ≤ w1.heap.size)
  obtain ⟨hc, hf⟩ := bcell hb1
  clear hb1
  go_wp2_with fail
  refine (addCarry_any ah al ch cl k ha hcc F.2.1 _).mono ?_
  rintro e w2 ⟨h, l, c, G, rfl, hb2⟩
  have Hb2 : Below w.heap.size w w2 := bstep (by go_grown) hb2
  have y0 : w1.heap.size < w2.heap.size := by have := hb2.size; simp at this; omega
  obtain ⟨x0, x1, x2, x3, x4, x5⟩ := lt6 (by omega : w.heap.size + 6 ≤ w2.heap.size)
  obtain ⟨hc2, hf2⟩ := bcell hb2
  clear hb2
  go_wp2
  go_region
  all_goals
    go_wp2
    refine bodyPost_ret (v := .tuple #[U h l, U h' l', .int .u64 (c : Int)]) (by simp [results, Tryd.results101, go_sem, *]) rfl ⟨_, _, _, _, _, sum2F_mk F G, rfl, ?_⟩
    clear hc hf hc2 hf2
    go_grown

theorem subF_mk (ah al bh bl k : Nat) (ha : WW ah al) (hb : WW bh bl) (hk : k ≤ 1) :
    SubF ah al bh bl k (((ah : Int) - bh - bor al (bl + k)) % 18446744073709551616).toNat (((al : Int) - bl - k) % 18446744073709551616).toNat (bor ah (bh + bor al (bl + k))).toNat ∧ 0 ≤ bor al (bl + k) ∧ bor al (bl + k) ≤ 1 ∧ 0 ≤ bor ah (bh + bor al (bl + k)) ∧
      0 ≤ ((ah : Int) - bh - bor al (bl + k)) % 18446744073709551616 ∧ 0 ≤ ((al : Int) - bl - k) % 18446744073709551616 := by
  obtain ⟨_, _⟩ := ha; obtain ⟨_, _⟩ := hb
  unfold SubF WW nv B128 bor
  split <;> split <;> omega

set_option maxHeartbeats 400000 in
theorem subBorrow_any (ah al bh bl k : Nat) (ha : WW ah al) (hb : WW bh bl) (hk : k ≤ 1) (w : World) :
    Calls Tryd.prog 106 #[U ah al, U bh bl, .int .u64 (k : Int)] w (RetUW (SubF ah al bh bl k) w) := by
  obtain ⟨F, k0, k1, m0, m1, m2⟩ := subF_mk ah al bh bl k ha hb hk
  obtain ⟨_, _⟩ := ha; obtain ⟨_, _⟩ := hb
  go_enter Tryd.func106, Tryd.ntmps106
  go_wp2_with (first | simp only [sub64 al bl k (Int.natCast_nonneg _) (Int.natCast_nonneg _) (by omega) (Int.natCast_nonneg _) (by omega)] | simp only [sub64 ah bh _ (Int.natCast_nonneg _) (Int.natCast_nonneg _) (by omega) k0 k1])
  go_returns
  exact ⟨_, _, _, F, ret_uw (by omega) (by omega) (by omega), by go_grown⟩

theorem subBorrow0 (ah al bh bl : Nat) (ha : WW ah al) (hb : WW bh bl) (w : World) :
    Calls Tryd.prog 106 #[U ah al, U bh bl, .int .u64 0] w (RetUW (SubF ah al bh bl 0) w) := subBorrow_any ah al bh bl 0 ha hb (by omega) w

set_option maxHeartbeats 400000 in
theorem sub_any (ah al bh bl : Nat) (ha : WW ah al) (hb : WW bh bl) (w : World) :
    Calls Tryd.prog 99 #[U ah al, U bh bl] w (RetUW (SubF ah al bh bl 0) w) := by
  go_enter Tryd.func99, Tryd.ntmps99
  go_wp2_with fail
  refine (subBorrow0 ah al bh bl ha hb _).mono ?_
  rintro e w1 ⟨h, l, c, F, rfl, hb1⟩
  have Hb1 : Below w.heap.size w w1 := bstep (by go_grown) hb1
  obtain ⟨hc, hf⟩ := bcell hb1
  clear hb1
  go_wp2
  refine bodyPost_ret (v := .tuple #[U h l, .int .u64 (c : Int)]) (by simp [results, Tryd.results99, go_sem, hc]) rfl ⟨_, _, _, F, rfl, ?_⟩
  clear hc hf
  go_grown

/-- What a difference of 256 bits is. -/
def Sub2F (ah al bh bl ch cl dh dl h l h' l' c : Nat) : Prop := WW h l ∧ WW h' l' ∧ c ≤ 1 ∧ nv h l * B128 + nv h' l' + (nv ch cl * B128 + nv dh dl) = nv ah al * B128 + nv bh bl + c * (B128 * B128)
theorem sub2F_mk {ah al bh bl ch cl dh dl h l h' l' c k : Nat} (f : SubF bh bl dh dl 0 h' l' k) (g : SubF ah al ch cl k h l c) : Sub2F ah al bh bl ch cl dh dl h l h' l' c := by
  unfold SubF at f g
  unfold Sub2F
  refine ⟨g.1, f.1, g.2.1, ?_⟩
  have e1 := f.2.2
  have e2 := g.2.2
  generalize nv h l = x at *
  generalize nv h' l' = y at *
  generalize nv ah al = a at *
  generalize nv bh bl = b at *
  generalize nv ch cl = cc at *
  generalize nv dh dl = d at *
  unfold B128 at *
  omega

set_option maxHeartbeats 800000 in
theorem sub2_any (ah al bh bl ch cl dh dl : Nat) (ha : WW ah al) (hb : WW bh bl) (hcc : WW ch cl) (hd : WW dh dl) (w : World) :
    Calls Tryd.prog 104 #[U ah al, U bh bl, U ch cl, U dh dl] w (RetUUW (Sub2F ah al bh bl ch cl dh dl) w) := by
  go_enter Tryd.func104, Tryd.ntmps104
  go_wp2_with fail
  refine (subBorrow0 bh bl dh dl hb hd _).mono ?_
  rintro e w1 ⟨h', l', k, F, rfl, hb1⟩
  have Hb1 : Below w.heap.size w w1 := bstep (by go_grown) hb1
  obtain ⟨z0, z1, z2, z3, z4, z5⟩ := lt6 (by have := hb1.size; simp at this; omega : w.heap.size + 6 ≤ w1.heap.size)
  obtain ⟨hc, hf⟩ := bcell hb1
  clear hb1
  go_wp2_with fail
  refine (subBorrow_any ah al ch cl k ha hcc F.2.1 _).mono ?_
  rintro e w2 ⟨h, l, c, G, rfl, hb2⟩
  have Hb2 : Below w.heap.size w w2 := bstep (by go_grown) hb2
  have y0 : w1.heap.size < w2.heap.size := by have := hb2.size; simp at this; omega
  obtain ⟨x0, x1, x2, x3, x4, x5⟩ := lt6 (by omega : w.heap.size + 6 ≤ w2.heap.size)
  obtain ⟨hc2, hf2⟩ := bcell hb2
  clear hb2
  go_wp2
  go_region
  all_goals
    go_wp2
    refine bodyPost_ret (v := .tuple #[U h l, U h' l', .int .u64 (c : Int)]) (by simp [results, Tryd.results104, go_sem, *]) rfl ⟨_, _, _, _, _, sub2F_mk F G, rfl, ?_⟩
    clear hc hf hc2 hf2
    go_grown

/-! ### Comparisons -/
/-- -1, 0 or 1. -/
def cmpN (a b : Nat) : Int := if a < b then -1 else if b < a then 1 else 0
theorem cmpN_lt {a b : Nat} (h : a < b) : cmpN a b = -1 := by unfold cmpN; rw [if_pos h]
theorem cmpN_gt {a b : Nat} (h : b < a) : cmpN a b = 1 := by unfold cmpN; rw [if_neg (by omega), if_pos h]
theorem cmpN_eq (a : Nat) : cmpN a a = 0 := by unfold cmpN; rw [if_neg (by omega), if_neg (by omega)]

set_option maxHeartbeats 400000 in
theorem compare_any (a b : Nat) (w : World) : Calls Tryd.prog 95 #[.int .u64 (a : Int), .int .u64 (b : Int)] w fun e w' => e = .returned (.int .i64 (cmpN a b)) ∧ w = w' := by
  rcases Nat.lt_trichotomy a b with h | h | h
  · rw [cmpN_lt h]
    have h1 : (b < a) = False := by simp; omega
    go_enter Tryd.func95, Tryd.ntmps95
    go_wp2
    go_ret
    exact ⟨rfl, rfl⟩
  · subst h
    rw [cmpN_eq]
    go_enter Tryd.func95, Tryd.ntmps95
    go_wp2
    go_ret
    exact ⟨rfl, rfl⟩
  · rw [cmpN_gt h]
    have h1 : ¬ a < b := by omega
    go_enter Tryd.func95, Tryd.ntmps95
    go_wp2
    go_ret
    exact ⟨rfl, rfl⟩
end Go.Proofs.YtncpdoeikebomaaDoor

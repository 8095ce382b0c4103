/-
  Products of package wide, each as a contract of its call.
-/
import Derived.Test.YtncpdoeikebomaaDoorC
import Derived.Deep.RegionHeld3
namespace Go.Proofs.YtncpdoeikebomaaDoor
open Go.RowKit

def MulF (x y p q : Nat) : Prop := p < 18446744073709551616 ∧ q < 18446744073709551616 ∧ p * 18446744073709551616 + q = x * y
theorem mul64' (x y : Nat) (hx : x < 18446744073709551616) (hy : y < 18446744073709551616) (w : World) :
    Calls Tryd.prog 93 #[.int .u64 x, .int .u64 y] w fun e w' => ∃ p q : Nat, MulF x y p q ∧ e = .returned (.tuple #[.int .u64 (p : Int), .int .u64 (q : Int)]) ∧ w = w' := by
  refine (mul64 x y hx hy w).mono fun e w' ⟨he, hw⟩ => ⟨x * y / 18446744073709551616, x * y % 18446744073709551616, ⟨?_, by omega, by omega⟩, he, hw⟩
  have : x * y ≤ 18446744073709551615 * 18446744073709551615 := Nat.mul_le_mul (by omega) (by omega)
  omega

/-- What a product by a word is. -/
def MulWordF (ah al x o h l : Nat) : Prop := o < 18446744073709551616 ∧ WW h l ∧ nv h l + o * B128 = nv ah al * x

theorem nv_mul (K a l x : Nat) : (a * K + l) * x = a * x * K + l * x := by rw [Nat.add_mul, Nat.mul_right_comm]
theorem mul_nv (K n a l : Nat) : n * (a * K + l) = n * a * K + n * l := by rw [Nat.mul_add, Nat.mul_assoc]

theorem mw_arith (m lo hi r : Nat) (_f1 : m < 18446744073709551616) (f2 : lo < 18446744073709551616) (_g1 : hi < 18446744073709551616) (_g2 : r < 18446744073709551616) (b : hi * 18446744073709551616 + r ≤ 18446744073709551615 * 18446744073709551615) :
    hi + (m + r) / 18446744073709551616 < 18446744073709551616 ∧ ((m + r) % 18446744073709551616 < 18446744073709551616 ∧ lo < 18446744073709551616) ∧ nv ((m + r) % 18446744073709551616) lo + (hi + (m + r) / 18446744073709551616) * B128 = (hi * 18446744073709551616 + r) * 18446744073709551616 + (m * 18446744073709551616 + lo) := by
  refine ⟨by omega, ⟨by omega, by omega⟩, ?_⟩
  clear b
  simp only [nv, B128]
  omega

theorem mulWordF_mk {ah al x m lo hi r : Nat} (ha : WW ah al) (hx : x < 18446744073709551616) (f : MulF al x m lo) (g : MulF ah x hi r) :
    MulWordF ah al x (hi + (m + r) / 18446744073709551616) ((m + r) % 18446744073709551616) lo ∧ hi + (m + r) / 18446744073709551616 < 18446744073709551616 := by
  obtain ⟨f1, f2, f3⟩ := f; obtain ⟨g1, g2, g3⟩ := g; obtain ⟨a1, a2⟩ := ha
  have e : nv ah al * x = ah * x * 18446744073709551616 + al * x := by unfold nv; exact nv_mul 18446744073709551616 ah al x
  have b : ah * x ≤ 18446744073709551615 * 18446744073709551615 := Nat.mul_le_mul (by omega) (by omega)
  rw [← f3, ← g3] at e
  rw [← g3] at b
  have q := mw_arith m lo hi r f1 f2 g1 g2 b
  unfold MulWordF WW
  rw [e]
  exact ⟨q, q.1⟩

set_option maxHeartbeats 400000 in
theorem mulWord_any (ah al x : Nat) (ha : WW ah al) (hx : x < 18446744073709551616) (w : World) :
    Calls Tryd.prog 66 #[U ah al, .int .u64 (x : Int)] w (RetWU (MulWordF ah al x) w) := by
  obtain ⟨a1, a2⟩ := id ha
  go_enter Tryd.func66, Tryd.ntmps66
  go_wp2_with fail
  refine (mul64' al x a2 hx _).mono ?_
  rintro e w1 ⟨m, lo, F, rfl, rfl⟩
  go_wp2_with fail
  refine (mul64' ah x a1 hx _).mono ?_
  rintro e w1 ⟨hi, r, G, rfl, rfl⟩
  obtain ⟨Q, bd⟩ := mulWordF_mk ha hx F G
  have bd' : (hi : Int) + ((m : Int) + r) / 18446744073709551616 < 18446744073709551616 := by omega
  have bd0 : 0 ≤ (hi : Int) + ((m : Int) + r) / 18446744073709551616 := by omega
  go_wp2_with (simp only [add64_0 (m : Int) (r : Int) (Int.natCast_nonneg _) (Int.natCast_nonneg _)])
  go_returns
  exact ⟨_, _, _, Q, ret_wu (by omega) (by omega) (by omega), by go_grown⟩

/-- What a product is. -/
def ProdF (ah al bh bl h l h' l' : Nat) : Prop := WW h l ∧ WW h' l' ∧ nv2 h l h' l' = nv ah al * nv bh bl

theorem mul_lt_B256 {a b : Nat} (ha : a < B128) (hb : b < B128) : a * b < B128 * B128 := Nat.mul_lt_mul'' ha hb

theorem prod_id (o hh hl c lh ll : Nat) : nv o hh * B128 + nv hl 0 + (nv 0 c * B128 + nv lh ll) = (nv hh hl + o * B128) * 18446744073709551616 + (nv lh ll + c * B128) := by
  simp only [nv, B128]
  omega
theorem over_none (X Y k T : Nat) (s : X * B128 + Y + k * (B128 * B128) = T) (b : T < B128 * B128) : X * B128 + Y = T := by
  have : k = 0 := by
    rcases Nat.eq_zero_or_pos k with h | h
    · exact h
    · have := Nat.le_mul_of_pos_left (B128 * B128) h
      generalize B128 * B128 = Q at *
      generalize k * Q = R at *
      omega
  subst this
  rw [Nat.zero_mul, Nat.add_zero] at s
  exact s
theorem prodF_mk {ah al bh bl o hh hl c lh ll h l h' l' k : Nat} (ha : WW ah al) (hb : WW bh bl) (f : MulWordF ah al bh o hh hl) (g : MulWordF ah al bl c lh ll)
    (s : Sum2F o hh hl 0 0 c lh ll h l h' l' k) : ProdF ah al bh bl h l h' l' := by
  obtain ⟨_, _, f3⟩ := f; obtain ⟨_, _, g3⟩ := g; obtain ⟨s1, s2, s3, s4⟩ := s
  have e : nv ah al * nv bh bl = nv ah al * bh * 18446744073709551616 + nv ah al * bl := mul_nv 18446744073709551616 (nv ah al) bh bl
  have b := mul_lt_B256 (nv_lt ha) (nv_lt hb)
  refine ⟨s1, s2, ?_⟩
  unfold nv2
  rw [e] at b ⊢
  rw [← f3, ← g3] at b ⊢
  rw [prod_id] at s4
  exact over_none _ _ k _ s4 b

theorem lt8 {a b c d : Nat} (h : c + 2 ≤ d) (k : b < c) (m : a + 1 + 1 + 1 < c) : b < d ∧ b < d + 1 ∧ b < d + 1 + 1 ∧ c < d ∧ c < d + 1 ∧ c < d + 1 + 1 ∧ a + 1 + 1 < d ∧ a + 1 + 1 + 1 < d ∧ a + 1 + 1 < d + 1 ∧ a + 1 + 1 + 1 < d + 1 ∧ a + 1 + 1 < d + 1 + 1 ∧ a + 1 + 1 + 1 < d + 1 + 1 := by omega
theorem up4 {a b : Nat} (h : a + 1 + 1 + 1 + 1 ≤ b) : (a + 1 < b ∧ a + 1 + 1 < b ∧ a + 1 + 1 + 1 < b) ∧ (a + 1 < b + 1 ∧ a + 1 + 1 < b + 1 ∧ a + 1 + 1 + 1 < b + 1) := by omega
theorem up3 {a b : Nat} (h : a + 1 + 1 + 1 ≤ b) : (a + 1 < b ∧ a + 1 + 1 < b ∧ True) ∧ (a + 1 < b + 1 ∧ a + 1 + 1 < b + 1 ∧ True) := ⟨⟨by omega, by omega, trivial⟩, ⟨by omega, by omega, trivial⟩⟩
theorem up2 {a b : Nat} (h : a + 1 + 1 ≤ b) : (a + 1 < b ∧ True ∧ True) ∧ (a + 1 < b + 1 ∧ True ∧ True) := ⟨⟨by omega, trivial, trivial⟩, ⟨by omega, trivial, trivial⟩⟩
/-- The two cells of a block of the call's own hold the number h, l. -/
def Holds2 (W : World) (g h l : Nat) : Prop := W.cell? ⟨g, 0, none⟩ = some (.int .u64 (h : Int)) ∧ W.cell? ⟨g, 1, none⟩ = some (.int .u64 (l : Int)) ∧ W.frozen? ⟨g, 0, none⟩ = false ∧ W.frozen? ⟨g, 1, none⟩ = false ∧ g < W.heap.size

theorem Holds2.below {W w1 : World} {g h l : Nat} (H : Holds2 W g h l) (hb : Below W.heap.size W w1) : Holds2 w1 g h l := by
  obtain ⟨a, b, c, d, e⟩ := H
  exact ⟨(hb.cell e).trans a, (hb.cell e).trans b, (hb.frozen e).trans c, (hb.frozen e).trans d, Nat.lt_of_lt_of_le e hb.size⟩

theorem Holds2.alloc {W : World} {g h l : Nat} (H : Holds2 W g h l) (o : Obj) : Holds2 (W.alloc o) g h l := H.below ((Below.refl _ _).alloc (Nat.le_refl _) o)
theorem Holds2.drew {W : World} {g h l : Nat} (H : Holds2 W g h l) : Holds2 W.drew g h l := H
theorem Holds2.far {W : World} {g h l : Nat} (H : Holds2 W g h l) {p : Addr} (hp : g ≠ p.block) (u : Value) : Holds2 (W.setCell p u) g h l := by
  obtain ⟨a, b, c, d, e⟩ := H
  have k : (W.setCell p u).heap[g]? = W.heap[g]? := Below.heap_setCell W p u g hp
  exact ⟨(World.cell?_of_block (a := ⟨g, 0, none⟩) k).trans a, (World.cell?_of_block (a := ⟨g, 1, none⟩) k).trans b, (World.frozen?_of_block (a := ⟨g, 0, none⟩) k).trans c, (World.frozen?_of_block (a := ⟨g, 1, none⟩) k).trans d, by simpa [World.setCell] using e⟩
theorem Holds2.new2 {W : World} {g h l t : Nat} (hg : g = W.heap.size) : Holds2 (W.alloc (.cells #[.int .u64 (h : Int), .int .u64 (l : Int)] t)) g h l := by
  subst hg
  simp [Holds2, go_sem]
theorem Holds2.put {W : World} {g a b h l : Nat} (H : Holds2 W g a b) : Holds2 ((W.setCell ⟨g, 0, none⟩ (.int .u64 (h : Int))).setCell ⟨g, 1, none⟩ (.int .u64 (l : Int))) g h l := by
  obtain ⟨a, b, c, d, e⟩ := H
  simp [Holds2, go_sem, *]
end Go.Proofs.YtncpdoeikebomaaDoor

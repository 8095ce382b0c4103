/-
  Sums and differences of sizes of one exponent (together, apart of package dec), each as a contract of its call.
-/
import Derived.Test.YtkkddflclakphaaDoorC0
import Derived.Test.YtkkddflclakphaaDoorE6
namespace Go.Proofs.YtkkddflclakphaaDoor
open Go.RowKit

theorem nv2_lt {h l h' l' : Nat} (h1 : WW h l) (h2 : WW h' l') : nv2 h l h' l' < B128 * B128 := by
  have a := nv_lt h1
  have b := nv_lt h2
  unfold nv2
  have := Nat.mul_le_mul_right B128 (Nat.succ_le_of_lt a)
  rw [Nat.succ_mul] at this
  omega
theorem sum_two {ah al bh bl ch cl dh dl h l h' l' c : Nat} (s : Sum2F ah al bh bl ch cl dh dl h l h' l' c) (hq : nv2 ah al bh bl + nv2 ch cl dh dl < B128 * B128) : nv2 h l h' l' = nv2 ah al bh bl + nv2 ch cl dh dl := by
  obtain ⟨_, _, _, e⟩ := s
  unfold nv2 at hq ⊢
  exact over_none _ _ c _ e hq
theorem sub_two {ah al bh bl ch cl dh dl h l h' l' c : Nat} (s : Sub2F ah al bh bl ch cl dh dl h l h' l' c) (hq : nv2 ch cl dh dl ≤ nv2 ah al bh bl) : nv2 h l h' l' = nv2 ah al bh bl - nv2 ch cl dh dl := by
  obtain ⟨w1, w2, c1, e⟩ := s
  have lt := nv2_lt w1 w2
  unfold nv2 at hq lt ⊢
  generalize B128 * B128 = M at *
  generalize nv h l * B128 + nv h' l' = R at *
  generalize nv ah al * B128 + nv bh bl = A at *
  generalize nv ch cl * B128 + nv dh dl = B at *
  have : c = 0 ∨ c = 1 := by omega
  rcases this with rfl | rfl <;> omega

theorem HoldsW.putN {W : World} {g : Nat} {neg more : Bool} {h l h' l' : Nat} {e : Int} (H : HoldsW W g neg h l h' l' e more) (a b c d : Nat) :
    HoldsW ((((W.setCell ⟨g, 1, none⟩ (.int .u64 (a : Int))).setCell ⟨g, 2, none⟩ (.int .u64 (b : Int))).setCell ⟨g, 3, none⟩ (.int .u64 (c : Int))).setCell ⟨g, 4, none⟩ (.int .u64 (d : Int))) g neg a b c d e more := by
  obtain ⟨⟨a1, a2, a3, a4, a5, a6, a7⟩, ⟨a8, a9, a10, a11, a12, a13, a14⟩, s⟩ := H
  simp [HoldsW, go_sem, *]
theorem HoldsW.putM {W : World} {g : Nat} {neg more : Bool} {h l h' l' : Nat} {e : Int} (H : HoldsW W g neg h l h' l' e more) (m : Bool) : HoldsW (W.setCell ⟨g, 6, none⟩ (.bool m)) g neg h l h' l' e m := by
  obtain ⟨⟨a1, a2, a3, a4, a5, a6, a7⟩, ⟨a8, a9, a10, a11, a12, a13, a14⟩, s⟩ := H
  simp [HoldsW, go_sem, *]
theorem HoldsW.putAll {W : World} {g : Nat} {neg more : Bool} {h l h' l' : Nat} {e : Int} (H : HoldsW W g neg h l h' l' e more) (n : Bool) (a b c d : Nat) (x : Int) (m : Bool) :
    HoldsW (((((((W.setCell ⟨g, 0, none⟩ (.bool n)).setCell ⟨g, 1, none⟩ (.int .u64 (a : Int))).setCell ⟨g, 2, none⟩ (.int .u64 (b : Int))).setCell ⟨g, 3, none⟩ (.int .u64 (c : Int))).setCell ⟨g, 4, none⟩ (.int .u64 (d : Int))).setCell ⟨g, 5, none⟩ (.int .i64 x)).setCell ⟨g, 6, none⟩ (.bool m)) g n a b c d x m := by
  obtain ⟨⟨a1, a2, a3, a4, a5, a6, a7⟩, ⟨a8, a9, a10, a11, a12, a13, a14⟩, s⟩ := H
  simp [HoldsW, go_sem, *]
theorem Below.set7 {w W : World} (B : Below w.heap.size w W) (g : Nat) (hg : w.heap.size ≤ g) (v0 v1 v2 v3 v4 v5 v6 : Value) :
    Below w.heap.size w (((((((W.setCell ⟨g, 0, none⟩ v0).setCell ⟨g, 1, none⟩ v1).setCell ⟨g, 2, none⟩ v2).setCell ⟨g, 3, none⟩ v3).setCell ⟨g, 4, none⟩ v4).setCell ⟨g, 5, none⟩ v5).setCell ⟨g, 6, none⟩ v6) :=
  Below.setCell (Below.setCell (Below.setCell (Below.setCell (Below.setCell (Below.setCell (Below.setCell B hg _) hg _) hg _) hg _) hg _) hg _) hg _
theorem Below.set4 {w W : World} (B : Below w.heap.size w W) (g i j k l : Nat) (hg : w.heap.size ≤ g) (v0 v1 v2 v3 : Value) :
    Below w.heap.size w ((((W.setCell ⟨g, i, none⟩ v0).setCell ⟨g, j, none⟩ v1).setCell ⟨g, k, none⟩ v2).setCell ⟨g, l, none⟩ v3) :=
  Below.setCell (Below.setCell (Below.setCell (Below.setCell B hg _) hg _) hg _) hg _
theorem HoldsW.far4 {W : World} {q : Nat} {neg more : Bool} {h l h' l' : Nat} {e : Int} (H : HoldsW W q neg h l h' l' e more) (g i j k m : Nat) (hg : q ≠ g) (v0 v1 v2 v3 : Value) :
    HoldsW ((((W.setCell ⟨g, i, none⟩ v0).setCell ⟨g, j, none⟩ v1).setCell ⟨g, k, none⟩ v2).setCell ⟨g, m, none⟩ v3) q neg h l h' l' e more :=
  HoldsW.far (HoldsW.far (HoldsW.far (HoldsW.far H hg _) hg _) hg _) hg _

end Go.Proofs.YtkkddflclakphaaDoor

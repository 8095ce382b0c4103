/-
  A sum before it is fitted (sum of package dec), as a contract of its call.
-/
import Derived.Test.YtkkddflclakphaaDoorEs
namespace Go.Proofs.YtkkddflclakphaaDoor
open Go.RowKit

theorem HoldsD.drewv {W : World} {g : Nat} {neg : Bool} {h l : Nat} {e : Int} (H : HoldsD W g neg h l e) : HoldsD W.drew g neg h l e := H
theorem HoldsD.putAll {W : World} {g : Nat} {neg : Bool} {h l : Nat} {e : Int} (H : HoldsD W g neg h l e) (n : Bool) (a b : Nat) (x : Int) :
    HoldsD ((((W.setCell ⟨g, 0, none⟩ (.bool n)).setCell ⟨g, 1, none⟩ (.int .u64 (a : Int))).setCell ⟨g, 2, none⟩ (.int .u64 (b : Int))).setCell ⟨g, 3, none⟩ (.int .i64 x)) g n a b x := by
  obtain ⟨⟨a1, a2, a3, a4⟩, ⟨a5, a6, a7, a8⟩, s⟩ := H
  simp [HoldsD, go_sem, *]
theorem HoldsD.far4 {W : World} {q : Nat} {neg : Bool} {h l : Nat} {e : Int} (H : HoldsD W q neg h l e) (g i j k m : Nat) (hg : q ≠ g) (v0 v1 v2 v3 : Value) :
    HoldsD ((((W.setCell ⟨g, i, none⟩ v0).setCell ⟨g, j, none⟩ v1).setCell ⟨g, k, none⟩ v2).setCell ⟨g, m, none⟩ v3) q neg h l e :=
  HoldsD.far (HoldsD.far (HoldsD.far (HoldsD.far H hg _) hg _) hg _) hg _
theorem HoldsD.far2 {W : World} {q : Nat} {neg : Bool} {h l : Nat} {e : Int} (H : HoldsD W q neg h l e) (g i j : Nat) (hg : q ≠ g) (v0 v1 : Value) :
    HoldsD ((W.setCell ⟨g, i, none⟩ v0).setCell ⟨g, j, none⟩ v1) q neg h l e := HoldsD.far (HoldsD.far H hg _) hg _
theorem HoldsW.far2 {W : World} {q : Nat} {neg more : Bool} {h l h' l' : Nat} {e : Int} (H : HoldsW W q neg h l h' l' e more) (g i j : Nat) (hg : q ≠ g) (v0 v1 : Value) :
    HoldsW ((W.setCell ⟨g, i, none⟩ v0).setCell ⟨g, j, none⟩ v1) q neg h l h' l' e more := HoldsW.far (HoldsW.far H hg _) hg _
theorem HoldsW.putXM {W : World} {g : Nat} {neg more : Bool} {h l h' l' : Nat} {e : Int} (H : HoldsW W g neg h l h' l' e more) (x : Int) (m : Bool) : HoldsW ((W.setCell ⟨g, 5, none⟩ (.int .i64 x)).setCell ⟨g, 6, none⟩ (.bool m)) g neg h l h' l' x m := by
  obtain ⟨⟨a1, a2, a3, a4, a5, a6, a7⟩, ⟨a8, a9, a10, a11, a12, a13, a14⟩, s⟩ := H
  simp [HoldsW, go_sem, *]
theorem HoldsRm.put {W : World} {g d : Nat} {m : Bool} (H : HoldsRm W g d m) (d' : Nat) (m' : Bool) : HoldsRm ((W.setCell ⟨g, 0, none⟩ (.int .u64 (d' : Int))).setCell ⟨g, 1, none⟩ (.bool m')) g d' m' := by
  obtain ⟨a1, a2, a3, a4, a5⟩ := H
  simp [HoldsRm, go_sem, *]
theorem HoldsRm.far4 {W : World} {q d : Nat} {mm : Bool} (H : HoldsRm W q d mm) (g i j k m : Nat) (hg : q ≠ g) (v0 v1 v2 v3 : Value) :
    HoldsRm ((((W.setCell ⟨g, i, none⟩ v0).setCell ⟨g, j, none⟩ v1).setCell ⟨g, k, none⟩ v2).setCell ⟨g, m, none⟩ v3) q d mm :=
  HoldsRm.far (HoldsRm.far (HoldsRm.far (HoldsRm.far H hg _) hg _) hg _) hg _
theorem Below.set2 {w W : World} (B : Below w.heap.size w W) (g i j : Nat) (hg : w.heap.size ≤ g) (v0 v1 : Value) : Below w.heap.size w ((W.setCell ⟨g, i, none⟩ v0).setCell ⟨g, j, none⟩ v1) := Below.setCell (Below.setCell B hg _) hg _

theorem drop_nothing {N n N' d : Nat} {m : Bool} (h : DropF N n false N' d m) : (!(decide (d = 0) && !m)) = decide (N % 10 ^ n ≠ 0) := by
  obtain ⟨_, hd, hm⟩ := dropF_eq h
  unfold dropD at hd
  unfold dropM at hm
  rcases Nat.eq_zero_or_pos n with z | z
  · rw [if_pos z] at hd
    rw [hd, hm, z]
    simp [Nat.mod_one]
  · rw [if_neg (by omega)] at hd
    have e : N % 10 ^ n = N % 10 ^ (n - 1) + 10 ^ (n - 1) * d := by
      rw [hd]
      have : n = (n - 1) + 1 := by omega
      rw [show 10 ^ n = 10 ^ (n - 1) * 10 by rw [← Nat.pow_succ]; congr 1, Nat.mod_mul]
    rw [hm, e]
    have hp := p10 (n - 1)
    generalize N % 10 ^ (n - 1) = t at *
    generalize 10 ^ (n - 1) = P at *
    by_cases d0 : d = 0
    · subst d0
      simp
    · have : 0 < P * d := Nat.mul_pos hp (Nat.pos_of_ne_zero d0)
      have a : t + P * d ≠ 0 := by omega
      rw [decide_eq_true a, decide_eq_false d0]
      rfl
theorem small_drop {c r : Nat} (h : c < 10 ^ 34) : c / 10 ^ min r 78 = c / 10 ^ r ∧ c % 10 ^ min r 78 = c % 10 ^ r := by
  rcases Nat.le_total r 78 with z | z
  · rw [Nat.min_eq_left z]; exact ⟨rfl, rfl⟩
  · have a : c < 10 ^ 78 := Nat.lt_of_lt_of_le h (p10_mono (by decide))
    have b : c < 10 ^ r := Nat.lt_of_lt_of_le a (p10_mono z)
    rw [Nat.min_eq_right z, Nat.div_eq_of_lt a, Nat.div_eq_of_lt b, Nat.mod_eq_of_lt a, Nat.mod_eq_of_lt b]
    exact ⟨rfl, rfl⟩

def SumIs (na : Bool) (ca : Nat) (ea : Int) (nb : Bool) (cb : Nat) (eb : Int) (neg : Bool) (h l h' l' : Nat) (x : Int) (more : Bool) : Prop := WW h l ∧ WW h' l' ∧ sumF na ca ea nb cb eb = (neg, nv2 h l h' l', x, more)

end Go.Proofs.YtkkddflclakphaaDoor

/-
  The document's numbers, with their bounds, each call as a contract; for the statement WideSums.
-/
import Derived.Test.YtcimickajocdnaaDoorP
namespace Go.Proofs.YtcimickajocdnaaDoor
open Go.RowKit

/-- The slice v holds the digits of m, which is not too great. -/
def Num (W : World) (v : Value) (m : Nat) : Prop := Row W v (Dg.dg m) ∧ m < 10 ^ 120
def RetNum (m : Nat) (w : World) (e : Ending) (w' : World) : Prop := ∃ A c, e = .returned (.slice A (Dg.dg m).length c) ∧ Num w' (.slice A (Dg.dg m).length c) m ∧ Below w.heap.size w w'

theorem Num.below {W w1 : World} {v : Value} {m : Nat} (h : Num W v m) (hb : Below W.heap.size W w1) : Num w1 v m := ⟨h.1.below hb, h.2⟩
theorem Num.drew {W : World} {v : Value} {m : Nat} (h : Num W v m) : Num W.drew v m := h
theorem Num.alloc {W : World} {v : Value} {m : Nat} (h : Num W v m) (o : Obj) : Num (W.alloc o) v m := ⟨h.1.alloc o, h.2⟩
theorem retNum {m : Nat} {w : World} {e : Ending} {w' : World} (h : RetRow (Dg.dg m) w e w') (hm : m < 10 ^ 120) : RetNum m w e w' := by
  obtain ⟨v, he, hr, hb⟩ := h
  obtain ⟨A, c, rfl⟩ := slice_of hr
  exact ⟨A, c, he, ⟨hr, hm⟩, hb⟩

theorem nN (h l : Nat) (a : WW h l) (w : World) : Calls Tryd.prog 16 #[U h l] w (RetNum (nv h l) w) :=
  (N_any h l a w).mono fun _ _ r => retNum r (Nat.lt_of_lt_of_le (nv_lt a) (by decide +kernel))
theorem nv2_lt {h l h' l' : Nat} (a : WW h l) (b : WW h' l') : nv2 h l h' l' < B128 * B128 := by
  have x := nv_lt a
  have y := nv_lt b
  have z := Nat.mul_le_mul_right B128 (Nat.succ_le_of_lt x)
  rw [Nat.succ_mul] at z
  unfold nv2
  omega
theorem nTwo (h l h' l' : Nat) (a : WW h l) (b : WW h' l') (w : World) : Calls Tryd.prog 18 #[U h l, U h' l'] w (RetNum (nv2 h l h' l') w) :=
  (Two_any h l h' l' a b w).mono fun _ _ r => retNum r (Nat.lt_of_lt_of_le (nv2_lt a b) (by decide +kernel))
theorem nOver128 (c : Nat) (hc : c ≤ 1) (w : World) : Calls Tryd.prog 22 #[.int .u64 (c : Int), .int .i64 128] w (RetNum (c * B128) w) := by
  have C := over_any c 128 (by omega) (by omega) w
  refine C.mono fun _ _ r => retNum r ?_
  exact Nat.lt_of_le_of_lt (Nat.mul_le_mul_right B128 hc) (by decide +kernel)
theorem nOver256 (c : Nat) (hc : c ≤ 1) (w : World) : Calls Tryd.prog 22 #[.int .u64 (c : Int), .int .i64 256] w (RetNum (c * (B128 * B128)) w) := by
  have C := over_any c 256 (by omega) (by omega) w
  rw [show c * 2 ^ 256 = c * (B128 * B128) from congrArg (c * ·) (by decide +kernel)] at C
  refine C.mono fun _ _ r => retNum r ?_
  exact Nat.lt_of_le_of_lt (Nat.mul_le_mul_right (B128 * B128) hc) (by decide +kernel)

def NumS (W : World) (v : Value) (m : Nat) : Prop := Row W v (Dg.dg m) ∧ m < 10 ^ 121
theorem NumS.below {W w1 : World} {v : Value} {m : Nat} (h : NumS W v m) (hb : Below W.heap.size W w1) : NumS w1 v m := ⟨h.1.below hb, h.2⟩
def RetNumS (m : Nat) (w : World) (e : Ending) (w' : World) : Prop := ∃ A c, e = .returned (.slice A (Dg.dg m).length c) ∧ NumS w' (.slice A (Dg.dg m).length c) m ∧ Below w.heap.size w w'
theorem nAdd (v1 v2 : Value) {m n : Nat} (w : World) (h1 : Num w v1 m) (h2 : Num w v2 n) : Calls Tryd.prog 21 #[v1, v2] w (RetNumS (m + n) w) := by
  have C := radd_any v1 v2 (Dg.dg m) (Dg.dg n) (Nat.le_trans (Dg.dg_length_le h1.2) (by decide)) (Nat.le_trans (Dg.dg_length_le h2.2) (by decide)) (Dg.dg_lt m) (Dg.dg_lt n) w h1.1 h2.1
  rw [Dg.val_dg, Dg.val_dg] at C
  refine C.mono fun _ _ r => ?_
  obtain ⟨v, he, hr, hb⟩ := r
  obtain ⟨A, c, rfl⟩ := slice_of hr
  refine ⟨A, c, he, ⟨hr, ?_⟩, hb⟩
  have a1 := h1.2
  have a2 := h2.2
  rw [Nat.pow_succ]
  generalize 10 ^ 120 = z at *
  omega
theorem nSame (v1 v2 : Value) {m n : Nat} (w : World) (h1 : NumS w v1 m) (h2 : NumS w v2 n) (e : m = n) : Calls Tryd.prog 20 #[v1, v2] w (RetB true w) :=
  same_any v1 v2 m n (Nat.le_trans (Dg.dg_length_le h1.2) (by decide)) (Nat.le_trans (Dg.dg_length_le h2.2) (by decide)) w h1.1 h2.1 e
theorem nCmp (v1 v2 : Value) {m n : Nat} (w : World) (h1 : Num w v1 m) (h2 : Num w v2 n) : Calls Tryd.prog 15 #[v1, v2] w (RetI (cmpN m n) w) :=
  rcmp_any v1 v2 m n (Nat.le_trans (Dg.dg_length_le h1.2) (by decide)) (Nat.le_trans (Dg.dg_length_le h2.2) (by decide)) w h1.1 h2.1
theorem dg_len_zero (m : Nat) : (((Dg.dg m).length : Int) == 0) = decide (m = 0) := by
  by_cases h : m = 0
  · subst h; simp [Dg.dg_zero]
  · rw [Dg.dg_pos h]; simp [h]; omega
end Go.Proofs.YtcimickajocdnaaDoor

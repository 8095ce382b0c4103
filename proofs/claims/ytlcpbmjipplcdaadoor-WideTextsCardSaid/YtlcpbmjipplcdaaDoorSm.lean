/-
  Whether two of the document's numbers are the same, and the number of one word, each as a contract of its call; cells that stay.
-/
import Derived.Test.YtlcpbmjipplcdaaDoorRd
import Derived.Test.YtlcpbmjipplcdaaDoorR3
import Derived.Deep.DeepCutAuto
namespace Go.Proofs.YtlcpbmjipplcdaaDoor
open Go.RowKit

theorem keepCell {W w' : World} {g o : Nat} {v : Value} (h : W.cell? ⟨g, o, none⟩ = some v) (hb : Below W.heap.size W w') : w'.cell? ⟨g, o, none⟩ = some v := by
  refine (hb.cell (p := ⟨g, o, none⟩) ?_).trans h
  rcases Nat.lt_or_ge g W.heap.size with x | x
  · exact x
  · rw [World.cell?, Array.getElem?_eq_none x] at h; cases h
/-- Both cells of a block. -/
def Two2 (W : World) (g h l : Nat) : Prop := W.cell? ⟨g, 0, none⟩ = some (.int .u64 (h : Int)) ∧ W.cell? ⟨g, 1, none⟩ = some (.int .u64 (l : Int))
theorem ballc {w W : World} (h : Below w.heap.size w W) (o : Obj) : Below w.heap.size w (W.alloc o) := h.alloc h.size o

theorem words1 (g x : Nat) (hx : x < 18446744073709551616) (w : World) (hc : w.cell? ⟨g, 0, none⟩ = some (.int .u64 (x : Int))) : Calls Tryd.prog 19 #[.slice (some ⟨g, 0, none⟩) 1 1] w (RetRow (Dg.dg x) w) := by
  have C := words_any g [x] 1 (Nat.le_of_ble_eq_true rfl) (by intro y hy; simp at hy; subst hy; exact hx) w (by
    rcases Nat.lt_or_ge g w.heap.size with y | y
    · exact y
    · rw [World.cell?, Array.getElem?_eq_none y] at hc; cases hc) (by
    intro k hk
    have : k = 0 := by simp at hk; omega
    subst this
    exact hc)
  rw [wv1] at C
  exact C

theorem len40 {h l : Nat} (a : WW h l) : (Dg.dg (nv h l)).length ≤ 40 := by
  have := nv_lt a
  exact Dg.dg_length_le (Nat.lt_of_lt_of_le this (by decide +kernel))
theorem len80 {h l h' l' : Nat} (a : WW h l) (b : WW h' l') : (Dg.dg (nv2 h l h' l')).length ≤ 80 := by
  refine Dg.dg_length_le (Nat.lt_of_lt_of_le (m := B128 * B128) ?_ (by decide +kernel))
  have x := nv_lt a
  have y := nv_lt b
  have z := Nat.mul_le_mul_right B128 (Nat.succ_le_of_lt x)
  rw [Nat.succ_mul] at z
  unfold nv2
  omega

set_option maxHeartbeats 1000000 in
theorem same_yes (v1 v2 : Value) (m n : Nat) (la : (Dg.dg m).length ≤ 20000) (lb : (Dg.dg n).length ≤ 20000) (e : m = n) (w : World) (h1 : Row w v1 (Dg.dg m)) (h2 : Row w v2 (Dg.dg n)) :
    Calls Tryd.prog 17 #[v1, v2] w (RetB true w) := by
  subst e
  have C := rcmp_any v1 v2 m m la lb w h1 h2
  rw [cmpN_eq] at C
  have HC := Lib.hid C
  clear C h1 h2 la lb
  go_enter Tryd.func17, Tryd.ntmps17
  go_wp2_with fail
  refine (HC.out).mono ?_
  rintro e w1 ⟨rfl, hb1⟩
  go_wp2
  go_ret
  exact ⟨rfl, hb1⟩
end Go.Proofs.YtlcpbmjipplcdaaDoor

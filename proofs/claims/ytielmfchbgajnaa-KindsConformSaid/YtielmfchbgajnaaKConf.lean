/-
  The law's Conforms walked (layer 13): it is what the program says, of types that may be.
-/
import Derived.Test.YtielmfchbgajnaaKAt
namespace Go.Proofs.Ytielmfchbgajnaa
open Go.RowKit Go.Shelf

theorem not_sb {S : Nat → Prop} {w : World} {g : Nat} (h : w.heap.size ≤ g) : ¬ Sb S w g := fun s => Nat.not_lt.2 h s.2
def PairFor (x y : T) : Prop := ∀ (S : Nat → Prop) (w : World) (k : Int) (a : Option Addr) (n c : Nat) (b : Option Addr) (m d : Nat) (k' : Int) (a' : Option Addr) (n' c' : Nat) (b' : Option Addr) (m' d' : Nat), Lies S w (TV k a n c b m d) x → Lies S w (TV k' a' n' c' b' m' d') y →
  Calls Try.prog 23 #[TV k a n c b m d, TV k' a' n' c' b' m' d'] w (Ret (.bool (vd x y).there) w) ∧ Calls Try.prog 23 #[TV k' a' n' c' b' m' d', TV k a n c b m d] w (Ret (.bool (vd y x).there) w)
section
variable {w w' : World} {g0 g1 g2 g3 o0 o1 o2 o3 o4 o5 o6 o7 o8 o9 o10 o11 : Nat} {v0 v1 v2 v3 v4 v5 v6 v7 v8 v9 v10 v11 : Value}
theorem kc12 (h : w.cell? ⟨g0, o0, none⟩ = some v0 ∧ w.cell? ⟨g0, o1, none⟩ = some v1 ∧ w.cell? ⟨g0, o2, none⟩ = some v2 ∧ w.cell? ⟨g1, o3, none⟩ = some v3 ∧ w.cell? ⟨g1, o4, none⟩ = some v4 ∧ w.cell? ⟨g1, o5, none⟩ = some v5 ∧ w.cell? ⟨g2, o6, none⟩ = some v6 ∧ w.cell? ⟨g2, o7, none⟩ = some v7 ∧ w.cell? ⟨g2, o8, none⟩ = some v8 ∧ w.cell? ⟨g3, o9, none⟩ = some v9 ∧ w.cell? ⟨g3, o10, none⟩ = some v10 ∧ w.cell? ⟨g3, o11, none⟩ = some v11) (hb : Below w.heap.size w w') : w'.cell? ⟨g0, o0, none⟩ = some v0 ∧ w'.cell? ⟨g0, o1, none⟩ = some v1 ∧ w'.cell? ⟨g0, o2, none⟩ = some v2 ∧ w'.cell? ⟨g1, o3, none⟩ = some v3 ∧ w'.cell? ⟨g1, o4, none⟩ = some v4 ∧ w'.cell? ⟨g1, o5, none⟩ = some v5 ∧ w'.cell? ⟨g2, o6, none⟩ = some v6 ∧ w'.cell? ⟨g2, o7, none⟩ = some v7 ∧ w'.cell? ⟨g2, o8, none⟩ = some v8 ∧ w'.cell? ⟨g3, o9, none⟩ = some v9 ∧ w'.cell? ⟨g3, o10, none⟩ = some v10 ∧ w'.cell? ⟨g3, o11, none⟩ = some v11 :=
  ⟨cell_below (h.1) hb, cell_below (h.2.1) hb, cell_below (h.2.2.1) hb, cell_below (h.2.2.2.1) hb, cell_below (h.2.2.2.2.1) hb, cell_below (h.2.2.2.2.2.1) hb, cell_below (h.2.2.2.2.2.2.1) hb, cell_below (h.2.2.2.2.2.2.2.1) hb, cell_below (h.2.2.2.2.2.2.2.2.1) hb, cell_below (h.2.2.2.2.2.2.2.2.2.1) hb, cell_below (h.2.2.2.2.2.2.2.2.2.2.1) hb, cell_below (h.2.2.2.2.2.2.2.2.2.2.2) hb⟩
theorem kc12d (h : w.cell? ⟨g0, o0, none⟩ = some v0 ∧ w.cell? ⟨g0, o1, none⟩ = some v1 ∧ w.cell? ⟨g0, o2, none⟩ = some v2 ∧ w.cell? ⟨g1, o3, none⟩ = some v3 ∧ w.cell? ⟨g1, o4, none⟩ = some v4 ∧ w.cell? ⟨g1, o5, none⟩ = some v5 ∧ w.cell? ⟨g2, o6, none⟩ = some v6 ∧ w.cell? ⟨g2, o7, none⟩ = some v7 ∧ w.cell? ⟨g2, o8, none⟩ = some v8 ∧ w.cell? ⟨g3, o9, none⟩ = some v9 ∧ w.cell? ⟨g3, o10, none⟩ = some v10 ∧ w.cell? ⟨g3, o11, none⟩ = some v11) : w.drew.cell? ⟨g0, o0, none⟩ = some v0 ∧ w.drew.cell? ⟨g0, o1, none⟩ = some v1 ∧ w.drew.cell? ⟨g0, o2, none⟩ = some v2 ∧ w.drew.cell? ⟨g1, o3, none⟩ = some v3 ∧ w.drew.cell? ⟨g1, o4, none⟩ = some v4 ∧ w.drew.cell? ⟨g1, o5, none⟩ = some v5 ∧ w.drew.cell? ⟨g2, o6, none⟩ = some v6 ∧ w.drew.cell? ⟨g2, o7, none⟩ = some v7 ∧ w.drew.cell? ⟨g2, o8, none⟩ = some v8 ∧ w.drew.cell? ⟨g3, o9, none⟩ = some v9 ∧ w.drew.cell? ⟨g3, o10, none⟩ = some v10 ∧ w.drew.cell? ⟨g3, o11, none⟩ = some v11 := h
theorem kc12u (h : w.drew.cell? ⟨g0, o0, none⟩ = some v0 ∧ w.drew.cell? ⟨g0, o1, none⟩ = some v1 ∧ w.drew.cell? ⟨g0, o2, none⟩ = some v2 ∧ w.drew.cell? ⟨g1, o3, none⟩ = some v3 ∧ w.drew.cell? ⟨g1, o4, none⟩ = some v4 ∧ w.drew.cell? ⟨g1, o5, none⟩ = some v5 ∧ w.drew.cell? ⟨g2, o6, none⟩ = some v6 ∧ w.drew.cell? ⟨g2, o7, none⟩ = some v7 ∧ w.drew.cell? ⟨g2, o8, none⟩ = some v8 ∧ w.drew.cell? ⟨g3, o9, none⟩ = some v9 ∧ w.drew.cell? ⟨g3, o10, none⟩ = some v10 ∧ w.drew.cell? ⟨g3, o11, none⟩ = some v11) : w.cell? ⟨g0, o0, none⟩ = some v0 ∧ w.cell? ⟨g0, o1, none⟩ = some v1 ∧ w.cell? ⟨g0, o2, none⟩ = some v2 ∧ w.cell? ⟨g1, o3, none⟩ = some v3 ∧ w.cell? ⟨g1, o4, none⟩ = some v4 ∧ w.cell? ⟨g1, o5, none⟩ = some v5 ∧ w.cell? ⟨g2, o6, none⟩ = some v6 ∧ w.cell? ⟨g2, o7, none⟩ = some v7 ∧ w.cell? ⟨g2, o8, none⟩ = some v8 ∧ w.cell? ⟨g3, o9, none⟩ = some v9 ∧ w.cell? ⟨g3, o10, none⟩ = some v10 ∧ w.cell? ⟨g3, o11, none⟩ = some v11 := h
theorem kc12a (h : w.cell? ⟨g0, o0, none⟩ = some v0 ∧ w.cell? ⟨g0, o1, none⟩ = some v1 ∧ w.cell? ⟨g0, o2, none⟩ = some v2 ∧ w.cell? ⟨g1, o3, none⟩ = some v3 ∧ w.cell? ⟨g1, o4, none⟩ = some v4 ∧ w.cell? ⟨g1, o5, none⟩ = some v5 ∧ w.cell? ⟨g2, o6, none⟩ = some v6 ∧ w.cell? ⟨g2, o7, none⟩ = some v7 ∧ w.cell? ⟨g2, o8, none⟩ = some v8 ∧ w.cell? ⟨g3, o9, none⟩ = some v9 ∧ w.cell? ⟨g3, o10, none⟩ = some v10 ∧ w.cell? ⟨g3, o11, none⟩ = some v11) (o : Obj) : (w.alloc o).cell? ⟨g0, o0, none⟩ = some v0 ∧ (w.alloc o).cell? ⟨g0, o1, none⟩ = some v1 ∧ (w.alloc o).cell? ⟨g0, o2, none⟩ = some v2 ∧ (w.alloc o).cell? ⟨g1, o3, none⟩ = some v3 ∧ (w.alloc o).cell? ⟨g1, o4, none⟩ = some v4 ∧ (w.alloc o).cell? ⟨g1, o5, none⟩ = some v5 ∧ (w.alloc o).cell? ⟨g2, o6, none⟩ = some v6 ∧ (w.alloc o).cell? ⟨g2, o7, none⟩ = some v7 ∧ (w.alloc o).cell? ⟨g2, o8, none⟩ = some v8 ∧ (w.alloc o).cell? ⟨g3, o9, none⟩ = some v9 ∧ (w.alloc o).cell? ⟨g3, o10, none⟩ = some v10 ∧ (w.alloc o).cell? ⟨g3, o11, none⟩ = some v11 := kc12 h ((Below.refl _ _).alloc (Nat.le_refl _) o)
theorem kc12n {x : Obj} (h : (w.alloc x).cell? ⟨g0, o0, none⟩ = some v0 ∧ (w.alloc x).cell? ⟨g0, o1, none⟩ = some v1 ∧ (w.alloc x).cell? ⟨g0, o2, none⟩ = some v2 ∧ (w.alloc x).cell? ⟨g1, o3, none⟩ = some v3 ∧ (w.alloc x).cell? ⟨g1, o4, none⟩ = some v4 ∧ (w.alloc x).cell? ⟨g1, o5, none⟩ = some v5 ∧ (w.alloc x).cell? ⟨g2, o6, none⟩ = some v6 ∧ (w.alloc x).cell? ⟨g2, o7, none⟩ = some v7 ∧ (w.alloc x).cell? ⟨g2, o8, none⟩ = some v8 ∧ (w.alloc x).cell? ⟨g3, o9, none⟩ = some v9 ∧ (w.alloc x).cell? ⟨g3, o10, none⟩ = some v10 ∧ (w.alloc x).cell? ⟨g3, o11, none⟩ = some v11) (y : Obj) (n0 : g0 < w.heap.size) (n1 : g1 < w.heap.size) (n2 : g2 < w.heap.size) (n3 : g3 < w.heap.size) : (w.alloc y).cell? ⟨g0, o0, none⟩ = some v0 ∧ (w.alloc y).cell? ⟨g0, o1, none⟩ = some v1 ∧ (w.alloc y).cell? ⟨g0, o2, none⟩ = some v2 ∧ (w.alloc y).cell? ⟨g1, o3, none⟩ = some v3 ∧ (w.alloc y).cell? ⟨g1, o4, none⟩ = some v4 ∧ (w.alloc y).cell? ⟨g1, o5, none⟩ = some v5 ∧ (w.alloc y).cell? ⟨g2, o6, none⟩ = some v6 ∧ (w.alloc y).cell? ⟨g2, o7, none⟩ = some v7 ∧ (w.alloc y).cell? ⟨g2, o8, none⟩ = some v8 ∧ (w.alloc y).cell? ⟨g3, o9, none⟩ = some v9 ∧ (w.alloc y).cell? ⟨g3, o10, none⟩ = some v10 ∧ (w.alloc y).cell? ⟨g3, o11, none⟩ = some v11 :=
  ⟨(cellN n0 y x).trans (h.1), (cellN n0 y x).trans (h.2.1), (cellN n0 y x).trans (h.2.2.1), (cellN n1 y x).trans (h.2.2.2.1), (cellN n1 y x).trans (h.2.2.2.2.1), (cellN n1 y x).trans (h.2.2.2.2.2.1), (cellN n2 y x).trans (h.2.2.2.2.2.2.1), (cellN n2 y x).trans (h.2.2.2.2.2.2.2.1), (cellN n2 y x).trans (h.2.2.2.2.2.2.2.2.1), (cellN n3 y x).trans (h.2.2.2.2.2.2.2.2.2.1), (cellN n3 y x).trans (h.2.2.2.2.2.2.2.2.2.2.1), (cellN n3 y x).trans (h.2.2.2.2.2.2.2.2.2.2.2)⟩
theorem kc12s (h : w.cell? ⟨g0, o0, none⟩ = some v0 ∧ w.cell? ⟨g0, o1, none⟩ = some v1 ∧ w.cell? ⟨g0, o2, none⟩ = some v2 ∧ w.cell? ⟨g1, o3, none⟩ = some v3 ∧ w.cell? ⟨g1, o4, none⟩ = some v4 ∧ w.cell? ⟨g1, o5, none⟩ = some v5 ∧ w.cell? ⟨g2, o6, none⟩ = some v6 ∧ w.cell? ⟨g2, o7, none⟩ = some v7 ∧ w.cell? ⟨g2, o8, none⟩ = some v8 ∧ w.cell? ⟨g3, o9, none⟩ = some v9 ∧ w.cell? ⟨g3, o10, none⟩ = some v10 ∧ w.cell? ⟨g3, o11, none⟩ = some v11) {g o : Nat} (n0 : g0 ≠ g) (n1 : g1 ≠ g) (n2 : g2 ≠ g) (n3 : g3 ≠ g) (v : Value) : (w.setCell ⟨g, o, none⟩ v).cell? ⟨g0, o0, none⟩ = some v0 ∧ (w.setCell ⟨g, o, none⟩ v).cell? ⟨g0, o1, none⟩ = some v1 ∧ (w.setCell ⟨g, o, none⟩ v).cell? ⟨g0, o2, none⟩ = some v2 ∧ (w.setCell ⟨g, o, none⟩ v).cell? ⟨g1, o3, none⟩ = some v3 ∧ (w.setCell ⟨g, o, none⟩ v).cell? ⟨g1, o4, none⟩ = some v4 ∧ (w.setCell ⟨g, o, none⟩ v).cell? ⟨g1, o5, none⟩ = some v5 ∧ (w.setCell ⟨g, o, none⟩ v).cell? ⟨g2, o6, none⟩ = some v6 ∧ (w.setCell ⟨g, o, none⟩ v).cell? ⟨g2, o7, none⟩ = some v7 ∧ (w.setCell ⟨g, o, none⟩ v).cell? ⟨g2, o8, none⟩ = some v8 ∧ (w.setCell ⟨g, o, none⟩ v).cell? ⟨g3, o9, none⟩ = some v9 ∧ (w.setCell ⟨g, o, none⟩ v).cell? ⟨g3, o10, none⟩ = some v10 ∧ (w.setCell ⟨g, o, none⟩ v).cell? ⟨g3, o11, none⟩ = some v11 :=
  ⟨(cellS n0 o v).trans (h.1), (cellS n0 o v).trans (h.2.1), (cellS n0 o v).trans (h.2.2.1), (cellS n1 o v).trans (h.2.2.2.1), (cellS n1 o v).trans (h.2.2.2.2.1), (cellS n1 o v).trans (h.2.2.2.2.2.1), (cellS n2 o v).trans (h.2.2.2.2.2.2.1), (cellS n2 o v).trans (h.2.2.2.2.2.2.2.1), (cellS n2 o v).trans (h.2.2.2.2.2.2.2.2.1), (cellS n3 o v).trans (h.2.2.2.2.2.2.2.2.2.1), (cellS n3 o v).trans (h.2.2.2.2.2.2.2.2.2.2.1), (cellS n3 o v).trans (h.2.2.2.2.2.2.2.2.2.2.2)⟩
end
set_option linter.unusedSimpArgs false in
set_option linter.unusedVariables false in
set_option maxRecDepth 100000 in
set_option maxHeartbeats 2000000 in
theorem conf_null (w : World) (a : Option Addr) (n c : Nat) (b : Option Addr) (m d : Nat) (k' : Int) (a' : Option Addr) (n' c' : Nat) (b' : Option Addr) (m' d' : Nat) : Calls Try.prog 23 #[TV 1 a n c b m d, TV k' a' n' c' b' m' d'] w (Ret (.bool true) w) := by
  go_enter Try.func23, Try.ntmps23
  go_wp2
  go_ret
  exact ⟨rfl, ((Below.refl _ _).alloc (Nat.le_refl _) _).alloc (by simp only [World.size_alloc]; omega) _⟩
set_option linter.unusedSimpArgs false in
set_option linter.unusedVariables false in
set_option maxRecDepth 100000 in
set_option maxHeartbeats 2000000 in
theorem conf_any (w : World) (k : Int) (a : Option Addr) (n c : Nat) (b : Option Addr) (m d : Nat) (a' : Option Addr) (n' c' : Nat) (b' : Option Addr) (m' d' : Nat) (hk : k ≠ 1) : Calls Try.prog 23 #[TV k a n c b m d, TV 14 a' n' c' b' m' d'] w (Ret (.bool true) w) := by
  have j1 : (k == 1) = false := by simp [hk]
  go_enter Try.func23, Try.ntmps23
  go_wp2
  go_ret
  exact ⟨rfl, ((Below.refl _ _).alloc (Nat.le_refl _) _).alloc (by simp only [World.size_alloc]; omega) _⟩
set_option linter.unusedSimpArgs false in
set_option linter.unusedVariables false in
set_option maxRecDepth 100000 in
set_option maxHeartbeats 2000000 in
theorem conf_differ (w : World) (k : Int) (a : Option Addr) (n c : Nat) (b : Option Addr) (m d : Nat) (k' : Int) (a' : Option Addr) (n' c' : Nat) (b' : Option Addr) (m' d' : Nat) (hk : k ≠ 1) (hk' : k' ≠ 14) (hd : k ≠ k') : Calls Try.prog 23 #[TV k a n c b m d, TV k' a' n' c' b' m' d'] w (Ret (.bool false) w) := by
  have j1 : (k == 1) = false := by simp [hk]
  have j2 : (k' == 14) = false := by simp [hk']
  have j3 : (k == k') = false := by simp [hd]
  have j4 : (k != k') = true := by simp [hd]
  go_enter Try.func23, Try.ntmps23
  go_wp2
  go_ret
  exact ⟨rfl, ((Below.refl _ _).alloc (Nat.le_refl _) _).alloc (by simp only [World.size_alloc]; omega) _⟩
set_option linter.unusedSimpArgs false in
set_option linter.unusedVariables false in
set_option maxRecDepth 100000 in
set_option maxHeartbeats 2000000 in
theorem conf_len (w : World) (k : Int) (a : Option Addr) (n c : Nat) (b : Option Addr) (m d : Nat) (a' : Option Addr) (n' c' : Nat) (b' : Option Addr) (m' d' : Nat) (hk : k ≠ 1) (hk' : k ≠ 14) (hd : k ≠ 11) (hn : n ≠ n') : Calls Try.prog 23 #[TV k a n c b m d, TV k a' n' c' b' m' d'] w (Ret (.bool false) w) := by
  have j1 : (k == 1) = false := by simp [hk]
  have j2 : (k == 14) = false := by simp [hk']
  have j3 : (k == 11) = false := by simp [hd]
  have j4 : ((n : Int) == (n' : Int)) = false := by simp; omega
  have j5 : ((n : Int) != (n' : Int)) = true := by simp; omega
  go_enter Try.func23, Try.ntmps23
  go_wp2
  go_ret
  exact ⟨rfl, ((Below.refl _ _).alloc (Nat.le_refl _) _).alloc (by simp only [World.size_alloc]; omega) _⟩
set_option linter.unusedSimpArgs false in
set_option linter.unusedVariables false in
set_option maxRecDepth 100000 in
set_option maxHeartbeats 8000000 in
theorem conf_in (A B : T) (S : Nat → Prop) (w : World) (k : Int) (a : Option Addr) (n c : Nat) (b : Option Addr) (m d : Nat) (a' : Option Addr) (c' : Nat) (b' : Option Addr) (m' d' : Nat) (h1 : Lies S w (TV k a n c b m d) A) (h2 : Lies S w (TV k a' n c' b' m' d') B) (KP : ∀ j l, j < n → l < n → PairFor (A.it j) (B.it l)) (k1 : k ≠ 1) (k14 : k ≠ 14) (k11 : k ≠ 11) (k13 : k ≠ 13) (v : Bool) (hv : v = allN (fun i => (vd (A.it i) (B.it i)).there) n) : Calls Try.prog 23 #[TV k a n c b m d, TV k a' n c' b' m' d'] w (Ret (.bool v) w) := by
  obtain ⟨FW, hc, hd, hk, -, -⟩ := h1.few
  obtain ⟨FW', hc', hd', -, -, -⟩ := h2.few
  have NB : (n : Int) ≤ 9223372036854775806 := by have := FW.1; omega
  have MB : (m : Int) ≤ 9223372036854775806 := by have := FW.2; omega
  have H1 := Lib.hid h1
  have H2 := Lib.hid h2
  have HC := Lib.hid (And.intro (And.intro hc hd) (And.intro hc' hd'))
  have HK := Lib.hid KP
  unfold PairFor at HK
  have HV := Lib.hid hv
  clear h1 h2 hc hd hk hc' hd' FW FW' KP hv
  have j1 : (k == 1) = false := by simp [k1]
  have j2 : (k == 14) = false := by simp [k14]
  have j3 : (k == 11) = false := by simp [k11]
  have j4 : (k == 13) = false := by simp [k13]
  clear k1 k14 k11 k13
  go_enter Try.func23, Try.ntmps23
  go_wp2
  go_loopg [8] n (fun gg i wr => ∃ (kk : Nat), kk ≤ n ∧ n - kk ≤ gg ∧ i = .int .i64 (kk : Int) ∧ Hid (allN (fun i => (vd (A.it i) (B.it i)).there) kk = true) ∧ Hid (Two wr w.heap.size k a n c b m d k a' n c' b' m' d') ∧ Hid (Below w.heap.size w wr))
  case atStart => exact ⟨0, Nat.zero_le _, Nat.le_refl _, rfl, Lib.hid rfl, Lib.hid (by refine ⟨?_, ?_, ?_, ?_, ?_, ?_⟩ <;> simp [go_sem]), Lib.hid (((Below.refl _ _).alloc (Nat.le_refl _) _).alloc (by simp only [World.size_alloc]; omega) _)⟩
  case round =>
    obtain ⟨kk, hkk, hg, rfl, AL, TW, HB⟩ := hrel
    obtain ⟨y0, y1, y2, y3, y4, y5⟩ := id TW.out
    have r0 := cell_lt y0
    have r1 := cell_lt y3
    by_cases hlt : kk < n
    · obtain ⟨g3, o3, rfl, k3, a3, n3, c3, b3, m3, d3, t0, t1, t2, tg, L3⟩ := (H1.out.on HB.out).item kk hlt
      obtain ⟨g4, o4, rfl, k4, a4, n4, c4, b4, m4, d4, u0, u1, u2, ug, L4⟩ := (H2.out.on HB.out).item kk hlt
      have hlti : (0 : Int) ≤ (kk : Int) ∧ (kk : Int) < (n : Int) := by omega
      have Y0 : wr.drew.cell? ⟨w.heap.size, 0, none⟩ = some (.int .i64 k) ∧ wr.drew.cell? ⟨w.heap.size, 1, none⟩ = some (.slice (some ⟨g3, o3, none⟩) n c) ∧ wr.drew.cell? ⟨w.heap.size, 2, none⟩ = some (.slice b m d) ∧ wr.drew.cell? ⟨w.heap.size + 1, 0, none⟩ = some (.int .i64 k) ∧ wr.drew.cell? ⟨w.heap.size + 1, 1, none⟩ = some (.slice (some ⟨g4, o4, none⟩) n c') ∧ wr.drew.cell? ⟨w.heap.size + 1, 2, none⟩ = some (.slice b' m' d') ∧ wr.drew.cell? ⟨g3, o3 + kk * 3, none⟩ = some (.int .i64 k3) ∧ wr.drew.cell? ⟨g3, o3 + kk * 3 + 1, none⟩ = some (.slice a3 n3 c3) ∧ wr.drew.cell? ⟨g3, o3 + kk * 3 + 2, none⟩ = some (.slice b3 m3 d3) ∧ wr.drew.cell? ⟨g4, o4 + kk * 3, none⟩ = some (.int .i64 k4) ∧ wr.drew.cell? ⟨g4, o4 + kk * 3 + 1, none⟩ = some (.slice a4 n4 c4) ∧ wr.drew.cell? ⟨g4, o4 + kk * 3 + 2, none⟩ = some (.slice b4 m4 d4) := ⟨y0, y1, y2, y3, y4, y5, t0, t1, t2, u0, u1, u2⟩
      have le0 := HB.out.size
      cases hv : (vd (A.it kk) (B.it kk)).there with
      | true =>
        have CP := Lib.hid (show ∀ X, Below wr.heap.size wr X → Calls Try.prog 23 #[TV k3 a3 n3 c3 b3 m3 d3, TV k4 a4 n4 c4 b4 m4 d4] X (Ret (.bool true) X) from fun X hb => by rw [← hv]; exact (HK.out kk kk hlt hlt S X k3 a3 n3 c3 b3 m3 d3 k4 a4 n4 c4 b4 m4 d4 (L3.on hb) (L4.on hb)).1)
        have AL2 := Lib.hid (show allN (fun i => (vd (A.it i) (B.it i)).there) (kk + 1) = true from by unfold allN; rw [AL.out]; exact hv)
        clear L3 L4 t0 t1 t2 u0 u1 u2 tg ug AL
        go_wp2
        go_region_held3 (fun W => W.cell? ⟨w.heap.size, 0, none⟩ = some (.int .i64 k) ∧ W.cell? ⟨w.heap.size, 1, none⟩ = some (.slice (some ⟨g3, o3, none⟩) n c) ∧ W.cell? ⟨w.heap.size, 2, none⟩ = some (.slice b m d) ∧ W.cell? ⟨w.heap.size + 1, 0, none⟩ = some (.int .i64 k) ∧ W.cell? ⟨w.heap.size + 1, 1, none⟩ = some (.slice (some ⟨g4, o4, none⟩) n c') ∧ W.cell? ⟨w.heap.size + 1, 2, none⟩ = some (.slice b' m' d') ∧ W.cell? ⟨g3, o3 + kk * 3, none⟩ = some (.int .i64 k3) ∧ W.cell? ⟨g3, o3 + kk * 3 + 1, none⟩ = some (.slice a3 n3 c3) ∧ W.cell? ⟨g3, o3 + kk * 3 + 2, none⟩ = some (.slice b3 m3 d3) ∧ W.cell? ⟨g4, o4 + kk * 3, none⟩ = some (.int .i64 k4) ∧ W.cell? ⟨g4, o4 + kk * 3 + 1, none⟩ = some (.slice a4 n4 c4) ∧ W.cell? ⟨g4, o4 + kk * 3 + 2, none⟩ = some (.slice b4 m4 d4))
          (first | (simp [go_sem]; done) | (repeat' (first | (with_reducible assumption) | (with_reducible exact Y0) | (with_reducible refine kc12 ?_ (by with_reducible assumption)) | (with_reducible refine kc12d ?_) | (with_reducible refine kc12n (by with_reducible assumption) _ ?_ ?_ ?_ ?_) | (with_reducible refine kc12a ?_ _) | (with_reducible refine kc12s ?_ ?_ ?_ ?_ ?_ _) | (show _ ≠ _; (try dsimp only); omega) | (show _ < _; (try dsimp only); (try simp only [World.size_alloc, World.size_drew]); omega))))
          (first
            | (go_at_call 23; (with_reducible refine (CP.out _ ?_).mono ?_); (· (repeat' (first | (with_reducible assumption) | (with_reducible exact Below.refl _ _) | (with_reducible refine Below.drew ?_) | (with_reducible refine ballD1 ?_ _) | (with_reducible refine Below.set1 ?_ _ _ ?_ _) | (show _ ≤ _; (try simp only [World.size_alloc, World.size_drew]); omega)))); rintro e w5 ⟨rfl, hb5⟩; have sz5 := hb5.size; (try simp only [World.size_alloc, World.size_drew] at sz5)))
        have TW5 := Lib.hid (Two.on TW.out (bundrew hb5))
        have HB5 := Lib.hid (bstep (Below.drew HB.out) hb5)
        clear hb5 TW HB CP Y0 y0 y1 y2 y3 y4 y5
        go_wp2
        go_roundg (n - (kk + 1))
        case measure => omega
        case rel => exact ⟨kk + 1, by omega, Nat.le_refl _, by go_num, AL2, TW5, HB5⟩
      | false =>
        have CP := Lib.hid (show ∀ X, Below wr.heap.size wr X → Calls Try.prog 23 #[TV k3 a3 n3 c3 b3 m3 d3, TV k4 a4 n4 c4 b4 m4 d4] X (Ret (.bool false) X) from fun X hb => by rw [← hv]; exact (HK.out kk kk hlt hlt S X k3 a3 n3 c3 b3 m3 d3 k4 a4 n4 c4 b4 m4 d4 (L3.on hb) (L4.on hb)).1)
        have NO : v = false := HV.out.trans (allN_no _ n kk hlt (by exact hv))
        subst NO
        clear L3 L4 t0 t1 t2 u0 u1 u2 tg ug AL
        go_wp2
        go_region_held3 (fun W => W.cell? ⟨w.heap.size, 0, none⟩ = some (.int .i64 k) ∧ W.cell? ⟨w.heap.size, 1, none⟩ = some (.slice (some ⟨g3, o3, none⟩) n c) ∧ W.cell? ⟨w.heap.size, 2, none⟩ = some (.slice b m d) ∧ W.cell? ⟨w.heap.size + 1, 0, none⟩ = some (.int .i64 k) ∧ W.cell? ⟨w.heap.size + 1, 1, none⟩ = some (.slice (some ⟨g4, o4, none⟩) n c') ∧ W.cell? ⟨w.heap.size + 1, 2, none⟩ = some (.slice b' m' d') ∧ W.cell? ⟨g3, o3 + kk * 3, none⟩ = some (.int .i64 k3) ∧ W.cell? ⟨g3, o3 + kk * 3 + 1, none⟩ = some (.slice a3 n3 c3) ∧ W.cell? ⟨g3, o3 + kk * 3 + 2, none⟩ = some (.slice b3 m3 d3) ∧ W.cell? ⟨g4, o4 + kk * 3, none⟩ = some (.int .i64 k4) ∧ W.cell? ⟨g4, o4 + kk * 3 + 1, none⟩ = some (.slice a4 n4 c4) ∧ W.cell? ⟨g4, o4 + kk * 3 + 2, none⟩ = some (.slice b4 m4 d4))
          (first | (simp [go_sem]; done) | (repeat' (first | (with_reducible assumption) | (with_reducible exact Y0) | (with_reducible refine kc12 ?_ (by with_reducible assumption)) | (with_reducible refine kc12d ?_) | (with_reducible refine kc12n (by with_reducible assumption) _ ?_ ?_ ?_ ?_) | (with_reducible refine kc12a ?_ _) | (with_reducible refine kc12s ?_ ?_ ?_ ?_ ?_ _) | (show _ ≠ _; (try dsimp only); omega) | (show _ < _; (try dsimp only); (try simp only [World.size_alloc, World.size_drew]); omega))))
          (first
            | (go_at_call 23; (with_reducible refine (CP.out _ ?_).mono ?_); (· (repeat' (first | (with_reducible assumption) | (with_reducible exact Below.refl _ _) | (with_reducible refine Below.drew ?_) | (with_reducible refine ballD1 ?_ _) | (with_reducible refine Below.set1 ?_ _ _ ?_ _) | (show _ ≤ _; (try simp only [World.size_alloc, World.size_drew]); omega)))); rintro e w5 ⟨rfl, hb5⟩; have sz5 := hb5.size; (try simp only [World.size_alloc, World.size_drew] at sz5)))
        go_wp2
        go_ret
        exact ⟨rfl, bstep (Below.drew HB.out) hb5⟩
    · obtain rfl : kk = n := by omega
      have e := HV.out
      rw [AL.out] at e
      subst e
      go_wp2
      go_ret
      exact ⟨rfl, HB.out⟩
set_option linter.unusedSimpArgs false in
set_option linter.unusedVariables false in
set_option maxRecDepth 100000 in
set_option maxHeartbeats 8000000 in
theorem conf_fun (A B : T) (S : Nat → Prop) (w : World) (a : Option Addr) (n c : Nat) (b : Option Addr) (m d : Nat) (a' : Option Addr) (c' : Nat) (b' : Option Addr) (m' d' : Nat) (h1 : Lies S w (TV 13 a n c b m d) A) (h2 : Lies S w (TV 13 a' n c' b' m' d') B) (KP : ∀ j l, j < n → l < n → PairFor (A.it j) (B.it l))  (v : Bool) (hv : v = allN (fun i => if i < n - 1 then (vd (B.it i) (A.it i)).there else (vd (A.it i) (B.it i)).there) n) : Calls Try.prog 23 #[TV 13 a n c b m d, TV 13 a' n c' b' m' d'] w (Ret (.bool v) w) := by
  obtain ⟨FW, hc, hd, hk, -, -⟩ := h1.few
  obtain ⟨FW', hc', hd', -, -, -⟩ := h2.few
  have NB : (n : Int) ≤ 9223372036854775806 := by have := FW.1; omega
  have MB : (m : Int) ≤ 9223372036854775806 := by have := FW.2; omega
  have H1 := Lib.hid h1
  have H2 := Lib.hid h2
  have HC := Lib.hid (And.intro (And.intro hc hd) (And.intro hc' hd'))
  have HK := Lib.hid KP
  unfold PairFor at HK
  have HV := Lib.hid hv
  clear h1 h2 hc hd hk hc' hd' FW FW' KP hv
  go_enter Try.func23, Try.ntmps23
  go_wp2
  go_loopg [8] n (fun gg i wr => ∃ (kk : Nat), kk ≤ n ∧ n - kk ≤ gg ∧ i = .int .i64 (kk : Int) ∧ Hid (allN (fun i => if i < n - 1 then (vd (B.it i) (A.it i)).there else (vd (A.it i) (B.it i)).there) kk = true) ∧ Hid (Two wr w.heap.size 13 a n c b m d 13 a' n c' b' m' d') ∧ Hid (Below w.heap.size w wr))
  case atStart => exact ⟨0, Nat.zero_le _, Nat.le_refl _, rfl, Lib.hid rfl, Lib.hid (by refine ⟨?_, ?_, ?_, ?_, ?_, ?_⟩ <;> simp [go_sem]), Lib.hid (((Below.refl _ _).alloc (Nat.le_refl _) _).alloc (by simp only [World.size_alloc]; omega) _)⟩
  case round =>
    obtain ⟨kk, hkk, hg, rfl, AL, TW, HB⟩ := hrel
    obtain ⟨y0, y1, y2, y3, y4, y5⟩ := id TW.out
    have r0 := cell_lt y0
    have r1 := cell_lt y3
    by_cases hlt : kk < n
    · obtain ⟨g3, o3, rfl, k3, a3, n3, c3, b3, m3, d3, t0, t1, t2, tg, L3⟩ := (H1.out.on HB.out).item kk hlt
      obtain ⟨g4, o4, rfl, k4, a4, n4, c4, b4, m4, d4, u0, u1, u2, ug, L4⟩ := (H2.out.on HB.out).item kk hlt
      have hlti : (0 : Int) ≤ (kk : Int) ∧ (kk : Int) < (n : Int) := by omega
      have Y0 : wr.drew.cell? ⟨w.heap.size, 0, none⟩ = some (.int .i64 13) ∧ wr.drew.cell? ⟨w.heap.size, 1, none⟩ = some (.slice (some ⟨g3, o3, none⟩) n c) ∧ wr.drew.cell? ⟨w.heap.size, 2, none⟩ = some (.slice b m d) ∧ wr.drew.cell? ⟨w.heap.size + 1, 0, none⟩ = some (.int .i64 13) ∧ wr.drew.cell? ⟨w.heap.size + 1, 1, none⟩ = some (.slice (some ⟨g4, o4, none⟩) n c') ∧ wr.drew.cell? ⟨w.heap.size + 1, 2, none⟩ = some (.slice b' m' d') ∧ wr.drew.cell? ⟨g3, o3 + kk * 3, none⟩ = some (.int .i64 k3) ∧ wr.drew.cell? ⟨g3, o3 + kk * 3 + 1, none⟩ = some (.slice a3 n3 c3) ∧ wr.drew.cell? ⟨g3, o3 + kk * 3 + 2, none⟩ = some (.slice b3 m3 d3) ∧ wr.drew.cell? ⟨g4, o4 + kk * 3, none⟩ = some (.int .i64 k4) ∧ wr.drew.cell? ⟨g4, o4 + kk * 3 + 1, none⟩ = some (.slice a4 n4 c4) ∧ wr.drew.cell? ⟨g4, o4 + kk * 3 + 2, none⟩ = some (.slice b4 m4 d4) := ⟨y0, y1, y2, y3, y4, y5, t0, t1, t2, u0, u1, u2⟩
      have le0 := HB.out.size
      have q3 : (n : Int) - 1 = ((n - 1 : Nat) : Int) := by omega
      by_cases hl1 : kk < n - 1
      · have q4 : (kk : Int) < ((n - 1 : Nat) : Int) := by omega
        cases hv : (vd (B.it kk) (A.it kk)).there with
        | true =>
          have CP := Lib.hid (show ∀ X, Below wr.heap.size wr X → Calls Try.prog 23 #[TV k4 a4 n4 c4 b4 m4 d4, TV k3 a3 n3 c3 b3 m3 d3] X (Ret (.bool true) X) from fun X hb => by rw [← hv]; exact (HK.out kk kk hlt hlt S X k3 a3 n3 c3 b3 m3 d3 k4 a4 n4 c4 b4 m4 d4 (L3.on hb) (L4.on hb)).2)
          have AL2 := Lib.hid (show allN (fun i => if i < n - 1 then (vd (B.it i) (A.it i)).there else (vd (A.it i) (B.it i)).there) (kk + 1) = true from by unfold allN; rw [AL.out]; simp only [hl1, if_true]; exact hv)
          clear L3 L4 t0 t1 t2 u0 u1 u2 tg ug AL
          go_wp2
          go_region_held3 (fun W => W.cell? ⟨w.heap.size, 0, none⟩ = some (.int .i64 13) ∧ W.cell? ⟨w.heap.size, 1, none⟩ = some (.slice (some ⟨g3, o3, none⟩) n c) ∧ W.cell? ⟨w.heap.size, 2, none⟩ = some (.slice b m d) ∧ W.cell? ⟨w.heap.size + 1, 0, none⟩ = some (.int .i64 13) ∧ W.cell? ⟨w.heap.size + 1, 1, none⟩ = some (.slice (some ⟨g4, o4, none⟩) n c') ∧ W.cell? ⟨w.heap.size + 1, 2, none⟩ = some (.slice b' m' d') ∧ W.cell? ⟨g3, o3 + kk * 3, none⟩ = some (.int .i64 k3) ∧ W.cell? ⟨g3, o3 + kk * 3 + 1, none⟩ = some (.slice a3 n3 c3) ∧ W.cell? ⟨g3, o3 + kk * 3 + 2, none⟩ = some (.slice b3 m3 d3) ∧ W.cell? ⟨g4, o4 + kk * 3, none⟩ = some (.int .i64 k4) ∧ W.cell? ⟨g4, o4 + kk * 3 + 1, none⟩ = some (.slice a4 n4 c4) ∧ W.cell? ⟨g4, o4 + kk * 3 + 2, none⟩ = some (.slice b4 m4 d4))
            (first | (simp [go_sem]; done) | (repeat' (first | (with_reducible assumption) | (with_reducible exact Y0) | (with_reducible refine kc12 ?_ (by with_reducible assumption)) | (with_reducible refine kc12d ?_) | (with_reducible refine kc12n (by with_reducible assumption) _ ?_ ?_ ?_ ?_) | (with_reducible refine kc12a ?_ _) | (with_reducible refine kc12s ?_ ?_ ?_ ?_ ?_ _) | (show _ ≠ _; (try dsimp only); omega) | (show _ < _; (try dsimp only); (try simp only [World.size_alloc, World.size_drew]); omega))))
            (first
              | (go_at_call 23; (with_reducible refine (CP.out _ ?_).mono ?_); (· (repeat' (first | (with_reducible assumption) | (with_reducible exact Below.refl _ _) | (with_reducible refine Below.drew ?_) | (with_reducible refine ballD1 ?_ _) | (with_reducible refine Below.set1 ?_ _ _ ?_ _) | (show _ ≤ _; (try simp only [World.size_alloc, World.size_drew]); omega)))); rintro e w5 ⟨rfl, hb5⟩; have sz5 := hb5.size; (try simp only [World.size_alloc, World.size_drew] at sz5)))
          have TW5 := Lib.hid (Two.on TW.out (bundrew hb5))
          have HB5 := Lib.hid (bstep (Below.drew HB.out) hb5)
          clear hb5 TW HB CP Y0 y0 y1 y2 y3 y4 y5
          go_wp2
          go_roundg (n - (kk + 1))
          case measure => omega
          case rel => exact ⟨kk + 1, by omega, Nat.le_refl _, by go_num, AL2, TW5, HB5⟩
        | false =>
          have CP := Lib.hid (show ∀ X, Below wr.heap.size wr X → Calls Try.prog 23 #[TV k4 a4 n4 c4 b4 m4 d4, TV k3 a3 n3 c3 b3 m3 d3] X (Ret (.bool false) X) from fun X hb => by rw [← hv]; exact (HK.out kk kk hlt hlt S X k3 a3 n3 c3 b3 m3 d3 k4 a4 n4 c4 b4 m4 d4 (L3.on hb) (L4.on hb)).2)
          have NO : v = false := HV.out.trans (allN_no _ n kk hlt (by simp only [hl1, if_true]; exact hv))
          subst NO
          clear L3 L4 t0 t1 t2 u0 u1 u2 tg ug AL
          go_wp2
          go_region_held3 (fun W => W.cell? ⟨w.heap.size, 0, none⟩ = some (.int .i64 13) ∧ W.cell? ⟨w.heap.size, 1, none⟩ = some (.slice (some ⟨g3, o3, none⟩) n c) ∧ W.cell? ⟨w.heap.size, 2, none⟩ = some (.slice b m d) ∧ W.cell? ⟨w.heap.size + 1, 0, none⟩ = some (.int .i64 13) ∧ W.cell? ⟨w.heap.size + 1, 1, none⟩ = some (.slice (some ⟨g4, o4, none⟩) n c') ∧ W.cell? ⟨w.heap.size + 1, 2, none⟩ = some (.slice b' m' d') ∧ W.cell? ⟨g3, o3 + kk * 3, none⟩ = some (.int .i64 k3) ∧ W.cell? ⟨g3, o3 + kk * 3 + 1, none⟩ = some (.slice a3 n3 c3) ∧ W.cell? ⟨g3, o3 + kk * 3 + 2, none⟩ = some (.slice b3 m3 d3) ∧ W.cell? ⟨g4, o4 + kk * 3, none⟩ = some (.int .i64 k4) ∧ W.cell? ⟨g4, o4 + kk * 3 + 1, none⟩ = some (.slice a4 n4 c4) ∧ W.cell? ⟨g4, o4 + kk * 3 + 2, none⟩ = some (.slice b4 m4 d4))
            (first | (simp [go_sem]; done) | (repeat' (first | (with_reducible assumption) | (with_reducible exact Y0) | (with_reducible refine kc12 ?_ (by with_reducible assumption)) | (with_reducible refine kc12d ?_) | (with_reducible refine kc12n (by with_reducible assumption) _ ?_ ?_ ?_ ?_) | (with_reducible refine kc12a ?_ _) | (with_reducible refine kc12s ?_ ?_ ?_ ?_ ?_ _) | (show _ ≠ _; (try dsimp only); omega) | (show _ < _; (try dsimp only); (try simp only [World.size_alloc, World.size_drew]); omega))))
            (first
              | (go_at_call 23; (with_reducible refine (CP.out _ ?_).mono ?_); (· (repeat' (first | (with_reducible assumption) | (with_reducible exact Below.refl _ _) | (with_reducible refine Below.drew ?_) | (with_reducible refine ballD1 ?_ _) | (with_reducible refine Below.set1 ?_ _ _ ?_ _) | (show _ ≤ _; (try simp only [World.size_alloc, World.size_drew]); omega)))); rintro e w5 ⟨rfl, hb5⟩; have sz5 := hb5.size; (try simp only [World.size_alloc, World.size_drew] at sz5)))
          go_wp2
          go_ret
          exact ⟨rfl, bstep (Below.drew HB.out) hb5⟩
      · have q4 : ¬ (kk : Int) < ((n - 1 : Nat) : Int) := by omega
        cases hv : (vd (A.it kk) (B.it kk)).there with
        | true =>
          have CP := Lib.hid (show ∀ X, Below wr.heap.size wr X → Calls Try.prog 23 #[TV k3 a3 n3 c3 b3 m3 d3, TV k4 a4 n4 c4 b4 m4 d4] X (Ret (.bool true) X) from fun X hb => by rw [← hv]; exact (HK.out kk kk hlt hlt S X k3 a3 n3 c3 b3 m3 d3 k4 a4 n4 c4 b4 m4 d4 (L3.on hb) (L4.on hb)).1)
          have AL2 := Lib.hid (show allN (fun i => if i < n - 1 then (vd (B.it i) (A.it i)).there else (vd (A.it i) (B.it i)).there) (kk + 1) = true from by unfold allN; rw [AL.out]; simp only [hl1, if_false]; exact hv)
          clear L3 L4 t0 t1 t2 u0 u1 u2 tg ug AL
          go_wp2
          go_region_held3 (fun W => W.cell? ⟨w.heap.size, 0, none⟩ = some (.int .i64 13) ∧ W.cell? ⟨w.heap.size, 1, none⟩ = some (.slice (some ⟨g3, o3, none⟩) n c) ∧ W.cell? ⟨w.heap.size, 2, none⟩ = some (.slice b m d) ∧ W.cell? ⟨w.heap.size + 1, 0, none⟩ = some (.int .i64 13) ∧ W.cell? ⟨w.heap.size + 1, 1, none⟩ = some (.slice (some ⟨g4, o4, none⟩) n c') ∧ W.cell? ⟨w.heap.size + 1, 2, none⟩ = some (.slice b' m' d') ∧ W.cell? ⟨g3, o3 + kk * 3, none⟩ = some (.int .i64 k3) ∧ W.cell? ⟨g3, o3 + kk * 3 + 1, none⟩ = some (.slice a3 n3 c3) ∧ W.cell? ⟨g3, o3 + kk * 3 + 2, none⟩ = some (.slice b3 m3 d3) ∧ W.cell? ⟨g4, o4 + kk * 3, none⟩ = some (.int .i64 k4) ∧ W.cell? ⟨g4, o4 + kk * 3 + 1, none⟩ = some (.slice a4 n4 c4) ∧ W.cell? ⟨g4, o4 + kk * 3 + 2, none⟩ = some (.slice b4 m4 d4))
            (first | (simp [go_sem]; done) | (repeat' (first | (with_reducible assumption) | (with_reducible exact Y0) | (with_reducible refine kc12 ?_ (by with_reducible assumption)) | (with_reducible refine kc12d ?_) | (with_reducible refine kc12n (by with_reducible assumption) _ ?_ ?_ ?_ ?_) | (with_reducible refine kc12a ?_ _) | (with_reducible refine kc12s ?_ ?_ ?_ ?_ ?_ _) | (show _ ≠ _; (try dsimp only); omega) | (show _ < _; (try dsimp only); (try simp only [World.size_alloc, World.size_drew]); omega))))
            (first
              | (go_at_call 23; (with_reducible refine (CP.out _ ?_).mono ?_); (· (repeat' (first | (with_reducible assumption) | (with_reducible exact Below.refl _ _) | (with_reducible refine Below.drew ?_) | (with_reducible refine ballD1 ?_ _) | (with_reducible refine Below.set1 ?_ _ _ ?_ _) | (show _ ≤ _; (try simp only [World.size_alloc, World.size_drew]); omega)))); rintro e w5 ⟨rfl, hb5⟩; have sz5 := hb5.size; (try simp only [World.size_alloc, World.size_drew] at sz5)))
          have TW5 := Lib.hid (Two.on TW.out (bundrew hb5))
          have HB5 := Lib.hid (bstep (Below.drew HB.out) hb5)
          clear hb5 TW HB CP Y0 y0 y1 y2 y3 y4 y5
          go_wp2
          go_roundg (n - (kk + 1))
          case measure => omega
          case rel => exact ⟨kk + 1, by omega, Nat.le_refl _, by go_num, AL2, TW5, HB5⟩
        | false =>
          have CP := Lib.hid (show ∀ X, Below wr.heap.size wr X → Calls Try.prog 23 #[TV k3 a3 n3 c3 b3 m3 d3, TV k4 a4 n4 c4 b4 m4 d4] X (Ret (.bool false) X) from fun X hb => by rw [← hv]; exact (HK.out kk kk hlt hlt S X k3 a3 n3 c3 b3 m3 d3 k4 a4 n4 c4 b4 m4 d4 (L3.on hb) (L4.on hb)).1)
          have NO : v = false := HV.out.trans (allN_no _ n kk hlt (by simp only [hl1, if_false]; exact hv))
          subst NO
          clear L3 L4 t0 t1 t2 u0 u1 u2 tg ug AL
          go_wp2
          go_region_held3 (fun W => W.cell? ⟨w.heap.size, 0, none⟩ = some (.int .i64 13) ∧ W.cell? ⟨w.heap.size, 1, none⟩ = some (.slice (some ⟨g3, o3, none⟩) n c) ∧ W.cell? ⟨w.heap.size, 2, none⟩ = some (.slice b m d) ∧ W.cell? ⟨w.heap.size + 1, 0, none⟩ = some (.int .i64 13) ∧ W.cell? ⟨w.heap.size + 1, 1, none⟩ = some (.slice (some ⟨g4, o4, none⟩) n c') ∧ W.cell? ⟨w.heap.size + 1, 2, none⟩ = some (.slice b' m' d') ∧ W.cell? ⟨g3, o3 + kk * 3, none⟩ = some (.int .i64 k3) ∧ W.cell? ⟨g3, o3 + kk * 3 + 1, none⟩ = some (.slice a3 n3 c3) ∧ W.cell? ⟨g3, o3 + kk * 3 + 2, none⟩ = some (.slice b3 m3 d3) ∧ W.cell? ⟨g4, o4 + kk * 3, none⟩ = some (.int .i64 k4) ∧ W.cell? ⟨g4, o4 + kk * 3 + 1, none⟩ = some (.slice a4 n4 c4) ∧ W.cell? ⟨g4, o4 + kk * 3 + 2, none⟩ = some (.slice b4 m4 d4))
            (first | (simp [go_sem]; done) | (repeat' (first | (with_reducible assumption) | (with_reducible exact Y0) | (with_reducible refine kc12 ?_ (by with_reducible assumption)) | (with_reducible refine kc12d ?_) | (with_reducible refine kc12n (by with_reducible assumption) _ ?_ ?_ ?_ ?_) | (with_reducible refine kc12a ?_ _) | (with_reducible refine kc12s ?_ ?_ ?_ ?_ ?_ _) | (show _ ≠ _; (try dsimp only); omega) | (show _ < _; (try dsimp only); (try simp only [World.size_alloc, World.size_drew]); omega))))
            (first
              | (go_at_call 23; (with_reducible refine (CP.out _ ?_).mono ?_); (· (repeat' (first | (with_reducible assumption) | (with_reducible exact Below.refl _ _) | (with_reducible refine Below.drew ?_) | (with_reducible refine ballD1 ?_ _) | (with_reducible refine Below.set1 ?_ _ _ ?_ _) | (show _ ≤ _; (try simp only [World.size_alloc, World.size_drew]); omega)))); rintro e w5 ⟨rfl, hb5⟩; have sz5 := hb5.size; (try simp only [World.size_alloc, World.size_drew] at sz5)))
          go_wp2
          go_ret
          exact ⟨rfl, bstep (Below.drew HB.out) hb5⟩
    · obtain rfl : kk = n := by omega
      have e := HV.out
      rw [AL.out] at e
      subst e
      go_wp2
      go_ret
      exact ⟨rfl, HB.out⟩
section
variable {w w' : World} {g0 g1 g2 o0 o1 o2 o3 o4 o5 o6 : Nat} {v0 v1 v2 v3 v4 v5 v6 : Value}
theorem kc7 (h : w.cell? ⟨g0, o0, none⟩ = some v0 ∧ w.cell? ⟨g0, o1, none⟩ = some v1 ∧ w.cell? ⟨g0, o2, none⟩ = some v2 ∧ w.cell? ⟨g1, o3, none⟩ = some v3 ∧ w.cell? ⟨g1, o4, none⟩ = some v4 ∧ w.cell? ⟨g1, o5, none⟩ = some v5 ∧ w.cell? ⟨g2, o6, none⟩ = some v6) (hb : Below w.heap.size w w') : w'.cell? ⟨g0, o0, none⟩ = some v0 ∧ w'.cell? ⟨g0, o1, none⟩ = some v1 ∧ w'.cell? ⟨g0, o2, none⟩ = some v2 ∧ w'.cell? ⟨g1, o3, none⟩ = some v3 ∧ w'.cell? ⟨g1, o4, none⟩ = some v4 ∧ w'.cell? ⟨g1, o5, none⟩ = some v5 ∧ w'.cell? ⟨g2, o6, none⟩ = some v6 :=
  ⟨cell_below (h.1) hb, cell_below (h.2.1) hb, cell_below (h.2.2.1) hb, cell_below (h.2.2.2.1) hb, cell_below (h.2.2.2.2.1) hb, cell_below (h.2.2.2.2.2.1) hb, cell_below (h.2.2.2.2.2.2) hb⟩
theorem kc7d (h : w.cell? ⟨g0, o0, none⟩ = some v0 ∧ w.cell? ⟨g0, o1, none⟩ = some v1 ∧ w.cell? ⟨g0, o2, none⟩ = some v2 ∧ w.cell? ⟨g1, o3, none⟩ = some v3 ∧ w.cell? ⟨g1, o4, none⟩ = some v4 ∧ w.cell? ⟨g1, o5, none⟩ = some v5 ∧ w.cell? ⟨g2, o6, none⟩ = some v6) : w.drew.cell? ⟨g0, o0, none⟩ = some v0 ∧ w.drew.cell? ⟨g0, o1, none⟩ = some v1 ∧ w.drew.cell? ⟨g0, o2, none⟩ = some v2 ∧ w.drew.cell? ⟨g1, o3, none⟩ = some v3 ∧ w.drew.cell? ⟨g1, o4, none⟩ = some v4 ∧ w.drew.cell? ⟨g1, o5, none⟩ = some v5 ∧ w.drew.cell? ⟨g2, o6, none⟩ = some v6 := h
theorem kc7u (h : w.drew.cell? ⟨g0, o0, none⟩ = some v0 ∧ w.drew.cell? ⟨g0, o1, none⟩ = some v1 ∧ w.drew.cell? ⟨g0, o2, none⟩ = some v2 ∧ w.drew.cell? ⟨g1, o3, none⟩ = some v3 ∧ w.drew.cell? ⟨g1, o4, none⟩ = some v4 ∧ w.drew.cell? ⟨g1, o5, none⟩ = some v5 ∧ w.drew.cell? ⟨g2, o6, none⟩ = some v6) : w.cell? ⟨g0, o0, none⟩ = some v0 ∧ w.cell? ⟨g0, o1, none⟩ = some v1 ∧ w.cell? ⟨g0, o2, none⟩ = some v2 ∧ w.cell? ⟨g1, o3, none⟩ = some v3 ∧ w.cell? ⟨g1, o4, none⟩ = some v4 ∧ w.cell? ⟨g1, o5, none⟩ = some v5 ∧ w.cell? ⟨g2, o6, none⟩ = some v6 := h
theorem kc7a (h : w.cell? ⟨g0, o0, none⟩ = some v0 ∧ w.cell? ⟨g0, o1, none⟩ = some v1 ∧ w.cell? ⟨g0, o2, none⟩ = some v2 ∧ w.cell? ⟨g1, o3, none⟩ = some v3 ∧ w.cell? ⟨g1, o4, none⟩ = some v4 ∧ w.cell? ⟨g1, o5, none⟩ = some v5 ∧ w.cell? ⟨g2, o6, none⟩ = some v6) (o : Obj) : (w.alloc o).cell? ⟨g0, o0, none⟩ = some v0 ∧ (w.alloc o).cell? ⟨g0, o1, none⟩ = some v1 ∧ (w.alloc o).cell? ⟨g0, o2, none⟩ = some v2 ∧ (w.alloc o).cell? ⟨g1, o3, none⟩ = some v3 ∧ (w.alloc o).cell? ⟨g1, o4, none⟩ = some v4 ∧ (w.alloc o).cell? ⟨g1, o5, none⟩ = some v5 ∧ (w.alloc o).cell? ⟨g2, o6, none⟩ = some v6 := kc7 h ((Below.refl _ _).alloc (Nat.le_refl _) o)
theorem kc7n {x : Obj} (h : (w.alloc x).cell? ⟨g0, o0, none⟩ = some v0 ∧ (w.alloc x).cell? ⟨g0, o1, none⟩ = some v1 ∧ (w.alloc x).cell? ⟨g0, o2, none⟩ = some v2 ∧ (w.alloc x).cell? ⟨g1, o3, none⟩ = some v3 ∧ (w.alloc x).cell? ⟨g1, o4, none⟩ = some v4 ∧ (w.alloc x).cell? ⟨g1, o5, none⟩ = some v5 ∧ (w.alloc x).cell? ⟨g2, o6, none⟩ = some v6) (y : Obj) (n0 : g0 < w.heap.size) (n1 : g1 < w.heap.size) (n2 : g2 < w.heap.size) : (w.alloc y).cell? ⟨g0, o0, none⟩ = some v0 ∧ (w.alloc y).cell? ⟨g0, o1, none⟩ = some v1 ∧ (w.alloc y).cell? ⟨g0, o2, none⟩ = some v2 ∧ (w.alloc y).cell? ⟨g1, o3, none⟩ = some v3 ∧ (w.alloc y).cell? ⟨g1, o4, none⟩ = some v4 ∧ (w.alloc y).cell? ⟨g1, o5, none⟩ = some v5 ∧ (w.alloc y).cell? ⟨g2, o6, none⟩ = some v6 :=
  ⟨(cellN n0 y x).trans (h.1), (cellN n0 y x).trans (h.2.1), (cellN n0 y x).trans (h.2.2.1), (cellN n1 y x).trans (h.2.2.2.1), (cellN n1 y x).trans (h.2.2.2.2.1), (cellN n1 y x).trans (h.2.2.2.2.2.1), (cellN n2 y x).trans (h.2.2.2.2.2.2)⟩
theorem kc7s (h : w.cell? ⟨g0, o0, none⟩ = some v0 ∧ w.cell? ⟨g0, o1, none⟩ = some v1 ∧ w.cell? ⟨g0, o2, none⟩ = some v2 ∧ w.cell? ⟨g1, o3, none⟩ = some v3 ∧ w.cell? ⟨g1, o4, none⟩ = some v4 ∧ w.cell? ⟨g1, o5, none⟩ = some v5 ∧ w.cell? ⟨g2, o6, none⟩ = some v6) {g o : Nat} (n0 : g0 ≠ g) (n1 : g1 ≠ g) (n2 : g2 ≠ g) (v : Value) : (w.setCell ⟨g, o, none⟩ v).cell? ⟨g0, o0, none⟩ = some v0 ∧ (w.setCell ⟨g, o, none⟩ v).cell? ⟨g0, o1, none⟩ = some v1 ∧ (w.setCell ⟨g, o, none⟩ v).cell? ⟨g0, o2, none⟩ = some v2 ∧ (w.setCell ⟨g, o, none⟩ v).cell? ⟨g1, o3, none⟩ = some v3 ∧ (w.setCell ⟨g, o, none⟩ v).cell? ⟨g1, o4, none⟩ = some v4 ∧ (w.setCell ⟨g, o, none⟩ v).cell? ⟨g1, o5, none⟩ = some v5 ∧ (w.setCell ⟨g, o, none⟩ v).cell? ⟨g2, o6, none⟩ = some v6 :=
  ⟨(cellS n0 o v).trans (h.1), (cellS n0 o v).trans (h.2.1), (cellS n0 o v).trans (h.2.2.1), (cellS n1 o v).trans (h.2.2.2.1), (cellS n1 o v).trans (h.2.2.2.2.1), (cellS n1 o v).trans (h.2.2.2.2.2.1), (cellS n2 o v).trans (h.2.2.2.2.2.2)⟩
end
section
variable {w w' : World} {g0 g1 g2 o0 o1 o2 o3 o4 o5 o6 o7 o8 : Nat} {v0 v1 v2 v3 v4 v5 v6 v7 v8 : Value}
theorem kc9 (h : w.cell? ⟨g0, o0, none⟩ = some v0 ∧ w.cell? ⟨g0, o1, none⟩ = some v1 ∧ w.cell? ⟨g0, o2, none⟩ = some v2 ∧ w.cell? ⟨g1, o3, none⟩ = some v3 ∧ w.cell? ⟨g1, o4, none⟩ = some v4 ∧ w.cell? ⟨g1, o5, none⟩ = some v5 ∧ w.cell? ⟨g2, o6, none⟩ = some v6 ∧ w.cell? ⟨g2, o7, none⟩ = some v7 ∧ w.cell? ⟨g2, o8, none⟩ = some v8) (hb : Below w.heap.size w w') : w'.cell? ⟨g0, o0, none⟩ = some v0 ∧ w'.cell? ⟨g0, o1, none⟩ = some v1 ∧ w'.cell? ⟨g0, o2, none⟩ = some v2 ∧ w'.cell? ⟨g1, o3, none⟩ = some v3 ∧ w'.cell? ⟨g1, o4, none⟩ = some v4 ∧ w'.cell? ⟨g1, o5, none⟩ = some v5 ∧ w'.cell? ⟨g2, o6, none⟩ = some v6 ∧ w'.cell? ⟨g2, o7, none⟩ = some v7 ∧ w'.cell? ⟨g2, o8, none⟩ = some v8 :=
  ⟨cell_below (h.1) hb, cell_below (h.2.1) hb, cell_below (h.2.2.1) hb, cell_below (h.2.2.2.1) hb, cell_below (h.2.2.2.2.1) hb, cell_below (h.2.2.2.2.2.1) hb, cell_below (h.2.2.2.2.2.2.1) hb, cell_below (h.2.2.2.2.2.2.2.1) hb, cell_below (h.2.2.2.2.2.2.2.2) hb⟩
theorem kc9d (h : w.cell? ⟨g0, o0, none⟩ = some v0 ∧ w.cell? ⟨g0, o1, none⟩ = some v1 ∧ w.cell? ⟨g0, o2, none⟩ = some v2 ∧ w.cell? ⟨g1, o3, none⟩ = some v3 ∧ w.cell? ⟨g1, o4, none⟩ = some v4 ∧ w.cell? ⟨g1, o5, none⟩ = some v5 ∧ w.cell? ⟨g2, o6, none⟩ = some v6 ∧ w.cell? ⟨g2, o7, none⟩ = some v7 ∧ w.cell? ⟨g2, o8, none⟩ = some v8) : w.drew.cell? ⟨g0, o0, none⟩ = some v0 ∧ w.drew.cell? ⟨g0, o1, none⟩ = some v1 ∧ w.drew.cell? ⟨g0, o2, none⟩ = some v2 ∧ w.drew.cell? ⟨g1, o3, none⟩ = some v3 ∧ w.drew.cell? ⟨g1, o4, none⟩ = some v4 ∧ w.drew.cell? ⟨g1, o5, none⟩ = some v5 ∧ w.drew.cell? ⟨g2, o6, none⟩ = some v6 ∧ w.drew.cell? ⟨g2, o7, none⟩ = some v7 ∧ w.drew.cell? ⟨g2, o8, none⟩ = some v8 := h
theorem kc9u (h : w.drew.cell? ⟨g0, o0, none⟩ = some v0 ∧ w.drew.cell? ⟨g0, o1, none⟩ = some v1 ∧ w.drew.cell? ⟨g0, o2, none⟩ = some v2 ∧ w.drew.cell? ⟨g1, o3, none⟩ = some v3 ∧ w.drew.cell? ⟨g1, o4, none⟩ = some v4 ∧ w.drew.cell? ⟨g1, o5, none⟩ = some v5 ∧ w.drew.cell? ⟨g2, o6, none⟩ = some v6 ∧ w.drew.cell? ⟨g2, o7, none⟩ = some v7 ∧ w.drew.cell? ⟨g2, o8, none⟩ = some v8) : w.cell? ⟨g0, o0, none⟩ = some v0 ∧ w.cell? ⟨g0, o1, none⟩ = some v1 ∧ w.cell? ⟨g0, o2, none⟩ = some v2 ∧ w.cell? ⟨g1, o3, none⟩ = some v3 ∧ w.cell? ⟨g1, o4, none⟩ = some v4 ∧ w.cell? ⟨g1, o5, none⟩ = some v5 ∧ w.cell? ⟨g2, o6, none⟩ = some v6 ∧ w.cell? ⟨g2, o7, none⟩ = some v7 ∧ w.cell? ⟨g2, o8, none⟩ = some v8 := h
theorem kc9a (h : w.cell? ⟨g0, o0, none⟩ = some v0 ∧ w.cell? ⟨g0, o1, none⟩ = some v1 ∧ w.cell? ⟨g0, o2, none⟩ = some v2 ∧ w.cell? ⟨g1, o3, none⟩ = some v3 ∧ w.cell? ⟨g1, o4, none⟩ = some v4 ∧ w.cell? ⟨g1, o5, none⟩ = some v5 ∧ w.cell? ⟨g2, o6, none⟩ = some v6 ∧ w.cell? ⟨g2, o7, none⟩ = some v7 ∧ w.cell? ⟨g2, o8, none⟩ = some v8) (o : Obj) : (w.alloc o).cell? ⟨g0, o0, none⟩ = some v0 ∧ (w.alloc o).cell? ⟨g0, o1, none⟩ = some v1 ∧ (w.alloc o).cell? ⟨g0, o2, none⟩ = some v2 ∧ (w.alloc o).cell? ⟨g1, o3, none⟩ = some v3 ∧ (w.alloc o).cell? ⟨g1, o4, none⟩ = some v4 ∧ (w.alloc o).cell? ⟨g1, o5, none⟩ = some v5 ∧ (w.alloc o).cell? ⟨g2, o6, none⟩ = some v6 ∧ (w.alloc o).cell? ⟨g2, o7, none⟩ = some v7 ∧ (w.alloc o).cell? ⟨g2, o8, none⟩ = some v8 := kc9 h ((Below.refl _ _).alloc (Nat.le_refl _) o)
theorem kc9n {x : Obj} (h : (w.alloc x).cell? ⟨g0, o0, none⟩ = some v0 ∧ (w.alloc x).cell? ⟨g0, o1, none⟩ = some v1 ∧ (w.alloc x).cell? ⟨g0, o2, none⟩ = some v2 ∧ (w.alloc x).cell? ⟨g1, o3, none⟩ = some v3 ∧ (w.alloc x).cell? ⟨g1, o4, none⟩ = some v4 ∧ (w.alloc x).cell? ⟨g1, o5, none⟩ = some v5 ∧ (w.alloc x).cell? ⟨g2, o6, none⟩ = some v6 ∧ (w.alloc x).cell? ⟨g2, o7, none⟩ = some v7 ∧ (w.alloc x).cell? ⟨g2, o8, none⟩ = some v8) (y : Obj) (n0 : g0 < w.heap.size) (n1 : g1 < w.heap.size) (n2 : g2 < w.heap.size) : (w.alloc y).cell? ⟨g0, o0, none⟩ = some v0 ∧ (w.alloc y).cell? ⟨g0, o1, none⟩ = some v1 ∧ (w.alloc y).cell? ⟨g0, o2, none⟩ = some v2 ∧ (w.alloc y).cell? ⟨g1, o3, none⟩ = some v3 ∧ (w.alloc y).cell? ⟨g1, o4, none⟩ = some v4 ∧ (w.alloc y).cell? ⟨g1, o5, none⟩ = some v5 ∧ (w.alloc y).cell? ⟨g2, o6, none⟩ = some v6 ∧ (w.alloc y).cell? ⟨g2, o7, none⟩ = some v7 ∧ (w.alloc y).cell? ⟨g2, o8, none⟩ = some v8 :=
  ⟨(cellN n0 y x).trans (h.1), (cellN n0 y x).trans (h.2.1), (cellN n0 y x).trans (h.2.2.1), (cellN n1 y x).trans (h.2.2.2.1), (cellN n1 y x).trans (h.2.2.2.2.1), (cellN n1 y x).trans (h.2.2.2.2.2.1), (cellN n2 y x).trans (h.2.2.2.2.2.2.1), (cellN n2 y x).trans (h.2.2.2.2.2.2.2.1), (cellN n2 y x).trans (h.2.2.2.2.2.2.2.2)⟩
theorem kc9s (h : w.cell? ⟨g0, o0, none⟩ = some v0 ∧ w.cell? ⟨g0, o1, none⟩ = some v1 ∧ w.cell? ⟨g0, o2, none⟩ = some v2 ∧ w.cell? ⟨g1, o3, none⟩ = some v3 ∧ w.cell? ⟨g1, o4, none⟩ = some v4 ∧ w.cell? ⟨g1, o5, none⟩ = some v5 ∧ w.cell? ⟨g2, o6, none⟩ = some v6 ∧ w.cell? ⟨g2, o7, none⟩ = some v7 ∧ w.cell? ⟨g2, o8, none⟩ = some v8) {g o : Nat} (n0 : g0 ≠ g) (n1 : g1 ≠ g) (n2 : g2 ≠ g) (v : Value) : (w.setCell ⟨g, o, none⟩ v).cell? ⟨g0, o0, none⟩ = some v0 ∧ (w.setCell ⟨g, o, none⟩ v).cell? ⟨g0, o1, none⟩ = some v1 ∧ (w.setCell ⟨g, o, none⟩ v).cell? ⟨g0, o2, none⟩ = some v2 ∧ (w.setCell ⟨g, o, none⟩ v).cell? ⟨g1, o3, none⟩ = some v3 ∧ (w.setCell ⟨g, o, none⟩ v).cell? ⟨g1, o4, none⟩ = some v4 ∧ (w.setCell ⟨g, o, none⟩ v).cell? ⟨g1, o5, none⟩ = some v5 ∧ (w.setCell ⟨g, o, none⟩ v).cell? ⟨g2, o6, none⟩ = some v6 ∧ (w.setCell ⟨g, o, none⟩ v).cell? ⟨g2, o7, none⟩ = some v7 ∧ (w.setCell ⟨g, o, none⟩ v).cell? ⟨g2, o8, none⟩ = some v8 :=
  ⟨(cellS n0 o v).trans (h.1), (cellS n0 o v).trans (h.2.1), (cellS n0 o v).trans (h.2.2.1), (cellS n1 o v).trans (h.2.2.2.1), (cellS n1 o v).trans (h.2.2.2.2.1), (cellS n1 o v).trans (h.2.2.2.2.2.1), (cellS n2 o v).trans (h.2.2.2.2.2.2.1), (cellS n2 o v).trans (h.2.2.2.2.2.2.2.1), (cellS n2 o v).trans (h.2.2.2.2.2.2.2.2)⟩
end
set_option linter.unusedSimpArgs false in
set_option linter.unusedVariables false in
set_option maxRecDepth 100000 in
set_option maxHeartbeats 8000000 in
theorem conf_ctx (A B : T) (S : Nat → Prop) (w : World) (a : Option Addr) (n c : Nat) (b : Option Addr) (d : Nat) (a' : Option Addr) (n' c' : Nat) (b' : Option Addr) (d' : Nat) (h1 : Lies S w (TV 11 a n c b n d) A) (h2 : Lies S w (TV 11 a' n' c' b' n' d') B) (oa : Once A.nm n) (KP : ∀ j l, j < n → l < n' → PairFor (A.it j) (B.it l)) (v : Bool) (hv : v = allN (fun l => hasN A.nm (B.nm l) n && (vd (A.it (lastN A.nm (B.nm l) n)) (B.it l)).there) n') : Calls Try.prog 23 #[TV 11 a n c b n d, TV 11 a' n' c' b' n' d'] w (Ret (.bool v) w) := by
  obtain ⟨FW, hc, hd, hk, -, -⟩ := h1.few
  obtain ⟨FW', hc', hd', -, -, -⟩ := h2.few
  have NB : (n' : Int) ≤ 9223372036854775806 := by have := FW'.1; omega
  have H1 := Lib.hid h1.sb
  have H2 := Lib.hid h2.sb
  have HC := Lib.hid (And.intro (And.intro hc hd) (And.intro hc' hd'))
  have HK := Lib.hid KP
  unfold PairFor at HK
  have HV := Lib.hid hv
  have OA := Lib.hid oa
  clear h1 h2 hc hd hk hc' hd' FW FW' KP hv oa
  go_enter Try.func23, Try.ntmps23
  go_wp2
  go_loopg [5] n' (fun gg i wr => ∃ (ll : Nat), ll ≤ n' ∧ n' - ll ≤ gg ∧ i = .int .i64 (ll : Int) ∧ Hid (allN (fun l => hasN A.nm (B.nm l) n && (vd (A.it (lastN A.nm (B.nm l) n)) (B.it l)).there) ll = true) ∧ Hid (Two wr w.heap.size 11 a n c b n d 11 a' n' c' b' n' d') ∧ Hid (Below w.heap.size w wr))
  case atStart => exact ⟨0, Nat.zero_le _, Nat.le_refl _, rfl, Lib.hid rfl, Lib.hid (by refine ⟨?_, ?_, ?_, ?_, ?_, ?_⟩ <;> simp [go_sem]), Lib.hid (((Below.refl _ _).alloc (Nat.le_refl _) _).alloc (by simp only [World.size_alloc]; omega) _)⟩
  case round =>
    obtain ⟨ll, hll, hg, rfl, AL, TW, HB⟩ := hrel
    obtain ⟨y0, y1, y2, y3, y4, y5⟩ := id TW.out
    have r0 := cell_lt y0
    have r1 := cell_lt y3
    by_cases hlt : ll < n'
    · obtain ⟨g4, o4, rfl, k4, a4, n4, c4, b4, m4, d4, u0, u1, u2, ug, L4⟩ := (H2.out.on HB.out).item ll hlt
      obtain ⟨gN, oN, rfl, nc, ng, -⟩ := H2.out.name ll hlt
      replace nc : wr.cell? ⟨gN, oN + ll, none⟩ = some (.string (B.nm ll)) := cell_at nc HB.out ng
      have hlti : (0 : Int) ≤ (ll : Int) ∧ (ll : Int) < (n' : Int) := by omega
      have le0 := HB.out.size
      have gNr := cell_lt nc
      obtain ⟨s, hs⟩ : ∃ s, s = B.nm ll := ⟨_, rfl⟩
      rw [← hs] at nc
      have Yr : wr.cell? ⟨w.heap.size, 0, none⟩ = some (.int .i64 11) ∧ wr.cell? ⟨w.heap.size, 1, none⟩ = some (.slice a n c) ∧ wr.cell? ⟨w.heap.size, 2, none⟩ = some (.slice b n d) ∧ wr.cell? ⟨w.heap.size + 1, 0, none⟩ = some (.int .i64 11) ∧ wr.cell? ⟨w.heap.size + 1, 1, none⟩ = some (.slice (some ⟨g4, o4, none⟩) n' c') ∧ wr.cell? ⟨w.heap.size + 1, 2, none⟩ = some (.slice (some ⟨gN, oN, none⟩) n' d') ∧ wr.cell? ⟨gN, oN + ll, none⟩ = some (.string s) := ⟨y0, y1, y2, y3, y4, y5, nc⟩
      have Y0 : wr.drew.cell? ⟨w.heap.size, 0, none⟩ = some (.int .i64 11) ∧ wr.drew.cell? ⟨w.heap.size, 1, none⟩ = some (.slice a n c) ∧ wr.drew.cell? ⟨w.heap.size, 2, none⟩ = some (.slice b n d) ∧ wr.drew.cell? ⟨w.heap.size + 1, 0, none⟩ = some (.int .i64 11) ∧ wr.drew.cell? ⟨w.heap.size + 1, 1, none⟩ = some (.slice (some ⟨g4, o4, none⟩) n' c') ∧ wr.drew.cell? ⟨w.heap.size + 1, 2, none⟩ = some (.slice (some ⟨gN, oN, none⟩) n' d') ∧ wr.drew.cell? ⟨gN, oN + ll, none⟩ = some (.string s) := Yr
      by_cases hh : hasN A.nm (B.nm ll) n = true
      · obtain ⟨hj, he⟩ := lastN_spec A.nm (B.nm ll) n hh
        obtain ⟨j, hjj⟩ : ∃ j, j = lastN A.nm (B.nm ll) n := ⟨_, rfl⟩
        rw [← hjj] at hj he
        have AT := Lib.hid (show ∀ X, Below wr.heap.size wr X → Calls Try.prog 19 #[TV 11 a n c b n d, .string s] X (RetTO (Sb S w) (A.it j) true X) from fun X hb => at_yes (Sb S w) X 11 a n c b n d A ((H1.out.on HB.out).on hb) s j hj hj (he.trans hs.symm) (fun i hi e => OA.out j hj i hi (he.trans (hs.symm.trans e.symm))))
        have GE := Lib.hid (show (fun l => hasN A.nm (B.nm l) n && (vd (A.it (lastN A.nm (B.nm l) n)) (B.it l)).there) ll = (vd (A.it j) (B.it ll)).there from by simp only [hh, Bool.true_and, hjj])
        have HJ := Lib.hid hj
        clear hh hjj hs hj he
        go_wp2
        go_cut [6, 7] (fun p q W => ∃ (g : Nat) (k6 : Int) (a6 : Option Addr) (n6 c6 : Nat) (b6 : Option Addr) (m6 d6 : Nat), p = .pointer (some ⟨g, 0, none⟩) ∧ q = .bool true ∧ (W.cell? ⟨g, 0, none⟩ = some (.int .i64 k6) ∧ W.cell? ⟨g, 1, none⟩ = some (.slice a6 n6 c6) ∧ W.cell? ⟨g, 2, none⟩ = some (.slice b6 m6 d6)) ∧ Lies (Sb S w) W (TV k6 a6 n6 c6 b6 m6 d6) (A.it j) ∧ Below wr.heap.size wr W ∧ wr.heap.size ≤ g)
        case first =>
          go_region_held3 (fun W => W.cell? ⟨w.heap.size, 0, none⟩ = some (.int .i64 11) ∧ W.cell? ⟨w.heap.size, 1, none⟩ = some (.slice a n c) ∧ W.cell? ⟨w.heap.size, 2, none⟩ = some (.slice b n d) ∧ W.cell? ⟨w.heap.size + 1, 0, none⟩ = some (.int .i64 11) ∧ W.cell? ⟨w.heap.size + 1, 1, none⟩ = some (.slice (some ⟨g4, o4, none⟩) n' c') ∧ W.cell? ⟨w.heap.size + 1, 2, none⟩ = some (.slice (some ⟨gN, oN, none⟩) n' d') ∧ W.cell? ⟨gN, oN + ll, none⟩ = some (.string s))
            (first | (simp [go_sem]; done) | (repeat' (first | (with_reducible assumption) | (with_reducible exact Y0) | (with_reducible exact Yr) | (with_reducible refine kc7 ?_ (by with_reducible assumption)) | (with_reducible refine kc7d ?_) | (with_reducible refine kc7n (by with_reducible assumption) _ ?_ ?_ ?_) | (with_reducible refine kc7a ?_ _) | (with_reducible refine kc7s ?_ ?_ ?_ ?_ _) | (show _ ≠ _; (try dsimp only); omega) | (show _ < _; (try dsimp only); (try simp only [World.size_alloc, World.size_drew]); omega))))
            (first
              | (go_at_call 19; (with_reducible refine (AT.out _ ?_).mono ?_); (· (repeat' (first | (with_reducible assumption) | (with_reducible exact Below.refl _ _) | (with_reducible refine Below.drew ?_) | (with_reducible refine ballD1 ?_ _) | (with_reducible refine Below.set1 ?_ _ _ ?_ _) | (show _ ≤ _; (try simp only [World.size_alloc, World.size_drew]); omega)))); rintro e w5 ⟨k6, a6, n6, c6, b6, m6, d6, rfl, L6, hb5⟩; have sz5 := hb5.size; (try simp only [World.size_alloc, World.size_drew] at sz5); obtain ⟨hc5, hf5⟩ := bcell (bundrew hb5); have z5_0 : w.heap.size < w5.heap.size := (by omega); have z5_1 : w.heap.size + 1 < w5.heap.size := (by omega); (try (refine (fun (y5_0 : wr.heap.size < w5.heap.size) => ?_) ?_; rotate_left; (· omega)))))
          all_goals
            go_wp2_with fail
            go_meet
            case rel =>
              refine ⟨_, k6, a6, n6, c6, b6, m6, d6, rfl, rfl, ⟨?_, ?_, ?_⟩, ?_, ?_, ?_⟩
              · simp [go_sem, *]
              · simp [go_sem, *]
              · simp [go_sem, *]
              · repeat' (first | (with_reducible exact L6) | (with_reducible refine Lies.alloc ?_ _) | (with_reducible refine Lies.set ?_ _ _ _ (not_sb (by omega))))
              · (repeat' (first | (with_reducible assumption) | (with_reducible exact Below.refl _ _) | (with_reducible refine Below.drew ?_) | (with_reducible refine ballD1 ?_ _) | (with_reducible refine Below.set1 ?_ _ _ ?_ _) | (show _ ≤ _; (try simp only [World.size_alloc, World.size_drew]); omega) | (refine bstep ?_ hb5)))
              · (try simp only [World.size_alloc, World.size_drew]); omega
        case rest =>
          obtain ⟨g, k6, a6, n6, c6, b6, m6, d6, rfl, rfl, ⟨x0, x1, x2⟩, L6, BW, gw⟩ := hcut
          rename_i wc
          have z0 := cell_below u0 BW
          have z1 := cell_below u1 BW
          have z2 := cell_below u2 BW
          have TW2 := Lib.hid (Two.on TW.out BW)
          obtain ⟨-, -, -, v3, v4, v5⟩ := id TW2.out
          have HB2 := Lib.hid (bstep HB.out BW)
          have gx := cell_lt x0
          have r2 := cell_lt v3
          have r3 := cell_lt z0
          have Y1 : wc.drew.cell? ⟨g, 0, none⟩ = some (.int .i64 k6) ∧ wc.drew.cell? ⟨g, 1, none⟩ = some (.slice a6 n6 c6) ∧ wc.drew.cell? ⟨g, 2, none⟩ = some (.slice b6 m6 d6) ∧ wc.drew.cell? ⟨w.heap.size + 1, 0, none⟩ = some (.int .i64 11) ∧ wc.drew.cell? ⟨w.heap.size + 1, 1, none⟩ = some (.slice (some ⟨g4, o4, none⟩) n' c') ∧ wc.drew.cell? ⟨w.heap.size + 1, 2, none⟩ = some (.slice (some ⟨gN, oN, none⟩) n' d') ∧ wc.drew.cell? ⟨g4, o4 + ll * 3, none⟩ = some (.int .i64 k4) ∧ wc.drew.cell? ⟨g4, o4 + ll * 3 + 1, none⟩ = some (.slice a4 n4 c4) ∧ wc.drew.cell? ⟨g4, o4 + ll * 3 + 2, none⟩ = some (.slice b4 m4 d4) := ⟨x0, x1, x2, v3, v4, v5, z0, z1, z2⟩
          have L42 := L4.on BW
          clear y0 y1 y2 y3 y4 y5 u0 u1 u2 nc Y0 Yr AT TW HB BW L4 r0 r1
          cases hv : (vd (A.it j) (B.it ll)).there with
          | true =>
            have CP := Lib.hid (show ∀ X, Below wc.heap.size wc X → Calls Try.prog 23 #[TV k6 a6 n6 c6 b6 m6 d6, TV k4 a4 n4 c4 b4 m4 d4] X (Ret (.bool true) X) from fun X hb => by rw [← hv]; exact (HK.out j ll HJ.out hlt (Sb S w) X k6 a6 n6 c6 b6 m6 d6 k4 a4 n4 c4 b4 m4 d4 (L6.on hb) (L42.on hb)).1)
            have AL2 := Lib.hid (show allN (fun l => hasN A.nm (B.nm l) n && (vd (A.it (lastN A.nm (B.nm l) n)) (B.it l)).there) (ll + 1) = true from by unfold allN; rw [AL.out, GE.out, hv]; rfl)
            clear L6 L42 AL GE hv
            go_wp2
            go_region_held3 (fun W => W.cell? ⟨g, 0, none⟩ = some (.int .i64 k6) ∧ W.cell? ⟨g, 1, none⟩ = some (.slice a6 n6 c6) ∧ W.cell? ⟨g, 2, none⟩ = some (.slice b6 m6 d6) ∧ W.cell? ⟨w.heap.size + 1, 0, none⟩ = some (.int .i64 11) ∧ W.cell? ⟨w.heap.size + 1, 1, none⟩ = some (.slice (some ⟨g4, o4, none⟩) n' c') ∧ W.cell? ⟨w.heap.size + 1, 2, none⟩ = some (.slice (some ⟨gN, oN, none⟩) n' d') ∧ W.cell? ⟨g4, o4 + ll * 3, none⟩ = some (.int .i64 k4) ∧ W.cell? ⟨g4, o4 + ll * 3 + 1, none⟩ = some (.slice a4 n4 c4) ∧ W.cell? ⟨g4, o4 + ll * 3 + 2, none⟩ = some (.slice b4 m4 d4))
              (first | (simp [go_sem]; done) | (repeat' (first | (with_reducible assumption) | (with_reducible exact Y1) | (with_reducible refine kc9 ?_ (by with_reducible assumption)) | (with_reducible refine kc9d ?_) | (with_reducible refine kc9n (by with_reducible assumption) _ ?_ ?_ ?_) | (with_reducible refine kc9a ?_ _) | (with_reducible refine kc9s ?_ ?_ ?_ ?_ _) | (show _ ≠ _; (try dsimp only); omega) | (show _ < _; (try dsimp only); (try simp only [World.size_alloc, World.size_drew]); omega))))
              (first
                | (go_at_call 23; (with_reducible refine (CP.out _ ?_).mono ?_); (· (repeat' (first | (with_reducible assumption) | (with_reducible exact Below.refl _ _) | (with_reducible refine Below.drew ?_) | (with_reducible refine ballD1 ?_ _) | (with_reducible refine Below.set1 ?_ _ _ ?_ _) | (show _ ≤ _; (try simp only [World.size_alloc, World.size_drew]); omega)))); rintro e w5 ⟨rfl, hb5⟩))
            have TW5 := Lib.hid (Two.on TW2.out (bundrew hb5))
            have HB5 := Lib.hid (bstep (Below.drew HB2.out) hb5)
            clear hb5 TW2 HB2 CP Y1 x0 x1 x2 v3 v4 v5 z0 z1 z2
            go_wp2
            go_roundg (n' - (ll + 1))
            case measure => omega
            case rel => exact ⟨ll + 1, by omega, Nat.le_refl _, by go_num, AL2, TW5, HB5⟩
          | false =>
            have CP := Lib.hid (show ∀ X, Below wc.heap.size wc X → Calls Try.prog 23 #[TV k6 a6 n6 c6 b6 m6 d6, TV k4 a4 n4 c4 b4 m4 d4] X (Ret (.bool false) X) from fun X hb => by rw [← hv]; exact (HK.out j ll HJ.out hlt (Sb S w) X k6 a6 n6 c6 b6 m6 d6 k4 a4 n4 c4 b4 m4 d4 (L6.on hb) (L42.on hb)).1)
            have NO : v = false := HV.out.trans (allN_no _ n' ll hlt (GE.out.trans hv))
            subst NO
            clear L6 L42 AL GE hv
            go_wp2
            go_region_held3 (fun W => W.cell? ⟨g, 0, none⟩ = some (.int .i64 k6) ∧ W.cell? ⟨g, 1, none⟩ = some (.slice a6 n6 c6) ∧ W.cell? ⟨g, 2, none⟩ = some (.slice b6 m6 d6) ∧ W.cell? ⟨w.heap.size + 1, 0, none⟩ = some (.int .i64 11) ∧ W.cell? ⟨w.heap.size + 1, 1, none⟩ = some (.slice (some ⟨g4, o4, none⟩) n' c') ∧ W.cell? ⟨w.heap.size + 1, 2, none⟩ = some (.slice (some ⟨gN, oN, none⟩) n' d') ∧ W.cell? ⟨g4, o4 + ll * 3, none⟩ = some (.int .i64 k4) ∧ W.cell? ⟨g4, o4 + ll * 3 + 1, none⟩ = some (.slice a4 n4 c4) ∧ W.cell? ⟨g4, o4 + ll * 3 + 2, none⟩ = some (.slice b4 m4 d4))
              (first | (simp [go_sem]; done) | (repeat' (first | (with_reducible assumption) | (with_reducible exact Y1) | (with_reducible refine kc9 ?_ (by with_reducible assumption)) | (with_reducible refine kc9d ?_) | (with_reducible refine kc9n (by with_reducible assumption) _ ?_ ?_ ?_) | (with_reducible refine kc9a ?_ _) | (with_reducible refine kc9s ?_ ?_ ?_ ?_ _) | (show _ ≠ _; (try dsimp only); omega) | (show _ < _; (try dsimp only); (try simp only [World.size_alloc, World.size_drew]); omega))))
              (first
                | (go_at_call 23; (with_reducible refine (CP.out _ ?_).mono ?_); (· (repeat' (first | (with_reducible assumption) | (with_reducible exact Below.refl _ _) | (with_reducible refine Below.drew ?_) | (with_reducible refine ballD1 ?_ _) | (with_reducible refine Below.set1 ?_ _ _ ?_ _) | (show _ ≤ _; (try simp only [World.size_alloc, World.size_drew]); omega)))); rintro e w5 ⟨rfl, hb5⟩))
            go_wp2
            go_ret
            exact ⟨rfl, bstep (Below.drew HB2.out) hb5⟩
      · have AT := Lib.hid (show ∀ X, Below wr.heap.size wr X → Calls Try.prog 19 #[TV 11 a n c b n d, .string s] X (RetTO (Sb S w) T.zero false X) from fun X hb => at_no (Sb S w) X 11 a n c b n d A ((H1.out.on HB.out).on hb) s (fun i hi e => hh ((hasN_iff _ _ _).2 ⟨i, hi, e.trans hs⟩)))
        have NO : v = false := HV.out.trans (allN_no _ n' ll hlt (by simp only [hh, Bool.false_and]))
        subst NO
        clear hh hs
        go_wp2
        go_cut [6, 7] (fun p q W => ∃ (g : Nat) (k6 : Int) (a6 : Option Addr) (n6 c6 : Nat) (b6 : Option Addr) (m6 d6 : Nat), p = .pointer (some ⟨g, 0, none⟩) ∧ q = .bool false ∧ (W.cell? ⟨g, 0, none⟩ = some (.int .i64 k6) ∧ W.cell? ⟨g, 1, none⟩ = some (.slice a6 n6 c6) ∧ W.cell? ⟨g, 2, none⟩ = some (.slice b6 m6 d6)) ∧ Lies (Sb S w) W (TV k6 a6 n6 c6 b6 m6 d6) T.zero ∧ Below wr.heap.size wr W ∧ wr.heap.size ≤ g)
        case first =>
          go_region_held3 (fun W => W.cell? ⟨w.heap.size, 0, none⟩ = some (.int .i64 11) ∧ W.cell? ⟨w.heap.size, 1, none⟩ = some (.slice a n c) ∧ W.cell? ⟨w.heap.size, 2, none⟩ = some (.slice b n d) ∧ W.cell? ⟨w.heap.size + 1, 0, none⟩ = some (.int .i64 11) ∧ W.cell? ⟨w.heap.size + 1, 1, none⟩ = some (.slice (some ⟨g4, o4, none⟩) n' c') ∧ W.cell? ⟨w.heap.size + 1, 2, none⟩ = some (.slice (some ⟨gN, oN, none⟩) n' d') ∧ W.cell? ⟨gN, oN + ll, none⟩ = some (.string s))
            (first | (simp [go_sem]; done) | (repeat' (first | (with_reducible assumption) | (with_reducible exact Y0) | (with_reducible exact Yr) | (with_reducible refine kc7 ?_ (by with_reducible assumption)) | (with_reducible refine kc7d ?_) | (with_reducible refine kc7n (by with_reducible assumption) _ ?_ ?_ ?_) | (with_reducible refine kc7a ?_ _) | (with_reducible refine kc7s ?_ ?_ ?_ ?_ _) | (show _ ≠ _; (try dsimp only); omega) | (show _ < _; (try dsimp only); (try simp only [World.size_alloc, World.size_drew]); omega))))
            (first
              | (go_at_call 19; (with_reducible refine (AT.out _ ?_).mono ?_); (· (repeat' (first | (with_reducible assumption) | (with_reducible exact Below.refl _ _) | (with_reducible refine Below.drew ?_) | (with_reducible refine ballD1 ?_ _) | (with_reducible refine Below.set1 ?_ _ _ ?_ _) | (show _ ≤ _; (try simp only [World.size_alloc, World.size_drew]); omega)))); rintro e w5 ⟨k6, a6, n6, c6, b6, m6, d6, rfl, L6, hb5⟩; have sz5 := hb5.size; (try simp only [World.size_alloc, World.size_drew] at sz5); obtain ⟨hc5, hf5⟩ := bcell (bundrew hb5); have z5_0 : w.heap.size < w5.heap.size := (by omega); have z5_1 : w.heap.size + 1 < w5.heap.size := (by omega); (try (refine (fun (y5_0 : wr.heap.size < w5.heap.size) => ?_) ?_; rotate_left; (· omega)))))
          all_goals
            go_wp2_with fail
            go_meet
            case rel =>
              refine ⟨_, k6, a6, n6, c6, b6, m6, d6, rfl, rfl, ⟨?_, ?_, ?_⟩, ?_, ?_, ?_⟩
              · simp [go_sem, *]
              · simp [go_sem, *]
              · simp [go_sem, *]
              · repeat' (first | (with_reducible exact L6) | (with_reducible refine Lies.alloc ?_ _) | (with_reducible refine Lies.set ?_ _ _ _ (not_sb (by omega))))
              · (repeat' (first | (with_reducible assumption) | (with_reducible exact Below.refl _ _) | (with_reducible refine Below.drew ?_) | (with_reducible refine ballD1 ?_ _) | (with_reducible refine Below.set1 ?_ _ _ ?_ _) | (show _ ≤ _; (try simp only [World.size_alloc, World.size_drew]); omega) | (refine bstep ?_ hb5)))
              · (try simp only [World.size_alloc, World.size_drew]); omega
        case rest =>
          obtain ⟨g, k6, a6, n6, c6, b6, m6, d6, rfl, rfl, ⟨x0, x1, x2⟩, L6, BW, gw⟩ := hcut
          have HB2 := Lib.hid (bstep HB.out BW)
          clear y0 y1 y2 y3 y4 y5 u0 u1 u2 nc Y0 Yr AT TW HB BW L4 L6
          go_wp2
          go_region
          go_wp2
          go_ret
          exact ⟨rfl, HB2.out.drew⟩
    · obtain rfl : ll = n' := by omega
      have e := HV.out
      rw [AL.out] at e
      subst e
      go_wp2
      go_ret
      exact ⟨rfl, HB.out⟩
end Go.Proofs.Ytielmfchbgajnaa

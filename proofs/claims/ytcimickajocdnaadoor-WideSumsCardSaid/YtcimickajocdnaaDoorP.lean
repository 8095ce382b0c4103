/-
  The statement WideMuls, walked: it answers true.
-/
import Derived.Test.YtcimickajocdnaaDoorN
import Derived.Test.YtcimickajocdnaaDoorR9
import Derived.Deep.DeepCutAuto
namespace Go.Proofs.YtcimickajocdnaaDoor
open Go.RowKit

theorem keep_cell {W w' : World} {g o : Nat} {v : Value} (h : W.cell? ⟨g, o, none⟩ = some v) (hb : Below W.heap.size W w') : w'.cell? ⟨g, o, none⟩ = some v := by
  refine (hb.cell (p := ⟨g, o, none⟩) ?_).trans h
  rcases Nat.lt_or_ge g W.heap.size with x | x
  · exact x
  · rw [World.cell?, Array.getElem?_eq_none x] at h; cases h
theorem keep4 {W w' : World} {g1 o1 g2 o2 g3 o3 g4 o4 : Nat} {v1 v2 v3 v4 : Value} (hb : Below W.heap.size W w') (h : W.cell? ⟨g1, o1, none⟩ = some v1 ∧ W.cell? ⟨g2, o2, none⟩ = some v2 ∧ W.cell? ⟨g3, o3, none⟩ = some v3 ∧ W.cell? ⟨g4, o4, none⟩ = some v4) :
    w'.cell? ⟨g1, o1, none⟩ = some v1 ∧ w'.cell? ⟨g2, o2, none⟩ = some v2 ∧ w'.cell? ⟨g3, o3, none⟩ = some v3 ∧ w'.cell? ⟨g4, o4, none⟩ = some v4 :=
  ⟨keep_cell h.1 hb, keep_cell h.2.1 hb, keep_cell h.2.2.1 hb, keep_cell h.2.2.2 hb⟩
theorem keep10 {W w' : World} {g1 o1 g2 o2 g3 o3 g4 o4 g5 o5 g6 o6 g7 o7 g8 o8 g9 o9 g10 o10 : Nat} {v1 v2 v3 v4 v5 v6 v7 v8 v9 v10 : Value} (hb : Below W.heap.size W w') (h : W.cell? ⟨g1, o1, none⟩ = some v1 ∧ W.cell? ⟨g2, o2, none⟩ = some v2 ∧ W.cell? ⟨g3, o3, none⟩ = some v3 ∧ W.cell? ⟨g4, o4, none⟩ = some v4 ∧ W.cell? ⟨g5, o5, none⟩ = some v5 ∧ W.cell? ⟨g6, o6, none⟩ = some v6 ∧ W.cell? ⟨g7, o7, none⟩ = some v7 ∧ W.cell? ⟨g8, o8, none⟩ = some v8 ∧ W.cell? ⟨g9, o9, none⟩ = some v9 ∧ W.cell? ⟨g10, o10, none⟩ = some v10) :
    w'.cell? ⟨g1, o1, none⟩ = some v1 ∧ w'.cell? ⟨g2, o2, none⟩ = some v2 ∧ w'.cell? ⟨g3, o3, none⟩ = some v3 ∧ w'.cell? ⟨g4, o4, none⟩ = some v4 ∧ w'.cell? ⟨g5, o5, none⟩ = some v5 ∧ w'.cell? ⟨g6, o6, none⟩ = some v6 ∧ w'.cell? ⟨g7, o7, none⟩ = some v7 ∧ w'.cell? ⟨g8, o8, none⟩ = some v8 ∧ w'.cell? ⟨g9, o9, none⟩ = some v9 ∧ w'.cell? ⟨g10, o10, none⟩ = some v10 :=
  ⟨keep_cell h.1 hb, keep_cell h.2.1 hb, keep_cell h.2.2.1 hb, keep_cell h.2.2.2.1 hb, keep_cell h.2.2.2.2.1 hb, keep_cell h.2.2.2.2.2.1 hb, keep_cell h.2.2.2.2.2.2.1 hb, keep_cell h.2.2.2.2.2.2.2.1 hb, keep_cell h.2.2.2.2.2.2.2.2.1 hb, keep_cell h.2.2.2.2.2.2.2.2.2 hb⟩
theorem balloc {w W : World} (h : Below w.heap.size w W) (o : Obj) : Below w.heap.size w (W.alloc o) := h.alloc h.size o
theorem Row.alloc {W : World} {v : Value} {l : List Nat} (h : Row W v l) (o : Obj) : Row (W.alloc o) v l := h.below ((Below.refl _ _).alloc (Nat.le_refl _) o)
theorem Row.drew {W : World} {v : Value} {l : List Nat} (h : Row W v l) : Row W.drew v l := h
theorem Row.undrew {W : World} {v : Value} {l : List Nat} (h : Row W.drew v l) : Row W v l := h

theorem words1_any (g x : Nat) (hx : x < 18446744073709551616) (w : World) (hc : w.cell? ⟨g, 0, none⟩ = some (.int .u64 (x : Int))) : Calls Tryd.prog 26 #[.slice (some ⟨g, 0, none⟩) 1 1] w (RetRow (Dg.dg x) w) := by
  have C := words_any g [x] 1 (Nat.le_of_ble_eq_true rfl) (by intro y hy; simp at hy; subst hy; exact hx) w (by
    rcases Nat.lt_or_ge g w.heap.size with y | y
    · exact y
    · rw [World.cell?, Array.getElem?_eq_none y] at hc; cases hc) (by
    intro k hk
    have : k = 0 := by simp at hk; omega
    subst this
    exact hc)
  rw [wv1] at C
  exact C

theorem n200 {h l : Nat} (a : WW h l) : (Dg.dg (nv h l)).length ≤ 40 := by
  have := nv_lt a
  exact Dg.dg_length_le (Nat.lt_of_lt_of_le this (by decide +kernel))

set_option maxRecDepth 100000 in
set_option maxHeartbeats 16000000 in
theorem wideMuls_walk (ah al bh bl x : Nat) (h1 : WW ah al) (h2 : WW bh bl) (hx : x < 18446744073709551616) (w : World) (ht : Tab w) :
    Calls Tryd.prog 4 #[U ah al, U bh bl, .int .u64 (x : Int)] w (RetB true w) := by
  have HT := Lib.hid ht
  clear ht
  go_enter Tryd.func4, Tryd.ntmps4
  go_wp2_with fail
  refine (awake_any _ (HT.out.below (by go_grown))).mono ?_
  rintro e w1 ⟨rfl, hb1⟩
  have A0 := Lib.hid (Holds2.below (by simp [Holds2, go_sem]) hb1 : Holds2 w1 w.heap.size ah al)
  have A1 := Lib.hid (Holds2.below (by simp [Holds2, go_sem]) hb1 : Holds2 w1 (w.heap.size + 1) bh bl)
  have B1 : Below w.heap.size w w1 := bstep (by go_grown) hb1
  have S1 := B1.size
  clear hb1 HT
  obtain ⟨a1, a2, a3, a4, a5⟩ := A0.out
  obtain ⟨b1, b2, b3, b4, b5⟩ := A1.out
  go_wp2_with fail
  refine (mul_any ah al bh bl h1 h2 _).mono ?_
  rintro e w2 ⟨h, l, h', l', ⟨g1, g2, g3⟩, rfl, hb2⟩
  have G3 := Lib.hid g3
  have C0 := Lib.hid (A0.out.below hb2)
  have C1 := Lib.hid (A1.out.below hb2)
  have B2 : Below w.heap.size w w2 := bstep B1 hb2
  have S2 := B2.size
  clear hb2 A0 A1 g3 a1 a2 a3 a4 a5 b1 b2 b3 b4 b5
  obtain ⟨a1, a2, a3, a4, a5⟩ := C0.out
  obtain ⟨_, a6, a7, a8, a9⟩ := lots a5
  go_wp2_with fail
  refine (mulWord_any ah al x h1 hx _).mono ?_
  rintro e w3 ⟨o, wh, wl, ⟨m1, m2, m3⟩, rfl, hb3⟩
  have M3 := Lib.hid m3
  have D0 := Lib.hid (((C0.out.alloc _).alloc _).below hb3)
  have D1 := Lib.hid (((C1.out.alloc _).alloc _).below hb3)
  have D2 := Lib.hid (((Holds2.new2 rfl).alloc _ : Holds2 _ w2.heap.size h l).below hb3)
  have D3 := Lib.hid ((Holds2.new2 (by simp) : Holds2 _ (w2.heap.size + 1) h' l').below hb3)
  have B3 : Below w.heap.size w w3 := bstep (by go_grown) hb3
  have S3 := B3.size
  clear hb3 C0 C1 m3 a1 a2 a3 a4 a5 a6 a7 a8 a9
  have E0 := D0.out.alloc (.cells #[.int .u64 (wh : Int), .int .u64 (wl : Int)] 24)
  have E1 := D1.out.alloc (.cells #[.int .u64 (wh : Int), .int .u64 (wl : Int)] 24)
  have E2 := D2.out.alloc (.cells #[.int .u64 (wh : Int), .int .u64 (wl : Int)] 24)
  have E3 := D3.out.alloc (.cells #[.int .u64 (wh : Int), .int .u64 (wl : Int)] 24)
  have E4 : Holds2 (w3.alloc (.cells #[.int .u64 (wh : Int), .int .u64 (wl : Int)] 24)) w3.heap.size wh wl := Holds2.new2 rfl
  have B4 := B3.alloc B3.size (.cells #[.int .u64 (wh : Int), .int .u64 (wl : Int)] 24)
  clear D0 D1 D2 D3 B3 S3 B2 S2 B1 S1
  go_wp2
  generalize w3.alloc (.cells #[.int .u64 (wh : Int), .int .u64 (wl : Int)] 24) = W0 at *
  obtain ⟨a1, a2, _, _, _⟩ := E0
  obtain ⟨b1, b2, _, _, _⟩ := E1
  obtain ⟨c1, c2, _, _, _⟩ := E2
  obtain ⟨d1, d2, _, _, _⟩ := E3
  obtain ⟨e1, e2, _, _, _⟩ := E4
  have HB4 := Lib.hid B4
  have L1 := Lib.hid (n200 h1)
  have L2 := Lib.hid (n200 h2)
  have L3 := Lib.hid (n200 m2)
  have L4 := Lib.hid (Dg.dg_length_le (show x < 10 ^ 20 by omega))
  have m1' := Lib.hid m1
  have q1 : nv ah al < 10 ^ 40 := Nat.lt_of_lt_of_le (nv_lt h1) (by decide +kernel)
  have q2 : nv bh bl < 10 ^ 40 := Nat.lt_of_lt_of_le (nv_lt h2) (by decide +kernel)
  have K2 := Lib.hid (Nat.le_trans (dg_mul_len q1 q2).1 (by decide) : (Dg.dg (nv ah al * nv bh bl)).length ≤ 20000)
  have K1 := Lib.hid (by rw [G3.out]; exact K2.out : (Dg.dg (nv2 h l h' l')).length ≤ 20000)
  have K3 := Lib.hid (Nat.le_trans (dg_mul_len (show o < 10 ^ 20 by omega) (pow2_lt (show 128 ≤ 256 by decide))).1 (by decide) : (Dg.dg (o * 2 ^ 128)).length ≤ 20000)
  have K5 := Lib.hid (Nat.le_trans (dg_mul_len q1 (show x < 10 ^ 20 by omega)).1 (by decide) : (Dg.dg (nv ah al * x)).length ≤ 20000)
  have K4 := Lib.hid (by rw [show nv wh wl + o * 2 ^ 128 = nv ah al * x from M3.out]; exact K5.out : (Dg.dg (nv wh wl + o * 2 ^ 128)).length ≤ 20000)
  clear q1 q2
  have hx' := Lib.hid hx
  clear B4 m1 hx
  go_region_held3 (fun w' => w'.cell? ⟨w.heap.size, 0, none⟩ = some (.int .u64 (ah : Int)) ∧ w'.cell? ⟨w.heap.size, 1, none⟩ = some (.int .u64 (al : Int)) ∧ w'.cell? ⟨w.heap.size + 1, 0, none⟩ = some (.int .u64 (bh : Int)) ∧ w'.cell? ⟨w.heap.size + 1, 1, none⟩ = some (.int .u64 (bl : Int)) ∧ w'.cell? ⟨w2.heap.size, 0, none⟩ = some (.int .u64 (h : Int)) ∧ w'.cell? ⟨w2.heap.size, 1, none⟩ = some (.int .u64 (l : Int)) ∧ w'.cell? ⟨w2.heap.size + 1, 0, none⟩ = some (.int .u64 (h' : Int)) ∧ w'.cell? ⟨w2.heap.size + 1, 1, none⟩ = some (.int .u64 (l' : Int)) ∧ w'.cell? ⟨w3.heap.size, 0, none⟩ = some (.int .u64 (wh : Int)) ∧ w'.cell? ⟨w3.heap.size, 1, none⟩ = some (.int .u64 (wl : Int)))
    (first | assumption | exact keep10 (by assumption) (by assumption) | exact keep10 ((Below.refl _ _).alloc (Nat.le_refl _) _) (by assumption) | exact ⟨a1, a2, b1, b2, c1, c2, d1, d2, e1, e2⟩)
    (first
      | (go_at_call 18; refine (Two_any h l h' l' g1 g2 _).mono ?_; rintro e wT ⟨vT, rfl, RT, hbT⟩)
      | (go_at_call 16; refine (N_any _ _ ?_ _).mono ?_; assumption; rintro e wN ⟨vN, rfl, RN, hbN⟩)
      | (go_at_call 25; refine (rmul_any _ _ (nv ah al) (nv bh bl) ?_ ?_ _ ?_ ?_).mono ?_; (have := L1.out; omega); (have := L2.out; omega); (repeat' (first | (with_reducible assumption) | (with_reducible refine Row.drew ?_) | (with_reducible refine Row.alloc ?_ _) | (with_reducible refine Row.below ?_ (by with_reducible assumption)))); (repeat' (first | (with_reducible assumption) | (with_reducible refine Row.drew ?_) | (with_reducible refine Row.alloc ?_ _) | (with_reducible refine Row.below ?_ (by with_reducible assumption)))); rintro e wM ⟨vM, rfl, RM, hbM⟩)
      | (go_at_call 20; refine (same_any _ _ (nv2 h l h' l') (nv ah al * nv bh bl) ?_ ?_ _ ?_ ?_ G3.out).mono ?_; exact K1.out; exact K2.out; (repeat' (first | (with_reducible assumption) | (with_reducible refine Row.drew ?_) | (with_reducible refine Row.alloc ?_ _) | (with_reducible refine Row.below ?_ (by with_reducible assumption)))); (repeat' (first | (with_reducible assumption) | (with_reducible refine Row.drew ?_) | (with_reducible refine Row.alloc ?_ _) | (with_reducible refine Row.below ?_ (by with_reducible assumption)))); rintro e wS ⟨rfl, hbS⟩)
      | (go_at_call 22; refine (over_any o 128 m1'.out (by omega) _).mono ?_; rintro e wO ⟨vO, rfl, RO, hbO⟩)
      | (go_at_call 21; refine (radd_any _ _ (Dg.dg (nv wh wl)) (Dg.dg (o * 2 ^ 128)) ?_ ?_ (Dg.dg_lt _) (Dg.dg_lt _) _ ?_ ?_).mono ?_; (have := L3.out; omega); exact K3.out; (repeat' (first | (with_reducible assumption) | (with_reducible refine Row.drew ?_) | (with_reducible refine Row.alloc ?_ _) | (with_reducible refine Row.below ?_ (by with_reducible assumption)))); (repeat' (first | (with_reducible assumption) | (with_reducible refine Row.drew ?_) | (with_reducible refine Row.alloc ?_ _) | (with_reducible refine Row.below ?_ (by with_reducible assumption)))); rintro e wA ⟨vA, rfl, RA, hbA⟩; rw [Dg.val_dg, Dg.val_dg] at RA)
      | (go_at_call 26; refine (words1_any _ x hx'.out _ ?_).mono ?_; (repeat' (first | (simp [go_sem]; done) | (refine keep_cell ?_ (by assumption)))); rintro e wW ⟨vW, rfl, RW, hbW⟩)
      | (go_at_call 25; refine (rmul_any _ _ (nv ah al) x ?_ ?_ _ ?_ ?_).mono ?_; (have := L1.out; omega); (have := L4.out; omega); (repeat' (first | (with_reducible assumption) | (with_reducible refine Row.drew ?_) | (with_reducible refine Row.alloc ?_ _) | (with_reducible refine Row.below ?_ (by with_reducible assumption)))); (repeat' (first | (with_reducible assumption) | (with_reducible refine Row.drew ?_) | (with_reducible refine Row.alloc ?_ _) | (with_reducible refine Row.below ?_ (by with_reducible assumption)))); rintro e wM ⟨vM, rfl, RM, hbM⟩)
      | (go_at_call 20; refine (same_any _ _ (nv wh wl + o * 2 ^ 128) (nv ah al * x) ?_ ?_ _ ?_ ?_ M3.out).mono ?_; exact K4.out; exact K5.out; (repeat' (first | (with_reducible assumption) | (with_reducible refine Row.drew ?_) | (with_reducible refine Row.alloc ?_ _) | (with_reducible refine Row.below ?_ (by with_reducible assumption)))); (repeat' (first | (with_reducible assumption) | (with_reducible refine Row.drew ?_) | (with_reducible refine Row.alloc ?_ _) | (with_reducible refine Row.below ?_ (by with_reducible assumption)))); rintro e wS ⟨rfl, hbS⟩)
      | (go_at_call 27; refine (of_any x _).mono ?_; rintro e wF ⟨rfl, o1, rfl⟩))
  all_goals
    go_wp2
    go_ret
    refine ⟨rfl, ?_⟩
    repeat' (first | (with_reducible exact HB4.out) | (with_reducible refine Below.drew ?_) | (with_reducible refine balloc ?_ _) | (with_reducible refine bstep ?_ (by with_reducible assumption)))
end Go.Proofs.YtcimickajocdnaaDoor

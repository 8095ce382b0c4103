/-
  A number without its last digits (Cut of package dec), as a contract of its call.
-/
import Derived.Test.YtkkddflclakphaaDoorE5
namespace Go.Proofs.YtkkddflclakphaaDoor
open Go.RowKit

def RetW (F : Bool → Nat → Nat → Nat → Nat → Int → Bool → Prop) (w : World) (e : Ending) (w' : World) : Prop := ∃ neg h l h' l' x more, F neg h l h' l' x more ∧ e = .returned (Wv neg h l h' l' x more) ∧ Below w.heap.size w w'

theorem HoldsW.drew {W : World} {g : Nat} {neg more : Bool} {h l h' l' : Nat} {e : Int} (H : HoldsW W g neg h l h' l' e more) : HoldsW W.drew g neg h l h' l' e more := H
theorem HoldsW.far {W : World} {g : Nat} {neg more : Bool} {h l h' l' : Nat} {e : Int} (H : HoldsW W g neg h l h' l' e more) {p : Addr} (hp : g ≠ p.block) (u : Value) : HoldsW (W.setCell p u) g neg h l h' l' e more := by
  obtain ⟨⟨a, b, c, d, i, j, k⟩, ⟨a', b', c', d', i', j', k'⟩, s⟩ := H
  have q : (W.setCell p u).heap[g]? = W.heap[g]? := Below.heap_setCell W p u g hp
  exact ⟨⟨(World.cell?_of_block (a := ⟨g, 0, none⟩) q).trans a, (World.cell?_of_block (a := ⟨g, 1, none⟩) q).trans b, (World.cell?_of_block (a := ⟨g, 2, none⟩) q).trans c, (World.cell?_of_block (a := ⟨g, 3, none⟩) q).trans d, (World.cell?_of_block (a := ⟨g, 4, none⟩) q).trans i, (World.cell?_of_block (a := ⟨g, 5, none⟩) q).trans j, (World.cell?_of_block (a := ⟨g, 6, none⟩) q).trans k⟩, ⟨(World.frozen?_of_block (a := ⟨g, 0, none⟩) q).trans a', (World.frozen?_of_block (a := ⟨g, 1, none⟩) q).trans b', (World.frozen?_of_block (a := ⟨g, 2, none⟩) q).trans c', (World.frozen?_of_block (a := ⟨g, 3, none⟩) q).trans d', (World.frozen?_of_block (a := ⟨g, 4, none⟩) q).trans i', (World.frozen?_of_block (a := ⟨g, 5, none⟩) q).trans j', (World.frozen?_of_block (a := ⟨g, 6, none⟩) q).trans k'⟩, by simpa [World.setCell] using s⟩

theorem ballD {w W : World} (h : Below w.heap.size w W) (o : Obj) : Below w.heap.size w (W.alloc o) := h.alloc h.size o
theorem odd_word {h l h' l' : Nat} : nv2 h l h' l' % 2 = l' % 2 := by
  unfold nv2
  have e : nv h l * B128 % 2 = 0 := by rw [Nat.mul_mod, show B128 % 2 = 0 by decide, Nat.mul_zero, Nat.zero_mod]
  rw [Nat.add_mod, e, Nat.zero_add, Nat.mod_mod]
  unfold nv
  omega
/-- What was dropped, as the program tells it. -/
theorem dropF_eq {N n : Nat} {more : Bool} {N' d : Nat} {m : Bool} (h : DropF N n more N' d m) : N' = N / 10 ^ n ∧ d = dropD N n ∧ m = dropM N n more := by
  obtain ⟨a, b, c⟩ := h
  unfold dropD dropM
  rcases Nat.eq_zero_or_pos n with z | z
  · obtain ⟨b1, b2⟩ := b z
    refine ⟨a, by rw [if_pos z, b1], ?_⟩
    rw [b2, z, show 0 - 1 = 0 from rfl, Nat.pow_zero, Nat.mod_one]
    simp
  · obtain ⟨c1, c2⟩ := c z
    exact ⟨a, by rw [if_neg (by omega), c1], c2⟩

theorem sum_one {ah al bh bl h l h' l' c : Nat} (s : Sum2F ah al bh bl 0 0 0 1 h l h' l' c) (hq : nv2 ah al bh bl + 1 < B128 * B128) : nv2 h l h' l' = nv2 ah al bh bl + 1 := by
  obtain ⟨_, _, _, e⟩ := s
  rw [show nv 0 0 = 0 by decide, show nv 0 1 = 1 by decide, Nat.zero_mul, Nat.zero_add] at e
  unfold nv2 at hq ⊢
  exact over_none _ _ c _ e hq

set_option maxRecDepth 100000 in
set_option maxHeartbeats 4000000 in
theorem cut_any (m : Nat) (hm : m = 1 ∨ m = 2 ∨ m = 3 ∨ m = 4 ∨ m = 5 ∨ m = 6 ∨ m = 7) (neg : Bool) (ah al bh bl : Nat) (x : Int) (more : Bool) (n : Nat) (h1 : WW ah al) (h2 : WW bh bl) (hn : n ≤ 500000000000000) (x1 : -400000000000000 ≤ x) (x2 : x ≤ 400000000000000)
    (hq : nv2 ah al bh bl / 10 ^ min n 78 + 1 < B128 * B128) (w : World) (ht : Tab w) :
    Calls Tryd.prog 67 #[Wv neg ah al bh bl x more, .int .i64 (n : Int), .int .i64 (m : Int)] w
      (RetW (fun neg' h l h' l' x' more' => neg' = neg ∧ WW h l ∧ WW h' l' ∧ nv2 h l h' l' = cutN m neg (nv2 ah al bh bl) n more ∧ x' = x + (n : Int) ∧ more' = false) w) := by
  have HT := Lib.hid ht
  have DR := Lib.hid (drop_any neg ah al bh bl x more n h1 h2)
  have GU := Lib.hid (fun b o d r W => goesUp_any m hm b o d r W)
  have HQ := Lib.hid hq
  obtain ⟨C, hC⟩ : ∃ C, C = cutN m neg (nv2 ah al bh bl) n more := ⟨_, rfl⟩
  rw [← hC]
  have HC := Lib.hid hC
  unfold cutN upN at HC
  generalize nv2 ah al bh bl = N at *
  have hmax : max (n : Int) 0 = (n : Int) := by omega
  have e1 : IntKind.i64.wrap (x + (n : Int)) = x + (n : Int) := by rw [IntKind.wrap_i64]; omega
  have n63 : (n : Int) ≤ 9223372036854775807 := by omega
  have N63 := Lib.hid n63
  clear ht h1 h2 hq hm n63 hC hn x1 x2
  go_enter Tryd.func67, Tryd.ntmps67
  go_wp2_with fail
  have B0 : Below w.heap.size w ((w.alloc (.cells #[.bool neg, .int .u64 (ah : Int), .int .u64 (al : Int), .int .u64 (bh : Int), .int .u64 (bl : Int), .int .i64 x, .bool more] 72)).alloc (.cells #[.bool false, .int .u64 0, .int .u64 0, .int .u64 0, .int .u64 0, .int .i64 0, .bool false] 72)) := by go_grown
  have D0 := Lib.hid (show HoldsW ((w.alloc (.cells #[.bool neg, .int .u64 (ah : Int), .int .u64 (al : Int), .int .u64 (bh : Int), .int .u64 (bl : Int), .int .i64 x, .bool more] 72)).alloc (.cells #[.bool false, .int .u64 0, .int .u64 0, .int .u64 0, .int .u64 0, .int .i64 0, .bool false] 72)) w.heap.size neg ah al bh bl x more from by simp [HoldsW, go_sem])
  have D1 := Lib.hid (show HoldsW ((w.alloc (.cells #[.bool neg, .int .u64 (ah : Int), .int .u64 (al : Int), .int .u64 (bh : Int), .int .u64 (bl : Int), .int .i64 x, .bool more] 72)).alloc (.cells #[.bool false, .int .u64 0, .int .u64 0, .int .u64 0, .int .u64 0, .int .i64 0, .bool false] 72)) (w.heap.size + 1) false 0 0 0 0 0 false from by simp [HoldsW, go_sem])
  refine (DR.out _ (HT.out.below B0) N63.out).mono ?_
  rintro e w1 ⟨ch, cl, dh, dl, d, r, F, rfl, hb1⟩
  have B1 : Below w.heap.size w w1 := bstep B0 hb1
  replace D0 := Lib.hid (D0.out.below hb1)
  replace D1 := Lib.hid (D1.out.below hb1)
  obtain ⟨f1, f2, f3⟩ := F
  obtain ⟨q1, q2, q3⟩ := dropF_eq f3
  rw [← q1, ← q2, ← q3, odd_word] at HC
  rw [← q1] at HQ
  have HF := Lib.hid (And.intro f1 f2)
  clear hb1 B0 DR f1 f2 f3 q1 q2 q3 N63 HT
  obtain ⟨⟨a1, a2, a3, a4, a5, a6, a7⟩, ⟨a8, a9, a10, a11, a12, a13, a14⟩, a15⟩ := D0.out
  obtain ⟨⟨b1, b2, b3, b4, b5, b6, b7⟩, ⟨b8, b9, b10, b11, b12, b13, b14⟩, b15⟩ := D1.out
  have z1 : w.heap.size < w1.heap.size + 1 := by omega
  have z2 : w.heap.size < w1.heap.size + 1 + 1 := by omega
  have z3 : w.heap.size < w1.heap.size + 1 + 1 + 1 := by omega
  clear a8 a9 a10 a11 a12 a13 a14 b1 b2 b3 b4 b5 b6 b7 b8 b9 b10 b11 b12 b13 b14
  go_upto_region 3 with fail
  obtain ⟨o, ho⟩ : ∃ o : Nat, o = dl % 2 := ⟨_, rfl⟩
  rw [← ho] at HC
  have r1 : Int.tmod (dl : Int) 2 = (o : Int) := by rw [Int.tmod_eq_emod_of_nonneg (by omega)]; omega
  have r2 : (dl : Int) % 2 = (o : Int) := by omega
  obtain ⟨ob, hob⟩ : ∃ ob : Bool, ob = decide (o = 1) := ⟨_, rfl⟩
  rw [← hob] at HC
  have r3 : ((o : Int) == 1) = ob := by
    rw [hob]
    by_cases y : o = 1
    · rw [decide_eq_true y, y]; rfl
    · rw [decide_eq_false y, beq_eq_false_iff_ne]; omega
  clear ho hob
  have N7 := Lib.hid (show Holds2 (((w1.alloc (.cells #[.int .u64 (ch : Int), .int .u64 (cl : Int)] 31)).alloc (.cells #[.int .u64 (dh : Int), .int .u64 (dl : Int)] 31)).alloc (.cells #[.int .u64 (d : Int), .bool r] 118)) w1.heap.size ch cl from ((Holds2.new2 rfl).alloc _).alloc _)
  have N8 := Lib.hid (show Holds2 (((w1.alloc (.cells #[.int .u64 (ch : Int), .int .u64 (cl : Int)] 31)).alloc (.cells #[.int .u64 (dh : Int), .int .u64 (dl : Int)] 31)).alloc (.cells #[.int .u64 (d : Int), .bool r] 118)) (w1.heap.size + 1) dh dl from (Holds2.new2 (by simp)).alloc _)
  replace B1 : Below w.heap.size w (((w1.alloc (.cells #[.int .u64 (ch : Int), .int .u64 (cl : Int)] 31)).alloc (.cells #[.int .u64 (dh : Int), .int .u64 (dl : Int)] 31)).alloc (.cells #[.int .u64 (d : Int), .bool r] 118)) := ((B1.alloc B1.size _).alloc (by have := B1.size; simp; omega) _).alloc (by have := B1.size; simp; omega) _
  have z4 : w1.heap.size + 1 < w1.heap.size + 1 + 1 := by omega
  have zz : w.heap.size + 1 < w1.heap.size := b15
  go_wp2_with fail
  refine (GU.out neg ob d r _).mono ?_
  rintro e w2 ⟨rfl, hb2⟩
  have B2 : Below w.heap.size w w2 := bstep B1 hb2
  have C0 := Lib.hid ((((D0.out.alloc _).alloc _).alloc _).below hb2)
  have C1 := Lib.hid ((((D1.out.alloc _).alloc _).alloc _).below hb2)
  have C7 := Lib.hid (N7.out.below hb2)
  have C8 := Lib.hid (N8.out.below hb2)
  clear hb2 B1 D0 D1 N7 N8 a1 a2 a3 a4 a5 a6 a7 z1 z2 z3 r1 r2 r3 GU
  generalize goUp m neg ob d r = u at *
  obtain ⟨c1, c2, c3, c4, c5⟩ := C7.out
  obtain ⟨d1, d2, d3, d4, d5⟩ := C8.out
  go_upto_if 27 with fail
  go_cut [7, 8] (fun p q W => ∃ ih il jh jl, p = .pointer (some ⟨w1.heap.size, 0, none⟩) ∧ q = .pointer (some ⟨w1.heap.size + 1, 0, none⟩) ∧ WW ih il ∧ WW jh jl ∧ nv2 ih il jh jl = C ∧ Holds2 W w1.heap.size ih il ∧ Holds2 W (w1.heap.size + 1) jh jl ∧
    HoldsW W w.heap.size neg ah al bh bl x more ∧ HoldsW W (w.heap.size + 1) false 0 0 0 0 0 false ∧ Below w.heap.size w W)
  case first =>
    cases u
    · go_wp2
      go_meet
      case rel => exact ⟨ch, cl, dh, dl, rfl, rfl, HF.out.1, HF.out.2, by rw [HC.out, if_neg (by decide), Nat.add_zero], C7.out, C8.out, C0.out, C1.out, B2⟩
    · go_upto_region 4 with fail
      have y1 : w1.heap.size < w2.heap.size + 1 := by omega
      have y2 : w1.heap.size + 1 < w2.heap.size + 1 := by omega
      go_region_with
        (first
          | (go_at_call 30; refine (wof_any 1 _).mono ?_; rintro e w' ⟨rfl, o1, rfl⟩)
          | (go_at_call 66; refine (add2_any ch cl dh dl 0 0 0 1 HF.out.1 HF.out.2 ww0 ⟨by decide, by decide⟩ _).mono ?_; rintro e w3 ⟨ih, il, jh, jl, k, S, rfl, hb3⟩;
             have R7 := Lib.hid (Holds2.below (by repeat' (first | (with_reducible exact C7.out) | (with_reducible refine Holds2.alloc ?_ _) | (with_reducible refine Holds2.drew ?_))) hb3 : Holds2 w3 w1.heap.size ch cl);
             have R8 := Lib.hid (Holds2.below (by repeat' (first | (with_reducible exact C8.out) | (with_reducible refine Holds2.alloc ?_ _) | (with_reducible refine Holds2.drew ?_))) hb3 : Holds2 w3 (w1.heap.size + 1) dh dl);
             have R0 := Lib.hid (HoldsW.below (by repeat' (first | (with_reducible exact C0.out) | (with_reducible refine HoldsW.alloc ?_ _) | (with_reducible refine HoldsW.drew ?_))) hb3 : HoldsW w3 w.heap.size neg ah al bh bl x more);
             have R1 := Lib.hid (HoldsW.below (by repeat' (first | (with_reducible exact C1.out) | (with_reducible refine HoldsW.alloc ?_ _) | (with_reducible refine HoldsW.drew ?_))) hb3 : HoldsW w3 (w.heap.size + 1) false 0 0 0 0 0 false);
             have BB := Lib.hid (bstep (w := w) (by repeat' (first | (with_reducible exact B2) | (with_reducible refine ballD ?_ _) | (with_reducible refine Below.drew ?_))) hb3 : Below w.heap.size w w3);
             obtain ⟨p1, p2, p3, p4, p5⟩ := R7.out; obtain ⟨q1, q2, q3, q4, q5⟩ := R8.out; clear hb3))
      all_goals
        have SS := Lib.hid S
        clear S
        go_wp2
        go_meet
        case rel => 
          refine ⟨ih, il, jh, jl, rfl, rfl, SS.out.1, SS.out.2.1, ?_, ?_, ?_, ?_, ?_, ?_⟩
          · rw [HC.out, if_pos trivial]
            exact sum_one SS.out HQ.out
          · exact Holds2.far (Holds2.far (Holds2.put R7.out) (by show _ ≠ _; dsimp only; omega) _) (by show _ ≠ _; dsimp only; omega) _
          · exact Holds2.put (Holds2.far (Holds2.far R8.out (by show _ ≠ _; dsimp only; omega) _) (by show _ ≠ _; dsimp only; omega) _)
          · exact HoldsW.far (HoldsW.far (HoldsW.far (HoldsW.far R0.out (by show _ ≠ _; dsimp only; omega) _) (by show _ ≠ _; dsimp only; omega) _) (by show _ ≠ _; dsimp only; omega) _) (by show _ ≠ _; dsimp only; omega) _
          · exact HoldsW.far (HoldsW.far (HoldsW.far (HoldsW.far R1.out (by show _ ≠ _; dsimp only; omega) _) (by show _ ≠ _; dsimp only; omega) _) (by show _ ≠ _; dsimp only; omega) _) (by show _ ≠ _; dsimp only; omega) _
          · exact Below.setCell (Below.setCell (Below.setCell (Below.setCell BB.out (by dsimp only; omega) _) (by dsimp only; omega) _) (by dsimp only; omega) _) (by dsimp only; omega) _
  case rest =>
    obtain ⟨ih, il, jh, jl, rfl, rfl, F1, F2, F3, A7, A8, A0, A1, HB⟩ := hcut
    have G1 := Lib.hid F1
    have G2 := Lib.hid F2
    have G3 := Lib.hid F3
    clear c1 c2 c3 c4 c5 d1 d2 d3 d4 d5 C0 C1 C7 C8 F1 F2 F3 B2 HF HC HQ
    obtain ⟨⟨a1, a2, a3, a4, a5, a6, a7⟩, ⟨a8, a9, a10, a11, a12, a13, a14⟩, a16⟩ := A0
    obtain ⟨⟨b1, b2, b3, b4, b5, b6, b7⟩, ⟨b8, b9, b10, b11, b12, b13, b14⟩, b16⟩ := A1
    obtain ⟨c1, c2, c3, c4, c5⟩ := A7
    obtain ⟨d1, d2, d3, d4, d5⟩ := A8
    go_wp2
    refine bodyPost_ret (v := Wv neg ih il jh jl (x + (n : Int)) false) (by simp [results, Tryd.results67, go_sem, *]) rfl ⟨_, _, _, _, _, _, _, ⟨rfl, G1.out, G2.out, G3.out, rfl, rfl⟩, rfl, ?_⟩
    clear a1 a2 a3 a4 a5 a6 a7 a8 a9 a10 a11 a12 a13 a14 a15 a16 b1 b2 b3 b4 b5 b6 b7 b8 b9 b10 b11 b12 b13 b14 b15 b16 c1 c2 c3 c4 c5 d1 d2 d3 d4 d5
    go_grown
end Go.Proofs.YtkkddflclakphaaDoor

/-
  A number of 256 bits without its last digits (drop of package dec), as a contract of its call.
-/
import Derived.Test.YtkkddflclakphaaDoorE2
import Derived.Deep.DeepCutAuto
namespace Go.Proofs.YtkkddflclakphaaDoor
open Go.RowKit

/-- A number that is not rounded yet: sign, size of 256 bits, exponent, and a little more. -/
abbrev Wv (neg : Bool) (h l h' l' : Nat) (e : Int) (more : Bool) : Value := .agg #[.bool neg, .int .u64 (h : Int), .int .u64 (l : Int), .int .u64 (h' : Int), .int .u64 (l' : Int), .int .i64 e, .bool more]
/-- The two cells of a block hold what was dropped. -/
def HoldsRm (W : World) (g d : Nat) (m : Bool) : Prop := W.cell? ⟨g, 0, none⟩ = some (.int .u64 (d : Int)) ∧ W.cell? ⟨g, 1, none⟩ = some (.bool m) ∧ W.frozen? ⟨g, 0, none⟩ = false ∧ W.frozen? ⟨g, 1, none⟩ = false ∧ g < W.heap.size
theorem HoldsRm.below {W w1 : World} {g d : Nat} {m : Bool} (H : HoldsRm W g d m) (hb : Below W.heap.size W w1) : HoldsRm w1 g d m := by
  obtain ⟨a, b, c, d, e⟩ := H
  exact ⟨(hb.cell e).trans a, (hb.cell e).trans b, (hb.frozen e).trans c, (hb.frozen e).trans d, Nat.lt_of_lt_of_le e hb.size⟩
theorem HoldsRm.alloc {W : World} {g d : Nat} {m : Bool} (H : HoldsRm W g d m) (o : Obj) : HoldsRm (W.alloc o) g d m := H.below ((Below.refl _ _).alloc (Nat.le_refl _) o)
theorem HoldsRm.far {W : World} {g d : Nat} {m : Bool} (H : HoldsRm W g d m) {p : Addr} (hp : g ≠ p.block) (u : Value) : HoldsRm (W.setCell p u) g d m := by
  obtain ⟨a, b, c, d, e⟩ := H
  have k : (W.setCell p u).heap[g]? = W.heap[g]? := Below.heap_setCell W p u g hp
  exact ⟨(World.cell?_of_block (a := ⟨g, 0, none⟩) k).trans a, (World.cell?_of_block (a := ⟨g, 1, none⟩) k).trans b, (World.frozen?_of_block (a := ⟨g, 0, none⟩) k).trans c, (World.frozen?_of_block (a := ⟨g, 1, none⟩) k).trans d, by simpa [World.setCell] using e⟩

/-- What is left of the size N without its last n digits, and what these were. -/
def DropF (N n : Nat) (more : Bool) (N' d : Nat) (m : Bool) : Prop :=
  N' = N / 10 ^ n ∧ (n = 0 → d = 0 ∧ m = more) ∧ (0 < n → d = N / 10 ^ (n - 1) % 10 ∧ m = (more || decide (N % 10 ^ (n - 1) ≠ 0)))

theorem drop_step {N j k q r : Nat} {more m : Bool} (hm : m = (more || decide (N % 10 ^ j ≠ 0))) (e : q * 10 ^ k + r = N / 10 ^ j) (hr : r < 10 ^ k) :
    q = N / 10 ^ (j + k) ∧ (m || decide (r ≠ 0)) = (more || decide (N % 10 ^ (j + k) ≠ 0)) := by
  have hq : N / 10 ^ j / 10 ^ k = q := by rw [← e, Nat.add_comm, Nat.add_mul_div_right _ _ (Nat.pow_pos (by decide)), Nat.div_eq_of_lt hr, Nat.zero_add]
  have hrr : N / 10 ^ j % 10 ^ k = r := by rw [← e, Nat.add_comm, Nat.add_mul_mod_self_right, Nat.mod_eq_of_lt hr]
  refine ⟨by rw [Nat.pow_add, ← Nat.div_div_eq_div_mul, hq], ?_⟩
  have z : (N % 10 ^ (j + k) ≠ 0) ↔ (N % 10 ^ j ≠ 0 ∨ r ≠ 0) := by
    rw [Nat.pow_add, Nat.mod_mul, hrr]
    have hp : 0 < 10 ^ j := Nat.pow_pos (by decide)
    constructor
    · intro h
      by_cases a : N % 10 ^ j = 0
      · right
        intro b
        apply h
        rw [a, b, Nat.mul_zero]
      · exact .inl a
    · rintro (h | h)
      · omega
      · have := Nat.mul_pos hp (Nat.pos_of_ne_zero h)
        omega
  rw [hm]
  cases more
  · simp only [Bool.false_or]
    by_cases a : N % 10 ^ j ≠ 0
    · rw [decide_eq_true a, decide_eq_true (z.2 (.inl a))]; rfl
    · by_cases b : r ≠ 0
      · rw [decide_eq_true b, decide_eq_true (z.2 (.inr b)), Bool.or_true]
      · rw [decide_eq_false a, decide_eq_false b, decide_eq_false (fun h => (z.1 h).elim a b)]; rfl
  · rfl

/-- Where the loop stands: j digits are gone. -/
def DropRel (w : World) (g7 g8 g9 N n0 : Nat) (more : Bool) (k : Nat) (n : Value) (W : World) : Prop :=
  ∃ j h l h' l' : Nat, ∃ m : Bool, n = .int .i64 (k : Int) ∧ j + k = n0 ∧ (j = 0 ∨ 0 < k) ∧ WW h l ∧ WW h' l' ∧ nv2 h l h' l' = N / 10 ^ j ∧ m = (more || decide (N % 10 ^ j ≠ 0)) ∧
    Holds2 W g7 h l ∧ Holds2 W g8 h' l' ∧ HoldsRm W g9 0 m ∧ Holds2 W (w.heap.size + 1) 0 0 ∧ Holds2 W (w.heap.size + 1 + 1) 0 0 ∧ HoldsRm W (w.heap.size + 1 + 1 + 1) 0 false ∧ Below w.heap.size w W

def RetUUR (F : Nat → Nat → Nat → Nat → Nat → Bool → Prop) (w : World) (e : Ending) (w' : World) : Prop :=
  ∃ h l h' l' d m, F h l h' l' d m ∧ e = .returned (.tuple #[U h l, U h' l', Rm d m]) ∧ Below w.heap.size w w'

set_option maxRecDepth 100000 in
set_option maxHeartbeats 8000000 in
theorem drop_any (neg : Bool) (ah al bh bl : Nat) (x : Int) (more : Bool) (n : Nat) (h1 : WW ah al) (h2 : WW bh bl) (w : World) (ht : Tab w) (hn : (n : Int) ≤ 9223372036854775807) :
    Calls Tryd.prog 91 #[Wv neg ah al bh bl x more, .int .i64 (n : Int)] w (RetUUR (fun h l h' l' d m => WW h l ∧ WW h' l' ∧ DropF (nv2 ah al bh bl) (min n 78) more (nv2 h l h' l') d m) w) := by
  have HT := Lib.hid ht
  have H1 := Lib.hid h1
  have H2 := Lib.hid h2
  obtain ⟨n0, hn0⟩ : ∃ n0 : Nat, n0 = min n 78 := ⟨_, rfl⟩
  obtain ⟨N, hN⟩ : ∃ N : Nat, N = nv2 ah al bh bl := ⟨_, rfl⟩
  rw [← hn0, ← hN]
  have n78 : n0 ≤ 78 := by omega
  have hmin : min (n : Int) 78 = (n0 : Int) := by omega
  have HN := Lib.hid hN
  clear ht h1 h2 hn0 hN
  go_enter Tryd.func91, Tryd.ntmps91
  go_upto_region 1 with fail
  go_cut [7, 8, 9] (fun p q r W => ∃ g7 g8 g9 : Nat, p = .pointer (some ⟨g7, 0, none⟩) ∧ q = .pointer (some ⟨g8, 0, none⟩) ∧ r = .pointer (some ⟨g9, 0, none⟩) ∧ (w.heap.size + 1 + 1 + 1 < g7 ∧ w.heap.size + 1 + 1 + 1 < g8 ∧ w.heap.size + 1 + 1 + 1 < g9 ∧ g7 ≠ g8 ∧ g7 ≠ g9 ∧ g8 ≠ g9) ∧
    Holds2 W g7 ah al ∧ Holds2 W g8 bh bl ∧ HoldsRm W g9 0 more ∧ Holds2 W (w.heap.size + 1) 0 0 ∧ Holds2 W (w.heap.size + 1 + 1) 0 0 ∧ HoldsRm W (w.heap.size + 1 + 1 + 1) 0 false ∧ Below w.heap.size w W)
  case first =>
    go_region
    all_goals
      go_wp2_with fail
      go_meet
      case rel =>
        refine ⟨_, _, _, rfl, rfl, rfl, ?_, ?_, ?_, ?_, ?_, ?_, ?_, ?_⟩
        · omega
        · simp [Holds2, go_sem]
        · simp [Holds2, go_sem]
        · simp [HoldsRm, go_sem]
        · simp [Holds2, go_sem]
        · simp [Holds2, go_sem]
        · simp [HoldsRm, go_sem]
        · go_grown
  case rest =>
    obtain ⟨g7, g8, g9, rfl, rfl, rfl, ⟨y1, y2, y3, y4, y5, y6⟩, A7, A8, A9, A4, A5, A6, HB⟩ := hcut
    have G := Lib.hid (show DropRel w g7 g8 g9 N n0 more n0 (.int .i64 (n0 : Int)) wc from ⟨0, ah, al, bh, bl, more, rfl, by omega, .inl rfl, H1.out, H2.out, by rw [Nat.pow_zero, Nat.div_one, HN.out], by rw [Nat.pow_zero, Nat.mod_one]; simp, A7, A8, A9, A4, A5, A6, HB⟩)
    clear A7 A8 A9 A4 A5 A6 HB H1 H2
    go_wp2
    go_loopg [1] n0 (fun k n W => DropRel w g7 g8 g9 N n0 more k n W)
    case atStart => exact G.out
    case round =>
      clear G
      obtain ⟨j, h, l, h', l', m, rfl, hj, hk, w1, w2, hv, hm, A7, A8, A9, A4, A5, A6, HB⟩ := hrel
      have W1 := Lib.hid w1
      have W2 := Lib.hid w2
      have HV := Lib.hid hv
      have HM := Lib.hid hm
      have HJ := Lib.hid hj
      have HK := Lib.hid hk
      have k78 : gk ≤ 78 := by omega
      clear w1 w2 hv hm hj hk
      obtain ⟨a1, a2, a3, a4, a5⟩ := id A7
      obtain ⟨b1, b2, b3, b4, b5⟩ := id A8
      rcases Nat.lt_or_ge 1 gk with big | small
      · obtain ⟨kk, hkk⟩ : ∃ kk : Nat, kk = min (gk - 1) 19 := ⟨_, rfl⟩
        have kk19 : kk ≤ 19 := by omega
        have hmin2 : min ((gk : Int) - 1) 19 = (kk : Int) := by omega
        have t1 : decide (1 < (gk : Int)) = true := decide_eq_true (by omega)
        have kg : kk < gk := by omega
        have kp : 0 < kk := by omega
        clear hkk big
        go_wp2_with fail
        refine (ten_low kk kk19 _ (HT.out.below HB)).mono ?_
        rintro e v1 ⟨th, tl, P, rfl, hb1⟩
        obtain ⟨e1, e2⟩ : th = 0 ∧ tl = 10 ^ kk := by
          have p1 := P.2
          have p2 := ten_word kk19
          unfold nv at p1
          omega
        subst e1
        obtain ⟨T, hT⟩ : ∃ T : Nat, T = 10 ^ kk := ⟨_, rfl⟩
        have T1 : 0 < T := by rw [hT]; exact Nat.pow_pos (by decide)
        have T2 := Lib.hid (show T < 18446744073709551616 by rw [hT]; exact ten_word kk19)
        rw [← hT] at e2
        subst e2
        have HTT := Lib.hid hT
        have C7 := Lib.hid (A7.below hb1)
        have C8 := Lib.hid (A8.below hb1)
        have C9 := Lib.hid (A9.below hb1)
        have C4 := Lib.hid (A4.below hb1)
        have C5 := Lib.hid (A5.below hb1)
        have C6 := Lib.hid (A6.below hb1)
        have HB1 : Below w.heap.size w v1 := bstep HB hb1
        clear hb1 P hT a1 a2 a3 a4 a5 b1 b2 b3 b4 b5 A7 A8 A9 A4 A5 A6 HB
        obtain ⟨a1, a2, a3, a4, a5⟩ := C7.out
        obtain ⟨b1, b2, b3, b4, b5⟩ := C8.out
        have z1 : g7 < v1.heap.size + 1 := by omega
        have z2 : g8 < v1.heap.size + 1 := by omega
        go_wp2_with fail
        refine (divWord_any h l h' l' tl W1.out W2.out T1 T2.out _).mono ?_
        rintro e v2 ⟨qh, ql, q2h, q2l, r, F, rfl, hb2⟩
        obtain ⟨f1, f2, f3, f4⟩ := F
        have ST := Lib.hid (drop_step HM.out (by rw [← HTT.out, f4]; exact HV.out) (by rw [← HTT.out]; exact f3))
        have F1 := Lib.hid f1
        have F2 := Lib.hid f2
        replace C7 := Lib.hid ((C7.out.alloc _).below hb2)
        replace C8 := Lib.hid ((C8.out.alloc _).below hb2)
        replace C9 := Lib.hid ((C9.out.alloc _).below hb2)
        replace C4 := Lib.hid ((C4.out.alloc _).below hb2)
        replace C5 := Lib.hid ((C5.out.alloc _).below hb2)
        replace C6 := Lib.hid ((C6.out.alloc _).below hb2)
        have HB2 : Below w.heap.size w v2 := bstep (HB1.alloc HB1.size _) hb2
        clear hb2 f1 f2 f3 f4 a1 a2 a3 a4 a5 b1 b2 b3 b4 b5 HB1 z1 z2 T1
        obtain ⟨a1, a2, a3, a4, a5⟩ := C7.out
        obtain ⟨b1, b2, b3, b4, b5⟩ := C8.out
        obtain ⟨c1, c2, c3, c4, c5⟩ := C9.out
        have wsub : IntKind.i64.wrap ((gk : Int) - (kk : Int)) = ((gk - kk : Nat) : Int) := by rw [IntKind.wrap_i64]; omega
        have esub : (gk : Int) - (kk : Int) = ((gk - kk : Nat) : Int) := by omega
        cases m
        · by_cases r0 : r = 0
          · subst r0
            go_wp2
            go_roundg (gk - kk)
            case measure => omega
            case rel =>
              refine ⟨j + kk, qh, ql, q2h, q2l, false, rfl, by have := HJ.out; omega, .inr (by omega), F1.out, F2.out, ST.out.1, by rw [← ST.out.2]; rfl, ?_, ?_, ?_, ?_, ?_, ?_, ?_⟩
              · exact Holds2.far (Holds2.far (Holds2.far (Holds2.put C7.out) (by show _ ≠ _; dsimp only; omega) _) (by show _ ≠ _; dsimp only; omega) _) (by show _ ≠ _; dsimp only; omega) _
              · exact Holds2.far (Holds2.put (Holds2.far (Holds2.far C8.out (by show _ ≠ _; dsimp only; omega) _) (by show _ ≠ _; dsimp only; omega) _)) (by show _ ≠ _; dsimp only; omega) _
              · simp [HoldsRm, go_sem, *]
              · exact Holds2.far (Holds2.far (Holds2.far (Holds2.far (Holds2.far C4.out (by show _ ≠ _; dsimp only; omega) _) (by show _ ≠ _; dsimp only; omega) _) (by show _ ≠ _; dsimp only; omega) _) (by show _ ≠ _; dsimp only; omega) _) (by show _ ≠ _; dsimp only; omega) _
              · exact Holds2.far (Holds2.far (Holds2.far (Holds2.far (Holds2.far C5.out (by show _ ≠ _; dsimp only; omega) _) (by show _ ≠ _; dsimp only; omega) _) (by show _ ≠ _; dsimp only; omega) _) (by show _ ≠ _; dsimp only; omega) _) (by show _ ≠ _; dsimp only; omega) _
              · exact HoldsRm.far (HoldsRm.far (HoldsRm.far (HoldsRm.far (HoldsRm.far C6.out (by show _ ≠ _; dsimp only; omega) _) (by show _ ≠ _; dsimp only; omega) _) (by show _ ≠ _; dsimp only; omega) _) (by show _ ≠ _; dsimp only; omega) _) (by show _ ≠ _; dsimp only; omega) _
              · clear a1 a2 a3 a4 b1 b2 b3 b4 c1 c2 c3 c4
                go_grown
          · have t3 : ((r : Int) != 0) = true := by rw [bne_iff_ne]; omega
            have R0 := Lib.hid r0
            clear r0
            go_wp2
            go_roundg (gk - kk)
            case measure => omega
            case rel =>
              refine ⟨j + kk, qh, ql, q2h, q2l, true, rfl, by have := HJ.out; omega, .inr (by omega), F1.out, F2.out, ST.out.1, by rw [← ST.out.2, decide_eq_true R0.out]; rfl, ?_, ?_, ?_, ?_, ?_, ?_, ?_⟩
              · exact Holds2.far (Holds2.far (Holds2.far (Holds2.put C7.out) (by show _ ≠ _; dsimp only; omega) _) (by show _ ≠ _; dsimp only; omega) _) (by show _ ≠ _; dsimp only; omega) _
              · exact Holds2.far (Holds2.put (Holds2.far (Holds2.far C8.out (by show _ ≠ _; dsimp only; omega) _) (by show _ ≠ _; dsimp only; omega) _)) (by show _ ≠ _; dsimp only; omega) _
              · simp [HoldsRm, go_sem, *]
              · exact Holds2.far (Holds2.far (Holds2.far (Holds2.far (Holds2.far C4.out (by show _ ≠ _; dsimp only; omega) _) (by show _ ≠ _; dsimp only; omega) _) (by show _ ≠ _; dsimp only; omega) _) (by show _ ≠ _; dsimp only; omega) _) (by show _ ≠ _; dsimp only; omega) _
              · exact Holds2.far (Holds2.far (Holds2.far (Holds2.far (Holds2.far C5.out (by show _ ≠ _; dsimp only; omega) _) (by show _ ≠ _; dsimp only; omega) _) (by show _ ≠ _; dsimp only; omega) _) (by show _ ≠ _; dsimp only; omega) _) (by show _ ≠ _; dsimp only; omega) _
              · exact HoldsRm.far (HoldsRm.far (HoldsRm.far (HoldsRm.far (HoldsRm.far C6.out (by show _ ≠ _; dsimp only; omega) _) (by show _ ≠ _; dsimp only; omega) _) (by show _ ≠ _; dsimp only; omega) _) (by show _ ≠ _; dsimp only; omega) _) (by show _ ≠ _; dsimp only; omega) _
              · clear a1 a2 a3 a4 b1 b2 b3 b4 c1 c2 c3 c4
                go_grown
        ·
          go_wp2
          go_roundg (gk - kk)
          case measure => omega
          case rel =>
            refine ⟨j + kk, qh, ql, q2h, q2l, true, rfl, by have := HJ.out; omega, .inr (by omega), F1.out, F2.out, ST.out.1, by rw [← ST.out.2]; rfl, ?_, ?_, ?_, ?_, ?_, ?_, ?_⟩
            · exact Holds2.far (Holds2.far (Holds2.far (Holds2.put C7.out) (by show _ ≠ _; dsimp only; omega) _) (by show _ ≠ _; dsimp only; omega) _) (by show _ ≠ _; dsimp only; omega) _
            · exact Holds2.far (Holds2.put (Holds2.far (Holds2.far C8.out (by show _ ≠ _; dsimp only; omega) _) (by show _ ≠ _; dsimp only; omega) _)) (by show _ ≠ _; dsimp only; omega) _
            · simp [HoldsRm, go_sem, *]
            · exact Holds2.far (Holds2.far (Holds2.far (Holds2.far (Holds2.far C4.out (by show _ ≠ _; dsimp only; omega) _) (by show _ ≠ _; dsimp only; omega) _) (by show _ ≠ _; dsimp only; omega) _) (by show _ ≠ _; dsimp only; omega) _) (by show _ ≠ _; dsimp only; omega) _
            · exact Holds2.far (Holds2.far (Holds2.far (Holds2.far (Holds2.far C5.out (by show _ ≠ _; dsimp only; omega) _) (by show _ ≠ _; dsimp only; omega) _) (by show _ ≠ _; dsimp only; omega) _) (by show _ ≠ _; dsimp only; omega) _) (by show _ ≠ _; dsimp only; omega) _
            · exact HoldsRm.far (HoldsRm.far (HoldsRm.far (HoldsRm.far (HoldsRm.far C6.out (by show _ ≠ _; dsimp only; omega) _) (by show _ ≠ _; dsimp only; omega) _) (by show _ ≠ _; dsimp only; omega) _) (by show _ ≠ _; dsimp only; omega) _) (by show _ ≠ _; dsimp only; omega) _
            · clear a1 a2 a3 a4 b1 b2 b3 b4 c1 c2 c3 c4
              go_grown
      · have t1 : decide (1 < (gk : Int)) = false := decide_eq_false (by omega)
        rcases Nat.eq_zero_or_pos gk with z | z
        · subst z
          have j0 : j = 0 := by have := HK.out; omega
          have n00 : n0 = 0 := by have := HJ.out; omega
          have DF := Lib.hid (show DropF N n0 more (nv2 h l h' l') 0 m from by
            rw [n00]
            have v := HV.out
            have q := HM.out
            rw [j0] at v q
            refine ⟨v, fun _ => ⟨rfl, ?_⟩, fun h => absurd h (by decide)⟩
            rw [q, Nat.pow_zero, Nat.mod_one]
            simp)
          have WA := Lib.hid W1.out
          have WB := Lib.hid W2.out
          obtain ⟨c1, c2, c3, c4, c5⟩ := A9
          obtain ⟨d1, d2, d3, d4, d5⟩ := A4
          obtain ⟨e1, e2, e3, e4, e5⟩ := A5
          obtain ⟨f1, f2, f3, f4, f5⟩ := A6
          clear j0 n00 HV HM HJ HK
          go_wp2
          go_region
          all_goals
            go_wp2
            refine bodyPost_ret (v := .tuple #[U h l, U h' l', Rm 0 m]) (by simp [results, Tryd.results91, go_sem, *]) rfl ⟨_, _, _, _, _, _, ⟨WA.out, WB.out, DF.out⟩, rfl, ?_⟩
            clear a1 a2 a3 a4 b1 b2 b3 b4 c1 c2 c3 c4 d1 d2 d3 d4 e1 e2 e3 e4 f1 f2 f3 f4
            go_grown
        · have g1 : gk = 1 := by omega
          subst g1
          have t2 : ((1 : Nat) : Int) = 1 := rfl
          go_wp2_with fail
          refine (divWord_any h l h' l' 10 W1.out W2.out (by decide) (by decide) _).mono ?_
          rintro e v2 ⟨qh, ql, q2h, q2l, r, F, rfl, hb2⟩
          obtain ⟨p1, p2, p3, p4⟩ := F
          have DF := Lib.hid (show DropF N n0 more (nv2 qh ql q2h q2l) r m from by
            have en : n0 = j + 1 := HJ.out.symm
            have v := HV.out
            rw [en]
            refine ⟨?_, fun h => absurd h (by omega), fun _ => ⟨?_, HM.out⟩⟩
            · rw [Nat.pow_succ, ← Nat.div_div_eq_div_mul, ← v]; omega
            · rw [Nat.add_sub_cancel, ← v]; omega)
          have WA := Lib.hid p1
          have WB := Lib.hid p2
          have HB2 : Below w.heap.size w v2 := bstep HB hb2
          have C7 := Lib.hid (A7.below hb2)
          have C8 := Lib.hid (A8.below hb2)
          have C9 := Lib.hid (A9.below hb2)
          have C4 := Lib.hid (A4.below hb2)
          have C5 := Lib.hid (A5.below hb2)
          have C6 := Lib.hid (A6.below hb2)
          clear hb2 p1 p2 p3 p4 a1 a2 a3 a4 a5 b1 b2 b3 b4 b5 HB A7 A8 A9 A4 A5 A6 HV HM HJ HK W1 W2
          obtain ⟨a1, a2, a3, a4, a5⟩ := C7.out
          obtain ⟨b1, b2, b3, b4, b5⟩ := C8.out
          obtain ⟨c1, c2, c3, c4, c5⟩ := C9.out
          obtain ⟨d1, d2, d3, d4, d5⟩ := C4.out
          obtain ⟨e1, e2, e3, e4, e5⟩ := C5.out
          obtain ⟨f1, f2, f3, f4, f5⟩ := C6.out
          obtain ⟨x1, x2, x3⟩ : (w.heap.size + 1 ≠ g7 ∧ w.heap.size + 1 + 1 ≠ g7 ∧ w.heap.size + 1 + 1 + 1 ≠ g7) ∧ (w.heap.size + 1 ≠ g8 ∧ w.heap.size + 1 + 1 ≠ g8 ∧ w.heap.size + 1 + 1 + 1 ≠ g8) ∧ (w.heap.size + 1 ≠ g9 ∧ w.heap.size + 1 + 1 ≠ g9 ∧ w.heap.size + 1 + 1 + 1 ≠ g9) := by omega
          obtain ⟨x4, x5, x6⟩ := x1
          obtain ⟨x7, x8, x9⟩ := x2
          obtain ⟨x10, x11, x12⟩ := x3
          go_wp2
          go_region
          all_goals
            go_wp2
            refine bodyPost_ret (v := .tuple #[U qh ql, U q2h q2l, Rm r m]) (by simp [results, Tryd.results91, go_sem, *]) rfl ⟨_, _, _, _, _, _, ⟨WA.out, WB.out, DF.out⟩, rfl, ?_⟩
            clear a1 a2 a3 a4 b1 b2 b3 b4 c1 c2 c3 c4 d1 d2 d3 d4 e1 e2 e3 e4 f1 f2 f3 f4
            go_grown
end Go.Proofs.YtkkddflclakphaaDoor

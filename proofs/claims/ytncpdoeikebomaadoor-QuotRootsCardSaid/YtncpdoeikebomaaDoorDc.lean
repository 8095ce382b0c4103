/-
  A word of a quotient (divStep of package wide), as a contract of its call.
-/
import Derived.Test.YtncpdoeikebomaaDoorDb
namespace Go.Proofs.YtncpdoeikebomaaDoor
open Go.RowKit

/-- Where the loop stands. -/
def MendRel (w : World) (g ah al v dh dl k : Nat) (q o : Value) (W : World) : Prop :=
  ∃ Q O ph pl : Nat, q = .int .u64 (Q : Int) ∧ o = .int .u64 (O : Int) ∧ k = Q ∧ MendF ah al v dh dl Q O ph pl ∧ Holds2 W g ph pl ∧ Holds2 W (g + 1) al v ∧ Holds2 W w.heap.size ah al ∧ Holds2 W (w.heap.size + 1) dh dl ∧ Holds2 W (w.heap.size + 1 + 1) 0 0 ∧ Below w.heap.size w W

theorem wrap_less {a b : Nat} (h : b ≤ a) (k : a < 18446744073709551616) : IntKind.u64.wrap ((a : Int) - (b : Int)) = ((a - b : Nat) : Int) := by
  rw [IntKind.wrap_u64]; omega

set_option maxHeartbeats 2000000 in
theorem divStep_any (ah al v dh dl : Nat) (ha : WW ah al) (hv : v < 18446744073709551616) (hd : WW dh dl) (h : nv ah al < nv dh dl) (h0 : 0 < dh) (w : World) :
    Calls Tryd.prog 71 #[U ah al, .int .u64 (v : Int), U dh dl] w fun e w' => ∃ q rh rl : Nat, StepQ ah al v dh dl q rh rl ∧ e = .returned (.tuple #[.int .u64 (q : Int), U rh rl]) ∧ Below w.heap.size w w' := by
  have HS := Lib.hid (fun q o ph pl => @mend_start ah al v dh dl q o ph pl hv hd h h0)
  have hlo : WW al v := ⟨ha.2, hv⟩
  have HA := Lib.hid ha
  have HD := Lib.hid hd
  have HL := Lib.hid hlo
  have HG := Lib.hid (fun W => guess_any ah al dh ha hd.1 W)
  clear h h0 hv ha hd hlo
  go_enter Tryd.func71, Tryd.ntmps71
  go_wp2_with fail
  refine (HG.out _).mono ?_
  rintro e w1 ⟨q0, G, rfl, hb1⟩
  have H0 := Lib.hid ((by simp [Holds2, go_sem] : Holds2 _ w.heap.size ah al).below hb1)
  have H1 := Lib.hid ((by simp [Holds2, go_sem] : Holds2 _ (w.heap.size + 1) dh dl).below hb1)
  have H2 := Lib.hid ((by simp [Holds2, go_sem] : Holds2 _ (w.heap.size + 1 + 1) 0 0).below hb1)
  have B1 : Below w.heap.size w w1 := bstep (by go_grown) hb1
  have G1 := Lib.hid G
  clear hb1 G HG
  obtain ⟨b1, b2, b3, b4, b5⟩ := H1.out
  go_wp2_with fail
  refine (mulWord_any dh dl q0 HD.out G1.out.1 _).mono ?_
  rintro e w2 ⟨o0, ph0, pl0, M, rfl, hb2⟩
  have M0 := Lib.hid (HS.out q0 o0 ph0 pl0 G1.out M)
  have K0 := Lib.hid (H0.out.below hb2)
  have K1 := Lib.hid (H1.out.below hb2)
  have K2 := Lib.hid (H2.out.below hb2)
  have B2 : Below w.heap.size w w2 := bstep B1 hb2
  have S2 := B2.size
  clear hb2 M HS G1 H0 H1 H2 b1 b2 b3 b4 b5 B1
  obtain ⟨a1, a2, a3, a4, a5⟩ := K0.out
  have z1 : w.heap.size < w2.heap.size + 1 := by omega
  go_wp2
  go_loopg [8, 9] q0 (fun k q o W => MendRel w w2.heap.size ah al v dh dl k q o W)
  case atStart =>
    refine ⟨q0, o0, ph0, pl0, rfl, rfl, rfl, M0.out, ?_, ?_, ?_, ?_, ?_, ?_⟩
    · simp [Holds2, go_sem]
    · simp [Holds2, go_sem]
    · repeat' (first | (with_reducible exact K0.out) | (with_reducible refine Holds2.alloc ?_ _))
    · repeat' (first | (with_reducible exact K1.out) | (with_reducible refine Holds2.alloc ?_ _))
    · repeat' (first | (with_reducible exact K2.out) | (with_reducible refine Holds2.alloc ?_ _))
    · clear a1 a2 a3 a4 a5
      go_grown
  case round =>
    clear a1 a2 a3 a4 a5 K0 M0 z1
    obtain ⟨Q, O, ph, pl, rfl, rfl, rfl, M, A1, A2, A3, A4, A5, HB⟩ := hrel
    have HM := Lib.hid M
    obtain ⟨Ob, hpw⟩ : O < 18446744073709551616 ∧ WW ph pl := ⟨M.2.1, M.2.2.1⟩
    have T := mend_test HL.out M
    have HP := Lib.hid hpw
    have HO := Lib.hid Ob
    have g0 : w.heap.size + 1 + 1 < w2.heap.size := K2.out.2.2.2.2
    clear M Ob hpw K1 K2 B2
    obtain ⟨a1, a2, a3, a4, a5⟩ := id A1
    obtain ⟨b1, b2, b3, b4, b5⟩ := id A2
    obtain ⟨c1, c2, c3, c4, c5⟩ := id A3
    obtain ⟨d1, d2, d3, d4, d5⟩ := id A4
    obtain ⟨e1, e2, e3, e4, e5⟩ := id A5
    rcases T with ⟨k, T⟩ | ⟨k, T⟩
    · have Q0 : 1 ≤ gk := by
        rcases Nat.eq_zero_or_pos gk with z | z
        · rw [z, Nat.zero_mul] at k; omega
        · exact z
      have MM := Lib.hid (fun h l c => @mend_more ah al v dh dl gk O ph pl h l c HM.out k)
      have m1 : IntKind.u64.wrap ((gk : Int) - 1) = ((gk - 1 : Nat) : Int) := wrap_less Q0 HM.out.1
      clear k HM
      rcases T with T | ⟨T1, T2⟩
      · have t1 : decide (ah < O) = true := by simp; omega
        clear T
        go_wp2_with fail
        refine (sub_any ph pl dh dl HP.out HD.out _).mono ?_
        rintro e v1 ⟨h, l, c, S, rfl, hb3⟩
        obtain ⟨_, n2, n3⟩ := MM.out h l c S
        have N3 := Lib.hid n3
        have m2 : IntKind.u64.wrap ((O : Int) - (c : Int)) = ((O - c : Nat) : Int) := wrap_less n2 HO.out
        have B1 := Lib.hid (A1.below hb3)
        have B2 := Lib.hid (A2.below hb3)
        have B3 := Lib.hid (A3.below hb3)
        have B4 := Lib.hid (A4.below hb3)
        have B5 := Lib.hid (A5.below hb3)
        have HB1 : Below w.heap.size w v1 := bstep HB hb3
        clear a1 a2 a3 a4 a5 b1 b2 b3 b4 b5 c1 c2 c3 c4 c5 d1 d2 d3 d4 d5 e1 e2 e3 e4 e5 A1 A2 A3 A4 A5 hb3 n2 n3 S MM HB
        obtain ⟨a1, a2, a3, a4, a5⟩ := id B1.out
        go_wp2
        go_roundg (gk - 1)
        case measure => omega
        case rel =>
          refine ⟨gk - 1, O - c, h, l, rfl, rfl, rfl, N3.out, ?_, ?_, ?_, ?_, ?_, ?_⟩
          · exact Holds2.put B1.out
          · exact Holds2.far (Holds2.far B2.out (by show _ ≠ _; dsimp only; omega) _) (by show _ ≠ _; dsimp only; omega) _
          · exact Holds2.far (Holds2.far B3.out (by show _ ≠ _; dsimp only; omega) _) (by show _ ≠ _; dsimp only; omega) _
          · exact Holds2.far (Holds2.far B4.out (by show _ ≠ _; dsimp only; omega) _) (by show _ ≠ _; dsimp only; omega) _
          · exact Holds2.far (Holds2.far B5.out (by show _ ≠ _; dsimp only; omega) _) (by show _ ≠ _; dsimp only; omega) _
          · exact (HB1.setCell (by show w.heap.size ≤ w2.heap.size; omega) _).setCell (by show w.heap.size ≤ w2.heap.size; omega) _
      · subst T1
        have C := cmp_any ph pl al v HP.out HL.out
        rw [cmpN_gt T2] at C
        have HC := Lib.hid C
        clear T2 C
        go_wp2_with fail
        refine (HC.out _).mono ?_
        rintro e v0 ⟨rfl, hb0⟩
        have A1 := A1.below hb0
        have A2 := A2.below hb0
        have A3 := A3.below hb0
        have A4 := A4.below hb0
        have A5 := A5.below hb0
        have HB : Below w.heap.size w v0 := bstep HB hb0
        clear a1 a2 a3 a4 a5 b1 b2 b3 b4 b5 c1 c2 c3 c4 c5 d1 d2 d3 d4 d5 e1 e2 e3 e4 e5 hb0 HC
        obtain ⟨a1, a2, a3, a4, a5⟩ := id A1
        obtain ⟨b1, b2, b3, b4, b5⟩ := id A2
        obtain ⟨c1, c2, c3, c4, c5⟩ := id A3
        obtain ⟨d1, d2, d3, d4, d5⟩ := id A4
        obtain ⟨e1, e2, e3, e4, e5⟩ := id A5
        go_wp2_with fail
        refine (sub_any ph pl dh dl HP.out HD.out _).mono ?_
        rintro e v1 ⟨h, l, c, S, rfl, hb3⟩
        obtain ⟨_, n2, n3⟩ := MM.out h l c S
        have N3 := Lib.hid n3
        have m2 : IntKind.u64.wrap ((ah : Int) - (c : Int)) = ((ah - c : Nat) : Int) := wrap_less n2 HO.out
        have B1 := Lib.hid (A1.below hb3)
        have B2 := Lib.hid (A2.below hb3)
        have B3 := Lib.hid (A3.below hb3)
        have B4 := Lib.hid (A4.below hb3)
        have B5 := Lib.hid (A5.below hb3)
        have HB1 : Below w.heap.size w v1 := bstep HB hb3
        clear a1 a2 a3 a4 a5 b1 b2 b3 b4 b5 c1 c2 c3 c4 c5 d1 d2 d3 d4 d5 e1 e2 e3 e4 e5 A1 A2 A3 A4 A5 hb3 n2 n3 S MM HB
        obtain ⟨a1, a2, a3, a4, a5⟩ := id B1.out
        go_wp2
        go_roundg (gk - 1)
        case measure => omega
        case rel =>
          refine ⟨gk - 1, ah - c, h, l, rfl, rfl, rfl, N3.out, ?_, ?_, ?_, ?_, ?_, ?_⟩
          · exact Holds2.put B1.out
          · exact Holds2.far (Holds2.far B2.out (by show _ ≠ _; dsimp only; omega) _) (by show _ ≠ _; dsimp only; omega) _
          · exact Holds2.far (Holds2.far B3.out (by show _ ≠ _; dsimp only; omega) _) (by show _ ≠ _; dsimp only; omega) _
          · exact Holds2.far (Holds2.far B4.out (by show _ ≠ _; dsimp only; omega) _) (by show _ ≠ _; dsimp only; omega) _
          · exact Holds2.far (Holds2.far B5.out (by show _ ≠ _; dsimp only; omega) _) (by show _ ≠ _; dsimp only; omega) _
          · exact (HB1.setCell (by show w.heap.size ≤ w2.heap.size; omega) _).setCell (by show w.heap.size ≤ w2.heap.size; omega) _
    · have DD := Lib.hid (fun h l c => @mend_done ah al v dh dl gk O ph pl h l c HL.out HM.out k)
      clear k HM
      rcases T with T | ⟨T1, T2⟩
      · have t1 : decide (ah < O) = false := by simp; omega
        have t2 : ((O : Int) == (ah : Int)) = false := by simp; omega
        clear T
        go_wp2_with fail
        refine (sub_any al v ph pl HL.out HP.out _).mono ?_
        rintro e v1 ⟨h, l, c, S, rfl, hb3⟩
        have F := Lib.hid (DD.out h l c S)
        have HB1 : Below w.heap.size w v1 := bstep HB hb3
        have B5 := Lib.hid (A5.below hb3)
        clear a1 a2 a3 a4 a5 b1 b2 b3 b4 b5 c1 c2 c3 c4 c5 d1 d2 d3 d4 d5 e1 e2 e3 e4 e5 A1 A2 A3 A4 A5 hb3 S DD HB
        obtain ⟨e1, e2, e3, e4, e5⟩ := id B5.out
        have e6 : w.heap.size + 1 + 1 < v1.heap.size + 1 := by omega
        go_wp2
        go_region
        all_goals
          go_wp2
          refine bodyPost_ret (v := .tuple #[.int .u64 (gk : Int), U h l]) (by simp [results, Tryd.results71, go_sem, *]) rfl ⟨gk, h, l, F.out, rfl, ?_⟩
          clear e1 e2 e3 e4 e5
          go_grown
      · subst T1
        have C := cmp_any ph pl al v HP.out HL.out
        have t3 : decide (0 < cmpN (nv ph pl) (nv al v)) = false := by
          rcases cmpN_range (nv ph pl) (nv al v) with ⟨e, _⟩ | ⟨e, _⟩ | ⟨e, e'⟩
          · rw [e]; decide
          · rw [e]; decide
          · omega
        have HC := Lib.hid C
        generalize cmpN (nv ph pl) (nv al v) = cv at *
        clear T2 C
        go_wp2_with fail
        refine (HC.out _).mono ?_
        rintro e v0 ⟨rfl, hb0⟩
        have A1 := A1.below hb0
        have A2 := A2.below hb0
        have A3 := A3.below hb0
        have A4 := A4.below hb0
        have A5 := A5.below hb0
        have HB : Below w.heap.size w v0 := bstep HB hb0
        clear a1 a2 a3 a4 a5 b1 b2 b3 b4 b5 c1 c2 c3 c4 c5 d1 d2 d3 d4 d5 e1 e2 e3 e4 e5 hb0 HC
        obtain ⟨a1, a2, a3, a4, a5⟩ := id A1
        obtain ⟨b1, b2, b3, b4, b5⟩ := id A2
        obtain ⟨c1, c2, c3, c4, c5⟩ := id A3
        obtain ⟨d1, d2, d3, d4, d5⟩ := id A4
        obtain ⟨e1, e2, e3, e4, e5⟩ := id A5
        go_wp2_with fail
        refine (sub_any al v ph pl HL.out HP.out _).mono ?_
        rintro e v1 ⟨h, l, c, S, rfl, hb3⟩
        have F := Lib.hid (DD.out h l c S)
        have HB1 : Below w.heap.size w v1 := bstep HB hb3
        have B5 := Lib.hid (A5.below hb3)
        clear a1 a2 a3 a4 a5 b1 b2 b3 b4 b5 c1 c2 c3 c4 c5 d1 d2 d3 d4 d5 e1 e2 e3 e4 e5 A1 A2 A3 A4 A5 hb3 S DD HB
        obtain ⟨e1, e2, e3, e4, e5⟩ := id B5.out
        have e6 : w.heap.size + 1 + 1 < v1.heap.size + 1 := by omega
        go_wp2
        go_region
        all_goals
          go_wp2
          refine bodyPost_ret (v := .tuple #[.int .u64 (gk : Int), U h l]) (by simp [results, Tryd.results71, go_sem, *]) rfl ⟨gk, h, l, F.out, rfl, ?_⟩
          clear e1 e2 e3 e4 e5
          go_grown
end Go.Proofs.YtncpdoeikebomaaDoor

/-
  The statement ClockLater, walked: it answers true.
-/
import Derived.Test.YtbllinbafpdgjaaKc
namespace Go.Proofs.Ytbllinbafpdgjaa
open Go.RowKit

/-- What Later answers of any time. -/
theorem later_some (s : Int) (z : Bool) (o : Int) (n : Int) (hn : I64 n) : ∃ (cs : Int) (cz : Bool) (co e : Int), (∀ w : World, Calls Try.prog 15 #[Tm s z o, .int .i64 n] w (Ret (.tuple #[Tm cs cz co, .int .i64 e]) w)) ∧ (mayM s z o = false → cs = 0 ∧ cz = false ∧ co = 0 ∧ e = 0) := by
  cases h : mayM s z o
  · exact ⟨0, false, 0, 0, later_no s z o n h, fun _ => ⟨rfl, rfl, rfl, rfl⟩⟩
  · exact ⟨_, _, _, _, later_yes s z o n h hn, fun k => by cases k⟩
theorem later_back_to (S n : Int) (hn : I64 n) : wrap64 (wrap64 ((S + n) / 86400 * 86400) + wrap64 ((S + n) % 86400 - S)) = n := by
  have a := Int.emod_add_mul_ediv (S + n) 86400
  obtain ⟨_, _⟩ := hn
  unfold wrap64
  omega
set_option maxRecDepth 100000 in
set_option maxHeartbeats 4000000 in
theorem clockLater_walk (sec : Int) (z : Bool) (offset n ts : Int) (tz : Bool) (tf : Int) (hn : I64 n) (w : World) : Calls Try.prog 5 #[.int .i64 sec, .bool z, .int .i64 offset, .int .i64 n, Tm ts tz tf] w (Ret (.bool true) w) := by
  have AW := Lib.hid awake7
  have M10 := makeM_any sec z offset
  have may := makeM_may sec z offset
  generalize sec % 86400 = S at *
  generalize offM z offset = O at *
  have L10 := later_yes S z O n may hn
  have f3 := later_back_to S n hn
  have r := may_off may
  have M20 := may_any ((S + n) % 86400) z O
  have mm : mayM ((S + n) % 86400) z O = true := by
    have h1 := Int.emod_nonneg (S + n) (show (86400 : Int) ≠ 0 by decide)
    have h2 := Int.emod_lt_of_pos (S + n) (show (0 : Int) < 86400 by decide)
    unfold mayM at may ⊢
    simp only [Bool.and_eq_true, decide_eq_true_eq] at may ⊢
    exact ⟨⟨⟨⟨by omega, by omega⟩, may.1.1.2⟩, may.1.2⟩, may.2⟩
  rw [mm] at M20
  obtain ⟨cs, cz, co, e, L20, hno0⟩ := later_some ts tz tf n hn
  have M30 := may_any ts tz tf
  have hno := Lib.hid hno0
  generalize mayM ts tz tf = tm at *
  generalize (S + n) % 86400 = S' at *
  generalize (S + n) / 86400 = D at *
  obtain ⟨X, f1⟩ : ∃ X, wrap64 (D * 86400) = X := ⟨_, rfl⟩
  obtain ⟨Y, f2⟩ : ∃ Y, wrap64 (S' - S) = Y := ⟨_, rfl⟩
  rw [f1, f2] at f3
  have g1 : IntKind.i64.wrap (D * 86400) = X := by rw [IntKind.wrap_i64]; unfold wrap64 at f1; exact f1
  have g2 : IntKind.i64.wrap (S' - S) = Y := by rw [IntKind.wrap_i64]; unfold wrap64 at f2; exact f2
  have g3 : IntKind.i64.wrap (X + Y) = n := by rw [IntKind.wrap_i64]; unfold wrap64 at f3; exact f3
  have M1 := Lib.hid M10
  have M2 := Lib.hid M20
  have M3 := Lib.hid M30
  have L1 := Lib.hid L10
  have L2 := Lib.hid L20
  clear M10 M20 M30 L10 L20 hno0 mm r may hn
  go_enter Try.func5, Try.ntmps5
  go_upto_region 1 with fail
  have PT := Lib.hid (HoldsM.new rfl : HoldsM (w.alloc (TmC ts tz tf)) w.heap.size ts tz tf)
  have B : Below w.heap.size w (w.alloc (TmC ts tz tf)) := by go_grown
  change Code.wp _ _ _ _ (w.alloc (TmC ts tz tf))
  generalize w.alloc (TmC ts tz tf) = w0 at *
  obtain ⟨gt, hg⟩ : ∃ g, g = w.heap.size := ⟨_, rfl⟩
  rw [← hg] at PT ⊢
  clear hg
  obtain ⟨⟨c01, c02, c03⟩, -, c09⟩ := PT.out
  go_wp2_with fail
  refine (AW.out _).mono ?_
  rintro e w1 ⟨rfl, hb⟩
  replace PT := Lib.hid (PT.out.below hb)
  replace B := bstep B hb
  clear hb AW
  clear c01 c02 c03 c09
  obtain ⟨⟨c01, c02, c03⟩, -, c09⟩ := PT.out
  go_wp2_with fail
  refine (M1.out _).mono ?_
  rintro e w2 ⟨rfl, hb⟩
  replace PT := Lib.hid (PT.out.below hb)
  replace B := bstep B hb
  clear hb M1
  clear c01 c02 c03 c09
  replace PT := Lib.hid (PT.out.alloc (TmC S z O))
  have PA := Lib.hid (HoldsM.new rfl : HoldsM (w2.alloc (TmC S z O)) w2.heap.size S z O)
  replace B := ballD1 B (TmC S z O)
  go_upto_region 4 with fail
  change Code.wp _ _ _ _ (w2.alloc (TmC S z O))
  generalize w2.alloc (TmC S z O) = w3 at *
  obtain ⟨gPA, hg⟩ : ∃ g, g = w2.heap.size := ⟨_, rfl⟩
  rw [← hg] at PA ⊢
  clear hg
  obtain ⟨⟨c01, c02, c03⟩, -, c09⟩ := PT.out
  obtain ⟨⟨c11, c12, c13⟩, -, c19⟩ := PA.out
  go_wp2_with fail
  refine (L1.out _).mono ?_
  rintro e w4 ⟨rfl, hb⟩
  replace PT := Lib.hid (PT.out.below hb)
  replace PA := Lib.hid (PA.out.below hb)
  replace B := bstep B hb
  clear hb L1
  clear c01 c02 c03 c09 c11 c12 c13 c19
  replace PT := Lib.hid (PT.out.alloc (TmC S' z O))
  replace PA := Lib.hid (PA.out.alloc (TmC S' z O))
  have PB := Lib.hid (HoldsM.new rfl : HoldsM (w4.alloc (TmC S' z O)) w4.heap.size S' z O)
  replace B := ballD1 B (TmC S' z O)
  go_upto_region 5 with fail
  change Code.wp _ _ _ _ (w4.alloc (TmC S' z O))
  generalize w4.alloc (TmC S' z O) = w5 at *
  obtain ⟨gPB, hg⟩ : ∃ g, g = w4.heap.size := ⟨_, rfl⟩
  rw [← hg] at PB ⊢
  clear hg
  obtain ⟨⟨c01, c02, c03⟩, -, c09⟩ := PT.out
  obtain ⟨⟨c11, c12, c13⟩, -, c19⟩ := PA.out
  obtain ⟨⟨c21, c22, c23⟩, -, c29⟩ := PB.out
  go_wp2_with fail
  refine (L2.out _).mono ?_
  rintro e w6 ⟨rfl, hb⟩
  replace PT := Lib.hid (PT.out.below hb)
  replace PA := Lib.hid (PA.out.below hb)
  replace PB := Lib.hid (PB.out.below hb)
  replace B := bstep B hb
  clear hb L2
  clear c01 c02 c03 c09 c11 c12 c13 c19 c21 c22 c23 c29
  replace PT := Lib.hid (PT.out.alloc (TmC cs cz co))
  replace PA := Lib.hid (PA.out.alloc (TmC cs cz co))
  replace PB := Lib.hid (PB.out.alloc (TmC cs cz co))
  have PC := Lib.hid (HoldsM.new rfl : HoldsM (w6.alloc (TmC cs cz co)) w6.heap.size cs cz co)
  replace B := ballD1 B (TmC cs cz co)
  go_upto_region 6 with fail
  change Code.wp _ _ _ _ (w6.alloc (TmC cs cz co))
  generalize w6.alloc (TmC cs cz co) = w7 at *
  obtain ⟨gPC, hg⟩ : ∃ g, g = w6.heap.size := ⟨_, rfl⟩
  rw [← hg] at PC ⊢
  clear hg
  obtain ⟨⟨c01, c02, c03⟩, -, c09⟩ := PT.out
  obtain ⟨⟨c11, c12, c13⟩, -, c19⟩ := PA.out
  obtain ⟨⟨c21, c22, c23⟩, -, c29⟩ := PB.out
  obtain ⟨⟨c31, c32, c33⟩, -, c39⟩ := PC.out
  go_wp2_with fail
  refine (M2.out _).mono ?_
  rintro e w8 ⟨rfl, hb⟩
  replace PT := Lib.hid (PT.out.below hb)
  replace PA := Lib.hid (PA.out.below hb)
  replace PB := Lib.hid (PB.out.below hb)
  replace PC := Lib.hid (PC.out.below hb)
  replace B := bstep B hb
  clear hb M2
  clear c01 c02 c03 c09 c11 c12 c13 c19 c21 c22 c23 c29 c31 c32 c33 c39
  cases tm
  · obtain ⟨⟨c01, c02, c03⟩, -, c09⟩ := PT.out
    obtain ⟨⟨c11, c12, c13⟩, -, c19⟩ := PA.out
    obtain ⟨⟨c21, c22, c23⟩, -, c29⟩ := PB.out
    obtain ⟨⟨c31, c32, c33⟩, -, c39⟩ := PC.out
    go_wp2_with fail
    refine (M3.out _).mono ?_
    rintro e w9 ⟨rfl, hb⟩
    replace PT := Lib.hid (PT.out.below hb)
    replace PA := Lib.hid (PA.out.below hb)
    replace PB := Lib.hid (PB.out.below hb)
    replace PC := Lib.hid (PC.out.below hb)
    replace B := bstep B hb
    clear hb M3
    clear c01 c02 c03 c09 c11 c12 c13 c19 c21 c22 c23 c29 c31 c32 c33 c39
    obtain ⟨⟨c01, c02, c03⟩, -, c09⟩ := PT.out
    obtain ⟨⟨c11, c12, c13⟩, -, c19⟩ := PA.out
    obtain ⟨⟨c21, c22, c23⟩, -, c29⟩ := PB.out
    obtain ⟨⟨c31, c32, c33⟩, -, c39⟩ := PC.out
    obtain ⟨rfl, rfl, rfl, rfl⟩ := hno.out trivial
    go_wp2
    go_ret
    exact ⟨rfl, B⟩
  · obtain ⟨⟨c01, c02, c03⟩, -, c09⟩ := PT.out
    obtain ⟨⟨c11, c12, c13⟩, -, c19⟩ := PA.out
    obtain ⟨⟨c21, c22, c23⟩, -, c29⟩ := PB.out
    obtain ⟨⟨c31, c32, c33⟩, -, c39⟩ := PC.out
    go_wp2_with fail
    refine (M3.out _).mono ?_
    rintro e w9 ⟨rfl, hb⟩
    replace PT := Lib.hid (PT.out.below hb)
    replace PA := Lib.hid (PA.out.below hb)
    replace PB := Lib.hid (PB.out.below hb)
    replace PC := Lib.hid (PC.out.below hb)
    replace B := bstep B hb
    clear hb M3
    clear c01 c02 c03 c09 c11 c12 c13 c19 c21 c22 c23 c29 c31 c32 c33 c39
    obtain ⟨⟨c01, c02, c03⟩, -, c09⟩ := PT.out
    obtain ⟨⟨c11, c12, c13⟩, -, c19⟩ := PA.out
    obtain ⟨⟨c21, c22, c23⟩, -, c29⟩ := PB.out
    obtain ⟨⟨c31, c32, c33⟩, -, c39⟩ := PC.out
    go_wp2
    go_ret
    exact ⟨rfl, B⟩
end Go.Proofs.Ytbllinbafpdgjaa

/-
  Package lexical: days, times and moments read of their texts, each as a contract of its call.
-/
import Derived.Test.YthgondbiddncpaaDoorYd
namespace Go.Proofs.YthgondbiddncpaaDoor
open Go.RowKit

/-- A block holds these six numbers. -/
abbrev Ar (c0 c1 c2 c3 c4 c5 : Int) : Value := .agg #[.int .i64 c0, .int .i64 c1, .int .i64 c2, .int .i64 c3, .int .i64 c4, .int .i64 c5]
abbrev ArV (c0 c1 c2 c3 c4 c5 : Int) : Obj := .cells #[.int .i64 c0, .int .i64 c1, .int .i64 c2, .int .i64 c3, .int .i64 c4, .int .i64 c5] 58
def HoldsV (W : World) (g : Nat) (c0 c1 c2 c3 c4 c5 : Int) : Prop := (W.cell? ⟨g, 0, none⟩ = some (.int .i64 c0) ∧ W.cell? ⟨g, 1, none⟩ = some (.int .i64 c1) ∧ W.cell? ⟨g, 2, none⟩ = some (.int .i64 c2) ∧ W.cell? ⟨g, 3, none⟩ = some (.int .i64 c3) ∧ W.cell? ⟨g, 4, none⟩ = some (.int .i64 c4) ∧ W.cell? ⟨g, 5, none⟩ = some (.int .i64 c5)) ∧ (W.frozen? ⟨g, 0, none⟩ = false ∧ W.frozen? ⟨g, 1, none⟩ = false ∧ W.frozen? ⟨g, 2, none⟩ = false ∧ W.frozen? ⟨g, 3, none⟩ = false ∧ W.frozen? ⟨g, 4, none⟩ = false ∧ W.frozen? ⟨g, 5, none⟩ = false) ∧ g < W.heap.size
theorem HoldsV.below {W W' : World} {g : Nat} {c0 c1 c2 c3 c4 c5 : Int} (H : HoldsV W g c0 c1 c2 c3 c4 c5) (hb : Below W.heap.size W W') : HoldsV W' g c0 c1 c2 c3 c4 c5 := by
  obtain ⟨⟨a0, a1, a2, a3, a4, a5⟩, ⟨b0, b1, b2, b3, b4, b5⟩, k⟩ := H
  obtain ⟨hc, hf⟩ := bcell hb
  exact ⟨⟨(hc _ _ k).trans a0, (hc _ _ k).trans a1, (hc _ _ k).trans a2, (hc _ _ k).trans a3, (hc _ _ k).trans a4, (hc _ _ k).trans a5⟩, ⟨(hf _ _ k).trans b0, (hf _ _ k).trans b1, (hf _ _ k).trans b2, (hf _ _ k).trans b3, (hf _ _ k).trans b4, (hf _ _ k).trans b5⟩, Nat.lt_of_lt_of_le k hb.size⟩
theorem HoldsV.alloc {W : World} {g : Nat} {c0 c1 c2 c3 c4 c5 : Int} (H : HoldsV W g c0 c1 c2 c3 c4 c5) (x : Obj) : HoldsV (W.alloc x) g c0 c1 c2 c3 c4 c5 := H.below ((Below.refl _ _).alloc (Nat.le_refl _) x)
theorem HoldsV.drew {W : World} {g : Nat} {c0 c1 c2 c3 c4 c5 : Int} (H : HoldsV W g c0 c1 c2 c3 c4 c5) : HoldsV W.drew g c0 c1 c2 c3 c4 c5 := H
theorem HoldsV.new {W : World} {g t : Nat} {c0 c1 c2 c3 c4 c5 : Int} (hg : g = W.heap.size) : HoldsV (W.alloc (.cells #[.int .i64 c0, .int .i64 c1, .int .i64 c2, .int .i64 c3, .int .i64 c4, .int .i64 c5] t)) g c0 c1 c2 c3 c4 c5 := by
  subst hg
  simp [HoldsV, go_sem]
theorem HoldsV.far {W : World} {g : Nat} {c0 c1 c2 c3 c4 c5 : Int} (H : HoldsV W g c0 c1 c2 c3 c4 c5) {p : Addr} (hp : g ≠ p.block) (u : Value) : HoldsV (W.setCell p u) g c0 c1 c2 c3 c4 c5 := by
  obtain ⟨⟨a0, a1, a2, a3, a4, a5⟩, ⟨b0, b1, b2, b3, b4, b5⟩, k⟩ := H
  have n := Below.heap_setCell W p u g hp
  exact ⟨⟨(World.cell?_of_block (a := ⟨g, 0, none⟩) n).trans a0, (World.cell?_of_block (a := ⟨g, 1, none⟩) n).trans a1, (World.cell?_of_block (a := ⟨g, 2, none⟩) n).trans a2, (World.cell?_of_block (a := ⟨g, 3, none⟩) n).trans a3, (World.cell?_of_block (a := ⟨g, 4, none⟩) n).trans a4, (World.cell?_of_block (a := ⟨g, 5, none⟩) n).trans a5⟩, ⟨(World.frozen?_of_block (a := ⟨g, 0, none⟩) n).trans b0, (World.frozen?_of_block (a := ⟨g, 1, none⟩) n).trans b1, (World.frozen?_of_block (a := ⟨g, 2, none⟩) n).trans b2, (World.frozen?_of_block (a := ⟨g, 3, none⟩) n).trans b3, (World.frozen?_of_block (a := ⟨g, 4, none⟩) n).trans b4, (World.frozen?_of_block (a := ⟨g, 5, none⟩) n).trans b5⟩, by simpa using k⟩
theorem HoldsT.put0 {W : World} {g : Nat} {a b c y : Int} (H : HoldsT W g a b c) : HoldsT (W.setCell ⟨g, 0, none⟩ (.int .i64 y)) g y b c := by
  obtain ⟨⟨a, b, c⟩, ⟨a', b', c'⟩, s⟩ := H
  simp [HoldsT, go_sem, *]
/-- What ReadDate answers of a text. -/
def RdD (s : ByteArray) (e : Ending) : Prop := ∃ (y m d : Int) (ok : Bool), e = .returned (.tuple #[Dt y m d, .bool ok]) ∧ (ok = true → mayT y m d = true ∧ dateT y m d = s) ∧ (ok = false → y = 0 ∧ m = 0 ∧ d = 0)
def RdM (s : ByteArray) (e : Ending) : Prop := ∃ (a : Int) (z : Bool) (o : Int) (ok : Bool), e = .returned (.tuple #[Tm a z o, .bool ok]) ∧ (ok = true → mayM a z o = true ∧ timeT a z o = s) ∧ (ok = false → a = 0 ∧ z = false ∧ o = 0)
def RdN (s : ByteArray) (e : Ending) : Prop := ∃ (y m d a : Int) (z : Bool) (o : Int) (ok : Bool), e = .returned (.tuple #[Mo y m d a z o, .bool ok]) ∧ (ok = true → mayN y m d a z o = true ∧ momT y m d a z o = s) ∧ (ok = false → y = 0 ∧ m = 0 ∧ d = 0 ∧ a = 0 ∧ z = false ∧ o = 0)
theorem str_yes (s : ByteArray) : (s.toList == s.toList) = true := by simp
set_option linter.unusedSimpArgs false in
set_option linter.unusedVariables false in
set_option maxRecDepth 100000 in
set_option maxHeartbeats 4000000 in
theorem readDate_any (s : ByteArray) (hs : s.size ≤ 200000000000000) (w : World) (ht : Tab2 w) : Calls Tryd.prog 18 #[.string s] w (fun e w' => RdD s e ∧ Below w.heap.size w w') := by
  have HT := Lib.hid ht
  have NM := Lib.hid (fun w => numbers_any s hs w)
  have DT := Lib.hid (fun y m d (w : World) (a : Tab2 w) => date_any y m d w a)
  have MD := Lib.hid (fun y m d (w : World) => mayDay_any y m d w)
  obtain ⟨hp, hhp⟩ : ∃ b : Bool, b = Lib.hasPrefix s.data.toList [45] := ⟨_, rfl⟩
  have HP := Lib.hid (show ∀ w, Calls Tryd.prog 43 #[.string s, .string ⟨#[45]⟩] w (Ret (.bool hp) w) from fun w => (Tryd.strings_HasPrefix s ⟨#[45]⟩ w).mono fun e w' H => ⟨by rw [H.1, hhp], by rw [H.2]; exact Below.refl _ _⟩)
  have ES : s = s := rfl
  clear hs ht hhp ES
  cases hp
  · go_enter Tryd.func18, Tryd.ntmps18
    go_upto_region 1 with fail
    have PR := Lib.hid (HoldsT.new rfl : HoldsT (w.alloc (DtC 0 0 0)) w.heap.size 0 0 0)
    have B := ballD1 (Below.refl w.heap.size w) (DtC 0 0 0)
    change Code.wp _ _ _ _ (w.alloc (DtC 0 0 0))
    generalize (w.alloc (DtC 0 0 0)) = w0 at *
    obtain ⟨⟨c0_0, c0_1, c0_2⟩, -, c0z⟩ := PR.out
    go_wp2_with fail
    refine (NM.out _).mono ?_
    rintro e w1 ⟨⟨c0, c1, c2, c3, c4, c5, rfl⟩, hb⟩
    replace PR := Lib.hid (PR.out.below hb)
    replace B := bstep B hb
    clear hb NM
    clear c0_0 c0_1 c0_2 c0z
    replace PR := Lib.hid (PR.out.alloc (ArV c0 c1 c2 c3 c4 c5))
    have PA := Lib.hid (HoldsV.new rfl : HoldsV (w1.alloc (ArV c0 c1 c2 c3 c4 c5)) w1.heap.size c0 c1 c2 c3 c4 c5)
    replace B := ballD1 B (ArV c0 c1 c2 c3 c4 c5)
    go_upto_region 2 with fail
    change Code.wp _ _ _ _ (w1.alloc (ArV c0 c1 c2 c3 c4 c5))
    generalize w1.alloc (ArV c0 c1 c2 c3 c4 c5) = w2 at *
    obtain ⟨gPA, hg⟩ : ∃ g, g = w1.heap.size := ⟨_, rfl⟩
    rw [← hg] at PA ⊢
    clear hg
    have LE := PR.out.2.2
    obtain ⟨⟨c0_0, c0_1, c0_2⟩, -, c0z⟩ := PR.out
    obtain ⟨⟨c1_0, c1_1, c1_2, c1_3, c1_4, c1_5⟩, -, c1z⟩ := PA.out
    replace PR := Lib.hid (PR.out.alloc (DtC c0 c1 c2))
    replace PA := Lib.hid (PA.out.alloc (DtC c0 c1 c2))
    have PD := Lib.hid (HoldsT.new rfl : HoldsT (w2.alloc (DtC c0 c1 c2)) w2.heap.size c0 c1 c2)
    replace B := ballD1 B (DtC c0 c1 c2)
    go_upto_region 3 with fail
    change Code.wp _ _ _ _ (w2.alloc (DtC c0 c1 c2))
    clear c0_0 c0_1 c0_2 c0z c1_0 c1_1 c1_2 c1_3 c1_4 c1_5 c1z
    generalize w2.alloc (DtC c0 c1 c2) = w3 at *
    obtain ⟨gPD, hg⟩ : ∃ g, g = w2.heap.size := ⟨_, rfl⟩
    rw [← hg] at PD LE ⊢
    clear hg
    replace LE := Lib.hid LE
    clear PA
    obtain ⟨⟨c0_0, c0_1, c0_2⟩, -, c0z⟩ := PR.out
    obtain ⟨⟨c1_0, c1_1, c1_2⟩, -, c1z⟩ := PD.out
    go_wp2_with fail
    refine (HP.out _).mono ?_
    rintro e w4 ⟨rfl, hb⟩
    replace PR := Lib.hid (PR.out.below hb)
    replace PD := Lib.hid (PD.out.below hb)
    replace B := bstep B hb
    clear hb HP
    clear c0_0 c0_1 c0_2 c0z c1_0 c1_1 c1_2 c1z
    obtain ⟨y, hy⟩ : ∃ y : Int, y = c0 := ⟨_, rfl⟩
    rw [← hy] at PD ⊢
    clear hy
    obtain ⟨p, hp⟩ : ∃ p : Bool, p = mayT y c1 c2 := ⟨_, rfl⟩
    have MD1 := MD.out y c1 c2
    rw [← hp] at MD1
    replace MD := Lib.hid MD1
    clear MD1
    obtain ⟨T, hT⟩ : ∃ T : ByteArray, T = dateT y c1 c2 := ⟨_, rfl⟩
    have DT1 := DT.out y c1 c2
    rw [← hT] at DT1
    replace DT := Lib.hid DT1
    clear DT1
    have HX := Lib.hid (And.intro hp hT)
    clear hp hT
    cases p
    · obtain ⟨⟨c0_0, c0_1, c0_2⟩, -, c0z⟩ := PR.out
      obtain ⟨⟨c1_0, c1_1, c1_2⟩, -, c1z⟩ := PD.out
      go_wp2_with fail
      refine (MD.out _).mono ?_
      rintro e w5 ⟨rfl, hb⟩
      replace PR := Lib.hid (PR.out.below hb)
      replace PD := Lib.hid (PD.out.below hb)
      replace B := bstep B hb
      clear hb MD
      clear c0_0 c0_1 c0_2 c0z c1_0 c1_1 c1_2 c1z
      obtain ⟨⟨c0_0, c0_1, c0_2⟩, ⟨c0f0, c0f1, c0f2⟩, c0z⟩ := PR.out
      obtain ⟨⟨c1_0, c1_1, c1_2⟩, -, c1z⟩ := PD.out
      go_wp2
      refine ret_via (v := .tuple #[Dt 0 0 0, .bool false]) (fun V => HoldsT V w.heap.size 0 0 0) (fun VF hq => ?_) PR.out.put rfl ⟨⟨0, 0, 0, false, rfl, fun h => (by cases h), fun _ => ⟨rfl, rfl, rfl⟩⟩, B3 B (Nat.le_refl _) _ _ _⟩
      obtain ⟨⟨x0, x1, x2⟩, -, -⟩ := hq
      simp [results, Tryd.results18, go_sem, x0, x1, x2, *]
    · obtain ⟨⟨c0_0, c0_1, c0_2⟩, -, c0z⟩ := PR.out
      obtain ⟨⟨c1_0, c1_1, c1_2⟩, -, c1z⟩ := PD.out
      go_wp2_with fail
      refine (MD.out _).mono ?_
      rintro e w5 ⟨rfl, hb⟩
      replace PR := Lib.hid (PR.out.below hb)
      replace PD := Lib.hid (PD.out.below hb)
      replace B := bstep B hb
      clear hb MD
      clear c0_0 c0_1 c0_2 c0z c1_0 c1_1 c1_2 c1z
      obtain ⟨⟨c0_0, c0_1, c0_2⟩, -, c0z⟩ := PR.out
      obtain ⟨⟨c1_0, c1_1, c1_2⟩, -, c1z⟩ := PD.out
      go_wp2_with fail
      refine (DT.out _ (HT.out.below B)).mono ?_
      rintro e w6 ⟨rfl, hb⟩
      replace PR := Lib.hid (PR.out.below hb)
      replace PD := Lib.hid (PD.out.below hb)
      replace B := bstep B hb
      clear hb DT
      clear c0_0 c0_1 c0_2 c0z c1_0 c1_1 c1_2 c1z
      by_cases q : T = s
      · have q1 : (T.toList == s.toList) = true := by rw [q]; exact str_yes s
        have HQ := Lib.hid q
        clear q
        obtain ⟨⟨c0_0, c0_1, c0_2⟩, ⟨c0f0, c0f1, c0f2⟩, c0z⟩ := PR.out
        obtain ⟨⟨c1_0, c1_1, c1_2⟩, -, c1z⟩ := PD.out
        go_wp2
        refine ret_via (v := .tuple #[Dt y c1 c2, .bool true]) (fun V => HoldsT V w.heap.size y c1 c2) (fun VF hq => ?_) PR.out.put rfl ⟨⟨y, c1, c2, true, rfl, fun _ => ⟨HX.out.1.symm, HX.out.2.symm.trans HQ.out⟩, fun h => (by cases h)⟩, B3 B (Nat.le_refl _) _ _ _⟩
        obtain ⟨⟨x0, x1, x2⟩, -, -⟩ := hq
        simp [results, Tryd.results18, go_sem, x0, x1, x2, *]
      · have q1 : (T.toList == s.toList) = false := str_ne q
        clear q
        obtain ⟨⟨c0_0, c0_1, c0_2⟩, ⟨c0f0, c0f1, c0f2⟩, c0z⟩ := PR.out
        obtain ⟨⟨c1_0, c1_1, c1_2⟩, -, c1z⟩ := PD.out
        go_wp2
        refine ret_via (v := .tuple #[Dt 0 0 0, .bool false]) (fun V => HoldsT V w.heap.size 0 0 0) (fun VF hq => ?_) PR.out.put rfl ⟨⟨0, 0, 0, false, rfl, fun h => (by cases h), fun _ => ⟨rfl, rfl, rfl⟩⟩, B3 B (Nat.le_refl _) _ _ _⟩
        obtain ⟨⟨x0, x1, x2⟩, -, -⟩ := hq
        simp [results, Tryd.results18, go_sem, x0, x1, x2, *]
  · go_enter Tryd.func18, Tryd.ntmps18
    go_upto_region 1 with fail
    have PR := Lib.hid (HoldsT.new rfl : HoldsT (w.alloc (DtC 0 0 0)) w.heap.size 0 0 0)
    have B := ballD1 (Below.refl w.heap.size w) (DtC 0 0 0)
    change Code.wp _ _ _ _ (w.alloc (DtC 0 0 0))
    generalize (w.alloc (DtC 0 0 0)) = w0 at *
    obtain ⟨⟨c0_0, c0_1, c0_2⟩, -, c0z⟩ := PR.out
    go_wp2_with fail
    refine (NM.out _).mono ?_
    rintro e w1 ⟨⟨c0, c1, c2, c3, c4, c5, rfl⟩, hb⟩
    replace PR := Lib.hid (PR.out.below hb)
    replace B := bstep B hb
    clear hb NM
    clear c0_0 c0_1 c0_2 c0z
    replace PR := Lib.hid (PR.out.alloc (ArV c0 c1 c2 c3 c4 c5))
    have PA := Lib.hid (HoldsV.new rfl : HoldsV (w1.alloc (ArV c0 c1 c2 c3 c4 c5)) w1.heap.size c0 c1 c2 c3 c4 c5)
    replace B := ballD1 B (ArV c0 c1 c2 c3 c4 c5)
    go_upto_region 2 with fail
    change Code.wp _ _ _ _ (w1.alloc (ArV c0 c1 c2 c3 c4 c5))
    generalize w1.alloc (ArV c0 c1 c2 c3 c4 c5) = w2 at *
    obtain ⟨gPA, hg⟩ : ∃ g, g = w1.heap.size := ⟨_, rfl⟩
    rw [← hg] at PA ⊢
    clear hg
    have LE := PR.out.2.2
    obtain ⟨⟨c0_0, c0_1, c0_2⟩, -, c0z⟩ := PR.out
    obtain ⟨⟨c1_0, c1_1, c1_2, c1_3, c1_4, c1_5⟩, -, c1z⟩ := PA.out
    replace PR := Lib.hid (PR.out.alloc (DtC c0 c1 c2))
    replace PA := Lib.hid (PA.out.alloc (DtC c0 c1 c2))
    have PD := Lib.hid (HoldsT.new rfl : HoldsT (w2.alloc (DtC c0 c1 c2)) w2.heap.size c0 c1 c2)
    replace B := ballD1 B (DtC c0 c1 c2)
    go_upto_region 3 with fail
    change Code.wp _ _ _ _ (w2.alloc (DtC c0 c1 c2))
    clear c0_0 c0_1 c0_2 c0z c1_0 c1_1 c1_2 c1_3 c1_4 c1_5 c1z
    generalize w2.alloc (DtC c0 c1 c2) = w3 at *
    obtain ⟨gPD, hg⟩ : ∃ g, g = w2.heap.size := ⟨_, rfl⟩
    rw [← hg] at PD LE ⊢
    clear hg
    replace LE := Lib.hid LE
    clear PA
    obtain ⟨⟨c0_0, c0_1, c0_2⟩, -, c0z⟩ := PR.out
    obtain ⟨⟨c1_0, c1_1, c1_2⟩, -, c1z⟩ := PD.out
    go_wp2_with fail
    refine (HP.out _).mono ?_
    rintro e w4 ⟨rfl, hb⟩
    replace PR := Lib.hid (PR.out.below hb)
    replace PD := Lib.hid (PD.out.below hb)
    replace B := bstep B hb
    clear hb HP
    clear c0_0 c0_1 c0_2 c0z c1_0 c1_1 c1_2 c1z
    obtain ⟨⟨c0_0, c0_1, c0_2⟩, -, c0z⟩ := PR.out
    obtain ⟨⟨c1_0, c1_1, c1_2⟩, ⟨c1f0, c1f1, c1f2⟩, c1z⟩ := PD.out
    go_upto_region 5 with fail
    clear c0_0 c0_1 c0_2 c0z c1f0 c1f1 c1f2 c1_0 c1_1 c1_2 c1z
    obtain ⟨y, hy⟩ : ∃ y : Int, y = wrap64 (-c0) := ⟨_, rfl⟩
    rw [← hy]
    clear hy
    replace PD := Lib.hid (HoldsT.put0 PD.out (y := y))
    replace PR := Lib.hid (PR.out.far (p := ⟨gPD, 0, none⟩) (by have := LE.out; show w.heap.size ≠ gPD; omega) (.int .i64 y))
    replace B := B.setCell (p := ⟨gPD, 0, none⟩) (by have := LE.out; show w.heap.size ≤ gPD; omega) (.int .i64 y)
    generalize w4.setCell ⟨gPD, 0, none⟩ (.int .i64 y) = v at *
    obtain ⟨p, hp⟩ : ∃ p : Bool, p = mayT y c1 c2 := ⟨_, rfl⟩
    have MD1 := MD.out y c1 c2
    rw [← hp] at MD1
    replace MD := Lib.hid MD1
    clear MD1
    obtain ⟨T, hT⟩ : ∃ T : ByteArray, T = dateT y c1 c2 := ⟨_, rfl⟩
    have DT1 := DT.out y c1 c2
    rw [← hT] at DT1
    replace DT := Lib.hid DT1
    clear DT1
    have HX := Lib.hid (And.intro hp hT)
    clear hp hT
    cases p
    · obtain ⟨⟨c0_0, c0_1, c0_2⟩, -, c0z⟩ := PR.out
      obtain ⟨⟨c1_0, c1_1, c1_2⟩, -, c1z⟩ := PD.out
      go_wp2_with fail
      refine (MD.out _).mono ?_
      rintro e w5 ⟨rfl, hb⟩
      replace PR := Lib.hid (PR.out.below hb)
      replace PD := Lib.hid (PD.out.below hb)
      replace B := bstep B hb
      clear hb MD
      clear c0_0 c0_1 c0_2 c0z c1_0 c1_1 c1_2 c1z
      obtain ⟨⟨c0_0, c0_1, c0_2⟩, ⟨c0f0, c0f1, c0f2⟩, c0z⟩ := PR.out
      obtain ⟨⟨c1_0, c1_1, c1_2⟩, -, c1z⟩ := PD.out
      go_wp2
      refine ret_via (v := .tuple #[Dt 0 0 0, .bool false]) (fun V => HoldsT V w.heap.size 0 0 0) (fun VF hq => ?_) PR.out.put rfl ⟨⟨0, 0, 0, false, rfl, fun h => (by cases h), fun _ => ⟨rfl, rfl, rfl⟩⟩, B3 B (Nat.le_refl _) _ _ _⟩
      obtain ⟨⟨x0, x1, x2⟩, -, -⟩ := hq
      simp [results, Tryd.results18, go_sem, x0, x1, x2, *]
    · obtain ⟨⟨c0_0, c0_1, c0_2⟩, -, c0z⟩ := PR.out
      obtain ⟨⟨c1_0, c1_1, c1_2⟩, -, c1z⟩ := PD.out
      go_wp2_with fail
      refine (MD.out _).mono ?_
      rintro e w5 ⟨rfl, hb⟩
      replace PR := Lib.hid (PR.out.below hb)
      replace PD := Lib.hid (PD.out.below hb)
      replace B := bstep B hb
      clear hb MD
      clear c0_0 c0_1 c0_2 c0z c1_0 c1_1 c1_2 c1z
      obtain ⟨⟨c0_0, c0_1, c0_2⟩, -, c0z⟩ := PR.out
      obtain ⟨⟨c1_0, c1_1, c1_2⟩, -, c1z⟩ := PD.out
      go_wp2_with fail
      refine (DT.out _ (HT.out.below B)).mono ?_
      rintro e w6 ⟨rfl, hb⟩
      replace PR := Lib.hid (PR.out.below hb)
      replace PD := Lib.hid (PD.out.below hb)
      replace B := bstep B hb
      clear hb DT
      clear c0_0 c0_1 c0_2 c0z c1_0 c1_1 c1_2 c1z
      by_cases q : T = s
      · have q1 : (T.toList == s.toList) = true := by rw [q]; exact str_yes s
        have HQ := Lib.hid q
        clear q
        obtain ⟨⟨c0_0, c0_1, c0_2⟩, ⟨c0f0, c0f1, c0f2⟩, c0z⟩ := PR.out
        obtain ⟨⟨c1_0, c1_1, c1_2⟩, -, c1z⟩ := PD.out
        go_wp2
        refine ret_via (v := .tuple #[Dt y c1 c2, .bool true]) (fun V => HoldsT V w.heap.size y c1 c2) (fun VF hq => ?_) PR.out.put rfl ⟨⟨y, c1, c2, true, rfl, fun _ => ⟨HX.out.1.symm, HX.out.2.symm.trans HQ.out⟩, fun h => (by cases h)⟩, B3 B (Nat.le_refl _) _ _ _⟩
        obtain ⟨⟨x0, x1, x2⟩, -, -⟩ := hq
        simp [results, Tryd.results18, go_sem, x0, x1, x2, *]
      · have q1 : (T.toList == s.toList) = false := str_ne q
        clear q
        obtain ⟨⟨c0_0, c0_1, c0_2⟩, ⟨c0f0, c0f1, c0f2⟩, c0z⟩ := PR.out
        obtain ⟨⟨c1_0, c1_1, c1_2⟩, -, c1z⟩ := PD.out
        go_wp2
        refine ret_via (v := .tuple #[Dt 0 0 0, .bool false]) (fun V => HoldsT V w.heap.size 0 0 0) (fun VF hq => ?_) PR.out.put rfl ⟨⟨0, 0, 0, false, rfl, fun h => (by cases h), fun _ => ⟨rfl, rfl, rfl⟩⟩, B3 B (Nat.le_refl _) _ _ _⟩
        obtain ⟨⟨x0, x1, x2⟩, -, -⟩ := hq
        simp [results, Tryd.results18, go_sem, x0, x1, x2, *]
theorem of_any (h m s : Int) (w : World) : Calls Tryd.prog 44 #[.int .i64 h, .int .i64 m, .int .i64 s] w (fun e w' => (∃ (a : Int) (ok : Bool), e = .returned (.tuple #[Tm a false 0, .bool ok]) ∧ (ok = true → mayM a false 0 = true)) ∧ Below w.heap.size w w') := by
  cases k : ofOk h m s
  · exact (of_no h m s k w).mono fun e w' H => ⟨⟨0, false, H.1, fun q => (by cases q)⟩, H.2⟩
  · refine (of_yes h m s k w).mono fun e w' H => ⟨⟨_, true, H.1, fun _ => ?_⟩, H.2⟩
    unfold ofOk at k
    simp only [Bool.and_eq_true, decide_eq_true_eq] at k
    unfold mayM
    simp only [Bool.and_eq_true, Bool.or_eq_true, decide_eq_true_eq]
    refine ⟨⟨⟨⟨?_, ?_⟩, ?_⟩, ?_⟩, .inr rfl⟩ <;> omega
theorem at_any9 (s : Int) (z : Bool) (o n : Int) (w : World) : Calls Tryd.prog 46 #[Tm s z o, .int .i64 n] w (fun e w' => (∃ (a : Int) (y : Bool) (c : Int) (ok : Bool), e = .returned (.tuple #[Tm a y c, .bool ok]) ∧ (ok = true → mayM a y c = true)) ∧ Below w.heap.size w w') := by
  cases k : mayM s true n
  · exact (at_no s z o n k w).mono fun e w' H => ⟨⟨0, false, 0, false, H.1, fun q => (by cases q)⟩, H.2⟩
  · exact (at_yes s z o n k w).mono fun e w' H => ⟨⟨s, true, n, true, H.1, fun _ => k⟩, H.2⟩
set_option linter.unusedSimpArgs false in
set_option linter.unusedVariables false in
set_option maxRecDepth 100000 in
set_option maxHeartbeats 4000000 in
theorem readTime_any (s : ByteArray) (hs : s.size ≤ 200000000000000) (w : World) (ht : Tab2 w) : Calls Tryd.prog 19 #[.string s] w (fun e w' => RdM s e ∧ Below w.heap.size w w') := by
  have HT := Lib.hid ht
  have NM := Lib.hid (fun w => numbers_any s hs w)
  have OF := Lib.hid of_any
  have AT := Lib.hid at_any9
  have TM := Lib.hid (fun a z o (w : World) (k : Tab2 w) => time_any a z o w k)
  obtain ⟨cn, hcn⟩ : ∃ b : Bool, b = decide (0 ≤ Lib.indexByte s.data.toList 45) := ⟨_, rfl⟩
  have CN := Lib.hid (show ∀ w, Calls Tryd.prog 45 #[.string s, .string ⟨#[45]⟩] w (Ret (.bool cn) w) from fun w => (Tryd.strings_Contains_one s 45 w).mono fun e w' H => ⟨by rw [H.1, hcn], by rw [H.2]; exact Below.refl _ _⟩)
  obtain ⟨lg, hlg⟩ : ∃ b : Bool, decide (8 < s.size) = b := ⟨_, rfl⟩
  have s62 : s.size ≤ 4611686018427387904 := by omega
  have hlg' : decide (8 < (s.size : Int)) = lg := by rw [← hlg]; exact decide_eq_decide.2 (by omega)
  clear hs ht hcn
  go_enter Tryd.func19, Tryd.ntmps19
  go_upto_region 1 with fail
  have PR := Lib.hid (HoldsM.new rfl : HoldsM (w.alloc (TmC 0 false 0)) w.heap.size 0 false 0)
  have B := ballD1 (Below.refl w.heap.size w) (TmC 0 false 0)
  change Code.wp _ _ _ _ (w.alloc (TmC 0 false 0))
  generalize (w.alloc (TmC 0 false 0)) = w0 at *
  obtain ⟨⟨c0_0, c0_1, c0_2⟩, -, c0z⟩ := PR.out
  go_wp2_with fail
  refine (NM.out _).mono ?_
  rintro e w1 ⟨⟨c0, c1, c2, c3, c4, c5, rfl⟩, hb⟩
  replace PR := Lib.hid (PR.out.below hb)
  replace B := bstep B hb
  clear hb NM
  clear c0_0 c0_1 c0_2 c0z
  replace PR := Lib.hid (PR.out.alloc (ArV c0 c1 c2 c3 c4 c5))
  have PA := Lib.hid (HoldsV.new rfl : HoldsV (w1.alloc (ArV c0 c1 c2 c3 c4 c5)) w1.heap.size c0 c1 c2 c3 c4 c5)
  replace B := ballD1 B (ArV c0 c1 c2 c3 c4 c5)
  go_upto_region 2 with fail
  change Code.wp _ _ _ _ (w1.alloc (ArV c0 c1 c2 c3 c4 c5))
  generalize w1.alloc (ArV c0 c1 c2 c3 c4 c5) = w2 at *
  obtain ⟨gPA, hg⟩ : ∃ g, g = w1.heap.size := ⟨_, rfl⟩
  rw [← hg] at PA ⊢
  clear hg
  obtain ⟨⟨c0_0, c0_1, c0_2⟩, -, c0z⟩ := PR.out
  obtain ⟨⟨c1_0, c1_1, c1_2, c1_3, c1_4, c1_5⟩, -, c1z⟩ := PA.out
  go_wp2_with fail
  refine (OF.out _ _ _ _).mono ?_
  rintro e w3 ⟨⟨a, ok, rfl, hok⟩, hb⟩
  replace PR := Lib.hid (PR.out.below hb)
  replace PA := Lib.hid (PA.out.below hb)
  replace B := bstep B hb
  clear hb OF
  clear c0_0 c0_1 c0_2 c0z c1_0 c1_1 c1_2 c1_3 c1_4 c1_5 c1z
  have HK := Lib.hid hok
  clear hok
  have LE := PR.out.2.2
  replace PR := Lib.hid (PR.out.alloc (TmC a false 0))
  replace PA := Lib.hid (PA.out.alloc (TmC a false 0))
  have PD := Lib.hid (HoldsM.new rfl : HoldsM (w3.alloc (TmC a false 0)) w3.heap.size a false 0)
  replace B := ballD1 B (TmC a false 0)
  go_upto_region 3 with fail
  change Code.wp _ _ _ _ (w3.alloc (TmC a false 0))
  generalize w3.alloc (TmC a false 0) = w4 at *
  obtain ⟨gPD, hg⟩ : ∃ g, g = w3.heap.size := ⟨_, rfl⟩
  rw [← hg] at PD LE ⊢
  clear hg
  replace LE := Lib.hid LE
  cases ok
  · obtain ⟨⟨c0_0, c0_1, c0_2⟩, ⟨c0f0, c0f1, c0f2⟩, c0z⟩ := PR.out
    obtain ⟨⟨c1_0, c1_1, c1_2, c1_3, c1_4, c1_5⟩, -, c1z⟩ := PA.out
    obtain ⟨⟨c2_0, c2_1, c2_2⟩, -, c2z⟩ := PD.out
    go_wp2
    refine ret_via (v := .tuple #[Tm 0 false 0, .bool false]) (fun V => HoldsM V w.heap.size 0 false 0) (fun VF hq => ?_) PR.out.put rfl ⟨⟨0, false, 0, false, rfl, fun h => (by cases h), fun _ => ⟨rfl, rfl, rfl⟩⟩, B3 B (Nat.le_refl _) _ _ _⟩
    obtain ⟨⟨x0, x1, x2⟩, -, -⟩ := hq
    simp [results, Tryd.results19, go_sem, x0, x1, x2, *]
  · cases lg
    · obtain ⟨T, hT⟩ : ∃ T : ByteArray, T = timeT a false 0 := ⟨_, rfl⟩
      have TM1 := TM.out a false 0
      rw [← hT] at TM1
      replace TM := Lib.hid TM1
      clear TM1
      have HX := Lib.hid (And.intro (HK.out rfl) hT)
      clear hT
      obtain ⟨⟨c0_0, c0_1, c0_2⟩, -, c0z⟩ := PR.out
      obtain ⟨⟨c1_0, c1_1, c1_2, c1_3, c1_4, c1_5⟩, -, c1z⟩ := PA.out
      obtain ⟨⟨c2_0, c2_1, c2_2⟩, -, c2z⟩ := PD.out
      go_wp2_with fail
      refine (TM.out _ (HT.out.below B)).mono ?_
      rintro e w5 ⟨rfl, hb⟩
      replace PR := Lib.hid (PR.out.below hb)
      replace PA := Lib.hid (PA.out.below hb)
      replace PD := Lib.hid (PD.out.below hb)
      replace B := bstep B hb
      clear hb TM
      clear c0_0 c0_1 c0_2 c0z c1_0 c1_1 c1_2 c1_3 c1_4 c1_5 c1z c2_0 c2_1 c2_2 c2z
      by_cases q : T = s
      · have q1 : (T.toList == s.toList) = true := by rw [q]; exact str_yes s
        have HQ := Lib.hid q
        clear q
        obtain ⟨⟨c0_0, c0_1, c0_2⟩, ⟨c0f0, c0f1, c0f2⟩, c0z⟩ := PR.out
        obtain ⟨⟨c1_0, c1_1, c1_2, c1_3, c1_4, c1_5⟩, -, c1z⟩ := PA.out
        obtain ⟨⟨c2_0, c2_1, c2_2⟩, -, c2z⟩ := PD.out
        go_wp2
        refine ret_via (v := .tuple #[Tm a false 0, .bool true]) (fun V => HoldsM V w.heap.size a false 0) (fun VF hq => ?_) PR.out.put rfl ⟨⟨a, false, 0, true, rfl, fun _ => ⟨HX.out.1, HX.out.2.symm.trans HQ.out⟩, fun h => (by cases h)⟩, B3 B (Nat.le_refl _) _ _ _⟩
        obtain ⟨⟨x0, x1, x2⟩, -, -⟩ := hq
        simp [results, Tryd.results19, go_sem, x0, x1, x2, *]
      · have q1 : (T.toList == s.toList) = false := str_ne q
        clear q
        obtain ⟨⟨c0_0, c0_1, c0_2⟩, ⟨c0f0, c0f1, c0f2⟩, c0z⟩ := PR.out
        obtain ⟨⟨c1_0, c1_1, c1_2, c1_3, c1_4, c1_5⟩, -, c1z⟩ := PA.out
        obtain ⟨⟨c2_0, c2_1, c2_2⟩, -, c2z⟩ := PD.out
        go_wp2
        refine ret_via (v := .tuple #[Tm 0 false 0, .bool false]) (fun V => HoldsM V w.heap.size 0 false 0) (fun VF hq => ?_) PR.out.put rfl ⟨⟨0, false, 0, false, rfl, fun h => (by cases h), fun _ => ⟨rfl, rfl, rfl⟩⟩, B3 B (Nat.le_refl _) _ _ _⟩
        obtain ⟨⟨x0, x1, x2⟩, -, -⟩ := hq
        simp [results, Tryd.results19, go_sem, x0, x1, x2, *]
    · cases cn
      · obtain ⟨⟨c0_0, c0_1, c0_2⟩, -, c0z⟩ := PR.out
        obtain ⟨⟨c1_0, c1_1, c1_2, c1_3, c1_4, c1_5⟩, -, c1z⟩ := PA.out
        obtain ⟨⟨c2_0, c2_1, c2_2⟩, -, c2z⟩ := PD.out
        go_wp2_with fail
        refine (CN.out _).mono ?_
        rintro e w5 ⟨rfl, hb⟩
        replace PR := Lib.hid (PR.out.below hb)
        replace PA := Lib.hid (PA.out.below hb)
        replace PD := Lib.hid (PD.out.below hb)
        replace B := bstep B hb
        clear hb CN
        clear c0_0 c0_1 c0_2 c0z c1_0 c1_1 c1_2 c1_3 c1_4 c1_5 c1z c2_0 c2_1 c2_2 c2z
        obtain ⟨⟨c0_0, c0_1, c0_2⟩, -, c0z⟩ := PR.out
        obtain ⟨⟨c1_0, c1_1, c1_2, c1_3, c1_4, c1_5⟩, -, c1z⟩ := PA.out
        obtain ⟨⟨c2_0, c2_1, c2_2⟩, -, c2z⟩ := PD.out
        go_wp2_with fail
        refine (AT.out _ _ _ _ _).mono ?_
        rintro e w6 ⟨⟨a', z', o', ok', rfl, hok⟩, hb⟩
        replace PR := Lib.hid (PR.out.below hb)
        replace PA := Lib.hid (PA.out.below hb)
        replace PD := Lib.hid (PD.out.below hb)
        replace B := bstep B hb
        clear hb AT
        clear c0_0 c0_1 c0_2 c0z c1_0 c1_1 c1_2 c1_3 c1_4 c1_5 c1z c2_0 c2_1 c2_2 c2z
        clear HK
        have HK := Lib.hid hok
        clear hok
        obtain ⟨⟨c0_0, c0_1, c0_2⟩, -, c0z⟩ := PR.out
        obtain ⟨⟨c1_0, c1_1, c1_2, c1_3, c1_4, c1_5⟩, -, c1z⟩ := PA.out
        obtain ⟨⟨c2_0, c2_1, c2_2⟩, ⟨c2f0, c2f1, c2f2⟩, c2z⟩ := PD.out
        go_upto_region 8 with fail
        clear c0_0 c0_1 c0_2 c0z c1_0 c1_1 c1_2 c1_3 c1_4 c1_5 c1z c2f0 c2f1 c2f2 c2_0 c2_1 c2_2 c2z
        replace PD := Lib.hid (HoldsM.put PD.out (s := a') (z := z') (o := o'))
        have ne : w.heap.size ≠ gPD := by have := LE.out; omega
        replace PR := Lib.hid (((PR.out.far (p := ⟨gPD, 0, none⟩) ne (.int .i64 a')).far (p := ⟨gPD, 1, none⟩) ne (.bool z')).far (p := ⟨gPD, 2, none⟩) ne (.int .i64 o'))
        replace B := B3 B (g := gPD) (by have := LE.out; omega) (.int .i64 a') (.bool z') (.int .i64 o')
        clear ne PA
        generalize ((w6.setCell ⟨gPD, 0, none⟩ (.int .i64 a')).setCell ⟨gPD, 1, none⟩ (.bool z')).setCell ⟨gPD, 2, none⟩ (.int .i64 o') = v at *
        cases ok'
        · obtain ⟨⟨c0_0, c0_1, c0_2⟩, ⟨c0f0, c0f1, c0f2⟩, c0z⟩ := PR.out
          obtain ⟨⟨c1_0, c1_1, c1_2⟩, -, c1z⟩ := PD.out
          go_wp2
          refine ret_via (v := .tuple #[Tm 0 false 0, .bool false]) (fun V => HoldsM V w.heap.size 0 false 0) (fun VF hq => ?_) PR.out.put rfl ⟨⟨0, false, 0, false, rfl, fun h => (by cases h), fun _ => ⟨rfl, rfl, rfl⟩⟩, B3 B (Nat.le_refl _) _ _ _⟩
          obtain ⟨⟨x0, x1, x2⟩, -, -⟩ := hq
          simp [results, Tryd.results19, go_sem, x0, x1, x2, *]
        · obtain ⟨T, hT⟩ : ∃ T : ByteArray, T = timeT a' z' o' := ⟨_, rfl⟩
          have TM1 := TM.out a' z' o'
          rw [← hT] at TM1
          replace TM := Lib.hid TM1
          clear TM1
          have HX := Lib.hid (And.intro (HK.out rfl) hT)
          clear hT
          obtain ⟨⟨c0_0, c0_1, c0_2⟩, -, c0z⟩ := PR.out
          obtain ⟨⟨c1_0, c1_1, c1_2⟩, -, c1z⟩ := PD.out
          go_wp2_with fail
          refine (TM.out _ (HT.out.below B)).mono ?_
          rintro e w7 ⟨rfl, hb⟩
          replace PR := Lib.hid (PR.out.below hb)
          replace PD := Lib.hid (PD.out.below hb)
          replace B := bstep B hb
          clear hb TM
          clear c0_0 c0_1 c0_2 c0z c1_0 c1_1 c1_2 c1z
          by_cases q : T = s
          · have q1 : (T.toList == s.toList) = true := by rw [q]; exact str_yes s
            have HQ := Lib.hid q
            clear q
            obtain ⟨⟨c0_0, c0_1, c0_2⟩, ⟨c0f0, c0f1, c0f2⟩, c0z⟩ := PR.out
            obtain ⟨⟨c1_0, c1_1, c1_2⟩, -, c1z⟩ := PD.out
            go_wp2
            refine ret_via (v := .tuple #[Tm a' z' o', .bool true]) (fun V => HoldsM V w.heap.size a' z' o') (fun VF hq => ?_) PR.out.put rfl ⟨⟨a', z', o', true, rfl, fun _ => ⟨HX.out.1, HX.out.2.symm.trans HQ.out⟩, fun h => (by cases h)⟩, B3 B (Nat.le_refl _) _ _ _⟩
            obtain ⟨⟨x0, x1, x2⟩, -, -⟩ := hq
            simp [results, Tryd.results19, go_sem, x0, x1, x2, *]
          · have q1 : (T.toList == s.toList) = false := str_ne q
            clear q
            obtain ⟨⟨c0_0, c0_1, c0_2⟩, ⟨c0f0, c0f1, c0f2⟩, c0z⟩ := PR.out
            obtain ⟨⟨c1_0, c1_1, c1_2⟩, -, c1z⟩ := PD.out
            go_wp2
            refine ret_via (v := .tuple #[Tm 0 false 0, .bool false]) (fun V => HoldsM V w.heap.size 0 false 0) (fun VF hq => ?_) PR.out.put rfl ⟨⟨0, false, 0, false, rfl, fun h => (by cases h), fun _ => ⟨rfl, rfl, rfl⟩⟩, B3 B (Nat.le_refl _) _ _ _⟩
            obtain ⟨⟨x0, x1, x2⟩, -, -⟩ := hq
            simp [results, Tryd.results19, go_sem, x0, x1, x2, *]
      · obtain ⟨⟨c0_0, c0_1, c0_2⟩, -, c0z⟩ := PR.out
        obtain ⟨⟨c1_0, c1_1, c1_2, c1_3, c1_4, c1_5⟩, -, c1z⟩ := PA.out
        obtain ⟨⟨c2_0, c2_1, c2_2⟩, -, c2z⟩ := PD.out
        go_wp2_with fail
        refine (CN.out _).mono ?_
        rintro e w5 ⟨rfl, hb⟩
        replace PR := Lib.hid (PR.out.below hb)
        replace PA := Lib.hid (PA.out.below hb)
        replace PD := Lib.hid (PD.out.below hb)
        replace B := bstep B hb
        clear hb CN
        clear c0_0 c0_1 c0_2 c0z c1_0 c1_1 c1_2 c1_3 c1_4 c1_5 c1z c2_0 c2_1 c2_2 c2z
        obtain ⟨⟨c0_0, c0_1, c0_2⟩, -, c0z⟩ := PR.out
        obtain ⟨⟨c1_0, c1_1, c1_2, c1_3, c1_4, c1_5⟩, -, c1z⟩ := PA.out
        obtain ⟨⟨c2_0, c2_1, c2_2⟩, -, c2z⟩ := PD.out
        go_wp2_with fail
        refine (AT.out _ _ _ _ _).mono ?_
        rintro e w6 ⟨⟨a', z', o', ok', rfl, hok⟩, hb⟩
        replace PR := Lib.hid (PR.out.below hb)
        replace PA := Lib.hid (PA.out.below hb)
        replace PD := Lib.hid (PD.out.below hb)
        replace B := bstep B hb
        clear hb AT
        clear c0_0 c0_1 c0_2 c0z c1_0 c1_1 c1_2 c1_3 c1_4 c1_5 c1z c2_0 c2_1 c2_2 c2z
        clear HK
        have HK := Lib.hid hok
        clear hok
        obtain ⟨⟨c0_0, c0_1, c0_2⟩, -, c0z⟩ := PR.out
        obtain ⟨⟨c1_0, c1_1, c1_2, c1_3, c1_4, c1_5⟩, -, c1z⟩ := PA.out
        obtain ⟨⟨c2_0, c2_1, c2_2⟩, ⟨c2f0, c2f1, c2f2⟩, c2z⟩ := PD.out
        go_upto_region 8 with fail
        clear c0_0 c0_1 c0_2 c0z c1_0 c1_1 c1_2 c1_3 c1_4 c1_5 c1z c2f0 c2f1 c2f2 c2_0 c2_1 c2_2 c2z
        replace PD := Lib.hid (HoldsM.put PD.out (s := a') (z := z') (o := o'))
        have ne : w.heap.size ≠ gPD := by have := LE.out; omega
        replace PR := Lib.hid (((PR.out.far (p := ⟨gPD, 0, none⟩) ne (.int .i64 a')).far (p := ⟨gPD, 1, none⟩) ne (.bool z')).far (p := ⟨gPD, 2, none⟩) ne (.int .i64 o'))
        replace B := B3 B (g := gPD) (by have := LE.out; omega) (.int .i64 a') (.bool z') (.int .i64 o')
        clear ne PA
        generalize ((w6.setCell ⟨gPD, 0, none⟩ (.int .i64 a')).setCell ⟨gPD, 1, none⟩ (.bool z')).setCell ⟨gPD, 2, none⟩ (.int .i64 o') = v at *
        cases ok'
        · obtain ⟨⟨c0_0, c0_1, c0_2⟩, ⟨c0f0, c0f1, c0f2⟩, c0z⟩ := PR.out
          obtain ⟨⟨c1_0, c1_1, c1_2⟩, -, c1z⟩ := PD.out
          go_wp2
          refine ret_via (v := .tuple #[Tm 0 false 0, .bool false]) (fun V => HoldsM V w.heap.size 0 false 0) (fun VF hq => ?_) PR.out.put rfl ⟨⟨0, false, 0, false, rfl, fun h => (by cases h), fun _ => ⟨rfl, rfl, rfl⟩⟩, B3 B (Nat.le_refl _) _ _ _⟩
          obtain ⟨⟨x0, x1, x2⟩, -, -⟩ := hq
          simp [results, Tryd.results19, go_sem, x0, x1, x2, *]
        · obtain ⟨T, hT⟩ : ∃ T : ByteArray, T = timeT a' z' o' := ⟨_, rfl⟩
          have TM1 := TM.out a' z' o'
          rw [← hT] at TM1
          replace TM := Lib.hid TM1
          clear TM1
          have HX := Lib.hid (And.intro (HK.out rfl) hT)
          clear hT
          obtain ⟨⟨c0_0, c0_1, c0_2⟩, -, c0z⟩ := PR.out
          obtain ⟨⟨c1_0, c1_1, c1_2⟩, -, c1z⟩ := PD.out
          go_wp2_with fail
          refine (TM.out _ (HT.out.below B)).mono ?_
          rintro e w7 ⟨rfl, hb⟩
          replace PR := Lib.hid (PR.out.below hb)
          replace PD := Lib.hid (PD.out.below hb)
          replace B := bstep B hb
          clear hb TM
          clear c0_0 c0_1 c0_2 c0z c1_0 c1_1 c1_2 c1z
          by_cases q : T = s
          · have q1 : (T.toList == s.toList) = true := by rw [q]; exact str_yes s
            have HQ := Lib.hid q
            clear q
            obtain ⟨⟨c0_0, c0_1, c0_2⟩, ⟨c0f0, c0f1, c0f2⟩, c0z⟩ := PR.out
            obtain ⟨⟨c1_0, c1_1, c1_2⟩, -, c1z⟩ := PD.out
            go_wp2
            refine ret_via (v := .tuple #[Tm a' z' o', .bool true]) (fun V => HoldsM V w.heap.size a' z' o') (fun VF hq => ?_) PR.out.put rfl ⟨⟨a', z', o', true, rfl, fun _ => ⟨HX.out.1, HX.out.2.symm.trans HQ.out⟩, fun h => (by cases h)⟩, B3 B (Nat.le_refl _) _ _ _⟩
            obtain ⟨⟨x0, x1, x2⟩, -, -⟩ := hq
            simp [results, Tryd.results19, go_sem, x0, x1, x2, *]
          · have q1 : (T.toList == s.toList) = false := str_ne q
            clear q
            obtain ⟨⟨c0_0, c0_1, c0_2⟩, ⟨c0f0, c0f1, c0f2⟩, c0z⟩ := PR.out
            obtain ⟨⟨c1_0, c1_1, c1_2⟩, -, c1z⟩ := PD.out
            go_wp2
            refine ret_via (v := .tuple #[Tm 0 false 0, .bool false]) (fun V => HoldsM V w.heap.size 0 false 0) (fun VF hq => ?_) PR.out.put rfl ⟨⟨0, false, 0, false, rfl, fun h => (by cases h), fun _ => ⟨rfl, rfl, rfl⟩⟩, B3 B (Nat.le_refl _) _ _ _⟩
            obtain ⟨⟨x0, x1, x2⟩, -, -⟩ := hq
            simp [results, Tryd.results19, go_sem, x0, x1, x2, *]
theorem min_pos (n : Int) : 0 < (minS n).size := by
  unfold minS
  rw [size_add', size_add', show ({ data := #[58] } : ByteArray).size = 1 from rfl]
  omega
theorem timeT_ne {a : Int} {z : Bool} {o : Int} (h : mayM a z o = true) : timeT a z o ≠ { data := #[] } := by
  intro k
  unfold timeT at k
  rw [if_pos h] at k
  have p := min_pos a
  have q := congrArg ByteArray.size k
  rw [show ({ data := #[] } : ByteArray).size = 0 from rfl] at q
  unfold timeS at q
  split at q
  · rw [size_add', size_add'] at q; omega
  · rw [size_add'] at q; omega
theorem cut_str {c : UInt8} {s A B : ByteArray} (hA : A = ⟨(cut1 c s.data.toList).1.toArray⟩) (hB : B = ⟨(cut1 c s.data.toList).2.1.toArray⟩) (k : (cut1 c s.data.toList).2.2 = true) : A ++ { data := #[c] } ++ B = s := by
  have e := cut1_back c s.data.toList
  rw [k, if_pos rfl] at e
  rw [hA, hB]
  apply ByteArray.ext
  apply Array.ext'
  conv => rhs; rw [e]
  simp [ByteArray.data_append]
theorem cut_sizes {c : UInt8} {s : ByteArray} : (⟨(cut1 c s.data.toList).1.toArray⟩ : ByteArray).size ≤ s.size ∧ (⟨(cut1 c s.data.toList).2.1.toArray⟩ : ByteArray).size ≤ s.size := by
  rw [size_list, size_list]
  show _ ≤ s.data.toList.length ∧ _ ≤ s.data.toList.length
  generalize s.data.toList = l
  induction l with
  | nil => exact ⟨Nat.le_refl _, Nat.le_refl _⟩
  | cons b t ih =>
    unfold cut1
    split
    · exact ⟨Nat.zero_le _, by rw [List.length_cons]; exact Nat.le_succ _⟩
    · rw [List.length_cons, List.length_cons]
      exact ⟨Nat.succ_le_succ ih.1, Nat.le_trans ih.2 (Nat.le_succ _)⟩
set_option linter.unusedSimpArgs false in
set_option linter.unusedVariables false in
set_option maxRecDepth 100000 in
set_option maxHeartbeats 4000000 in
theorem readMoment_any (s : ByteArray) (hs : s.size ≤ 200000000000000) (w : World) (ht : Tab2 w) : Calls Tryd.prog 20 #[.string s] w (fun e w' => RdN s e ∧ Below w.heap.size w w') := by
  have HT := Lib.hid ht
  have CU0 := cutOne_any 84 s hs
  have HZ := cut_sizes (c := 84) (s := s)
  obtain ⟨A, hA⟩ : ∃ A : ByteArray, A = ⟨(cut1 84 s.data.toList).1.toArray⟩ := ⟨_, rfl⟩
  obtain ⟨C, hC⟩ : ∃ C : ByteArray, C = ⟨(cut1 84 s.data.toList).2.1.toArray⟩ := ⟨_, rfl⟩
  obtain ⟨f, hf⟩ : ∃ f : Bool, f = (cut1 84 s.data.toList).2.2 := ⟨_, rfl⟩
  unfold Cv at CU0
  rw [← hA, ← hC, ← hf] at CU0
  rw [← hA, ← hC] at HZ
  have CU := Lib.hid CU0
  have RD := Lib.hid (readDate_any A (Nat.le_trans HZ.1 hs))
  have RT := Lib.hid (readTime_any C (Nat.le_trans HZ.2 hs))
  have BK := Lib.hid (show f = true → A ++ { data := #[84] } ++ C = s from fun k => cut_str hA hC (by rw [← hf]; exact k))
  have NO := Lib.hid (show f = false → C = { data := #[] } from fun k => by rw [hC, cut1_none 84 s.data.toList (by rw [← hf]; exact k)])
  clear CU0 hs ht HZ hA hC hf
  go_enter Tryd.func20, Tryd.ntmps20
  go_upto_region 1 with fail
  have PR := Lib.hid (HoldsN.new rfl : HoldsN (w.alloc (MoC 0 0 0 0 false 0)) w.heap.size 0 0 0 0 false 0)
  have B := ballD1 (Below.refl w.heap.size w) (MoC 0 0 0 0 false 0)
  change Code.wp _ _ _ _ (w.alloc (MoC 0 0 0 0 false 0))
  generalize (w.alloc (MoC 0 0 0 0 false 0)) = w0 at *
  obtain ⟨⟨c0_0, c0_1, c0_2, c0_3, c0_4, c0_5⟩, -, c0z⟩ := PR.out
  go_wp2_with fail
  refine (CU.out _).mono ?_
  rintro e w1 ⟨rfl, hb⟩
  replace PR := Lib.hid (PR.out.below hb)
  replace B := bstep B hb
  clear hb CU
  clear c0_0 c0_1 c0_2 c0_3 c0_4 c0_5 c0z
  obtain ⟨⟨c0_0, c0_1, c0_2, c0_3, c0_4, c0_5⟩, -, c0z⟩ := PR.out
  go_wp2_with fail
  refine (RD.out _ (HT.out.below B)).mono ?_
  rintro e w2 ⟨⟨y, m, d, ok, rfl, h1, -⟩, hb⟩
  replace PR := Lib.hid (PR.out.below hb)
  replace B := bstep B hb
  clear hb RD
  clear c0_0 c0_1 c0_2 c0_3 c0_4 c0_5 c0z
  have H1 := Lib.hid h1
  clear h1
  replace PR := Lib.hid (PR.out.alloc (DtC y m d))
  have PD := Lib.hid (HoldsT.new rfl : HoldsT (w2.alloc (DtC y m d)) w2.heap.size y m d)
  replace B := ballD1 B (DtC y m d)
  go_upto_region 3 with fail
  change Code.wp _ _ _ _ (w2.alloc (DtC y m d))
  generalize w2.alloc (DtC y m d) = w3 at *
  obtain ⟨gPD, hg⟩ : ∃ g, g = w2.heap.size := ⟨_, rfl⟩
  rw [← hg] at PD ⊢
  clear hg
  obtain ⟨⟨c0_0, c0_1, c0_2, c0_3, c0_4, c0_5⟩, -, c0z⟩ := PR.out
  obtain ⟨⟨c1_0, c1_1, c1_2⟩, -, c1z⟩ := PD.out
  go_wp2_with fail
  refine (RT.out _ (HT.out.below B)).mono ?_
  rintro e w4 ⟨⟨a, z, o, ok', rfl, h2, -⟩, hb⟩
  replace PR := Lib.hid (PR.out.below hb)
  replace PD := Lib.hid (PD.out.below hb)
  replace B := bstep B hb
  clear hb RT
  clear c0_0 c0_1 c0_2 c0_3 c0_4 c0_5 c0z c1_0 c1_1 c1_2 c1z
  have H2 := Lib.hid h2
  clear h2
  replace PR := Lib.hid (PR.out.alloc (TmC a z o))
  replace PD := Lib.hid (PD.out.alloc (TmC a z o))
  have PT := Lib.hid (HoldsM.new rfl : HoldsM (w4.alloc (TmC a z o)) w4.heap.size a z o)
  replace B := ballD1 B (TmC a z o)
  go_upto_region 4 with fail
  change Code.wp _ _ _ _ (w4.alloc (TmC a z o))
  generalize w4.alloc (TmC a z o) = w5 at *
  obtain ⟨gPT, hg⟩ : ∃ g, g = w4.heap.size := ⟨_, rfl⟩
  rw [← hg] at PT ⊢
  clear hg
  cases ok
  · obtain ⟨⟨c0_0, c0_1, c0_2, c0_3, c0_4, c0_5⟩, ⟨c0f0, c0f1, c0f2, c0f3, c0f4, c0f5⟩, c0z⟩ := PR.out
    obtain ⟨⟨c1_0, c1_1, c1_2⟩, -, c1z⟩ := PD.out
    obtain ⟨⟨c2_0, c2_1, c2_2⟩, -, c2z⟩ := PT.out
    go_wp2
    refine ret_via (v := .tuple #[Mo 0 0 0 0 false 0, .bool false]) (fun V => HoldsN V w.heap.size 0 0 0 0 false 0) (fun VF hq => ?_) PR.out.put rfl ⟨⟨0, 0, 0, 0, false, 0, false, rfl, fun h => (by cases h), fun _ => ⟨rfl, rfl, rfl, rfl, rfl, rfl⟩⟩, B6 B (Nat.le_refl _) _ _ _ _ _ _⟩
    obtain ⟨⟨x0, x1, x2, x3, x4, x5⟩, -, -⟩ := hq
    simp [results, Tryd.results20, go_sem, x0, x1, x2, x3, x4, x5, *]
  · cases ok'
    · obtain ⟨⟨c0_0, c0_1, c0_2, c0_3, c0_4, c0_5⟩, ⟨c0f0, c0f1, c0f2, c0f3, c0f4, c0f5⟩, c0z⟩ := PR.out
      obtain ⟨⟨c1_0, c1_1, c1_2⟩, -, c1z⟩ := PD.out
      obtain ⟨⟨c2_0, c2_1, c2_2⟩, -, c2z⟩ := PT.out
      go_wp2
      refine ret_via (v := .tuple #[Mo 0 0 0 0 false 0, .bool false]) (fun V => HoldsN V w.heap.size 0 0 0 0 false 0) (fun VF hq => ?_) PR.out.put rfl ⟨⟨0, 0, 0, 0, false, 0, false, rfl, fun h => (by cases h), fun _ => ⟨rfl, rfl, rfl, rfl, rfl, rfl⟩⟩, B6 B (Nat.le_refl _) _ _ _ _ _ _⟩
      obtain ⟨⟨x0, x1, x2, x3, x4, x5⟩, -, -⟩ := hq
      simp [results, Tryd.results20, go_sem, x0, x1, x2, x3, x4, x5, *]
    · have RES := Lib.hid (show mayN y m d a z o = true ∧ momT y m d a z o = s from by
        obtain ⟨k1, k2⟩ := H1.out rfl
        obtain ⟨k3, k4⟩ := H2.out rfl
        have kn : mayN y m d a z o = true := by unfold mayN; rw [k1, k3]; rfl
        refine ⟨kn, ?_⟩
        unfold momT
        rw [if_pos kn, k2, k4]
        cases f
        · exact absurd (k4.trans (NO.out rfl)) (timeT_ne k3)
        · exact BK.out rfl)
      clear H1 H2 BK NO
      obtain ⟨⟨c0_0, c0_1, c0_2, c0_3, c0_4, c0_5⟩, ⟨c0f0, c0f1, c0f2, c0f3, c0f4, c0f5⟩, c0z⟩ := PR.out
      obtain ⟨⟨c1_0, c1_1, c1_2⟩, -, c1z⟩ := PD.out
      obtain ⟨⟨c2_0, c2_1, c2_2⟩, -, c2z⟩ := PT.out
      go_wp2
      refine ret_via (v := .tuple #[Mo y m d a z o, .bool true]) (fun V => HoldsN V w.heap.size y m d a z o) (fun VF hq => ?_) PR.out.put rfl ⟨⟨y, m, d, a, z, o, true, rfl, fun _ => RES.out, fun h => (by cases h)⟩, B6 B (Nat.le_refl _) _ _ _ _ _ _⟩
      obtain ⟨⟨x0, x1, x2, x3, x4, x5⟩, -, -⟩ := hq
      simp [results, Tryd.results20, go_sem, x0, x1, x2, x3, x4, x5, *]
end Go.Proofs.YthgondbiddncpaaDoor

/-
  Package moment: how far two moments are apart, which one is ahead, and how many months lie between: each as a contract of its call.
-/
import Derived.Test.YtkkddflclakphaaDoorMb
namespace Go.Proofs.YtkkddflclakphaaDoor
open Go.RowKit

set_option maxRecDepth 100000 in
set_option maxHeartbeats 2000000 in
theorem between_ints (y m d s : Int) (z : Bool) (o : Int) (y' m' d' s' : Int) (z' : Bool) (o' : Int) (i j R : Int) (p q e c : Bool) (he : (z == z') = e) (hc0 : c = (p && q && e)) (hR0 : R = if c then j - i else 0) (IA0 : ∀ w : World, Calls Tryd.prog 45 #[Mo y m d s z o] w (Ret (.tuple #[.int .i64 i, .bool p]) w)) (IB0 : ∀ w : World, Calls Tryd.prog 45 #[Mo y' m' d' s' z' o'] w (Ret (.tuple #[.int .i64 j, .bool q]) w)) (hd : I64 (j - i)) (w : World) : Calls Tryd.prog 50 #[Mo y m d s z o, Mo y' m' d' s' z' o'] w (Ret (.tuple #[.int .i64 R, .bool c]) w) := by
  have f1 : wrap64 (j - i) = j - i := hd.wrap'
  have g1 : IntKind.i64.wrap (j - i) = j - i := hd.wrap
  have IA := Lib.hid IA0
  have IB := Lib.hid IB0
  have hc := Lib.hid hc0
  have hR := Lib.hid hR0
  clear IA0 IB0 hd hc0 hR0
  go_enter Tryd.func50, Tryd.ntmps50
  go_upto_region 1 with fail
  have PA := Lib.hid (HoldsN.alloc (HoldsN.new rfl) _ : HoldsN ((w.alloc (MoC y m d s z o)).alloc (MoC y' m' d' s' z' o')) w.heap.size y m d s z o)
  have PB := Lib.hid (HoldsN.new (by simp) : HoldsN ((w.alloc (MoC y m d s z o)).alloc (MoC y' m' d' s' z' o')) (w.heap.size + 1) y' m' d' s' z' o')
  have B := ballD1 (ballD1 (Below.refl w.heap.size w) (MoC y m d s z o)) (MoC y' m' d' s' z' o')
  change Code.wp _ _ _ _ ((w.alloc (MoC y m d s z o)).alloc (MoC y' m' d' s' z' o'))
  generalize ((w.alloc (MoC y m d s z o)).alloc (MoC y' m' d' s' z' o')) = w0 at *
  obtain ⟨⟨c0_0, c0_1, c0_2, c0_3, c0_4, c0_5⟩, -, c0z⟩ := PA.out
  obtain ⟨⟨c1_0, c1_1, c1_2, c1_3, c1_4, c1_5⟩, -, c1z⟩ := PB.out
  go_wp2_with fail
  refine (IA.out _).mono ?_
  rintro e w1 ⟨rfl, hb⟩
  replace PA := Lib.hid (PA.out.below hb)
  replace PB := Lib.hid (PB.out.below hb)
  replace B := bstep B hb
  clear hb IA
  clear c0_0 c0_1 c0_2 c0_3 c0_4 c0_5 c0z c1_0 c1_1 c1_2 c1_3 c1_4 c1_5 c1z
  obtain ⟨⟨c0_0, c0_1, c0_2, c0_3, c0_4, c0_5⟩, -, c0z⟩ := PA.out
  obtain ⟨⟨c1_0, c1_1, c1_2, c1_3, c1_4, c1_5⟩, -, c1z⟩ := PB.out
  go_wp2_with fail
  refine (IB.out _).mono ?_
  rintro e w2 ⟨rfl, hb⟩
  replace PA := Lib.hid (PA.out.below hb)
  replace PB := Lib.hid (PB.out.below hb)
  replace B := bstep B hb
  clear hb IB
  clear c0_0 c0_1 c0_2 c0_3 c0_4 c0_5 c0z c1_0 c1_1 c1_2 c1_3 c1_4 c1_5 c1z
  have no : (p && q && e) = false → c = false ∧ R = 0 := by
    intro h
    have k := hc.out
    rw [h] at k
    have := hR.out
    rw [k] at this
    exact ⟨k, by simpa using this⟩
  cases p
  · obtain ⟨rfl, rfl⟩ := no rfl
    clear hc hR no
    obtain ⟨⟨c0_0, c0_1, c0_2, c0_3, c0_4, c0_5⟩, -, c0z⟩ := PA.out
    obtain ⟨⟨c1_0, c1_1, c1_2, c1_3, c1_4, c1_5⟩, -, c1z⟩ := PB.out
    go_wp2
    refine ret_via (v := .tuple #[.int .i64 0, .bool false]) (fun _ => True) (fun VF _ => ?_) trivial rfl ⟨rfl, B⟩
    simp [results, Tryd.results50, go_sem, *]
  cases q
  · obtain ⟨rfl, rfl⟩ := no rfl
    clear hc hR no
    obtain ⟨⟨c0_0, c0_1, c0_2, c0_3, c0_4, c0_5⟩, -, c0z⟩ := PA.out
    obtain ⟨⟨c1_0, c1_1, c1_2, c1_3, c1_4, c1_5⟩, -, c1z⟩ := PB.out
    go_wp2
    refine ret_via (v := .tuple #[.int .i64 0, .bool false]) (fun _ => True) (fun VF _ => ?_) trivial rfl ⟨rfl, B⟩
    simp [results, Tryd.results50, go_sem, *]
  cases e
  · obtain ⟨rfl, rfl⟩ := no rfl
    clear hc hR no
    obtain ⟨⟨c0_0, c0_1, c0_2, c0_3, c0_4, c0_5⟩, -, c0z⟩ := PA.out
    obtain ⟨⟨c1_0, c1_1, c1_2, c1_3, c1_4, c1_5⟩, -, c1z⟩ := PB.out
    go_wp2
    refine ret_via (v := .tuple #[.int .i64 0, .bool false]) (fun _ => True) (fun VF _ => ?_) trivial rfl ⟨rfl, B⟩
    simp [results, Tryd.results50, go_sem, *]
  · have k : c = true := hc.out
    subst k
    have k : R = j - i := by simpa using hR.out
    subst k
    clear hc hR no
    obtain ⟨⟨c0_0, c0_1, c0_2, c0_3, c0_4, c0_5⟩, -, c0z⟩ := PA.out
    obtain ⟨⟨c1_0, c1_1, c1_2, c1_3, c1_4, c1_5⟩, -, c1z⟩ := PB.out
    go_wp2
    refine ret_via (v := .tuple #[.int .i64 (j - i), .bool true]) (fun _ => True) (fun VF _ => ?_) trivial rfl ⟨rfl, B⟩
    simp [results, Tryd.results50, go_sem, *]
/-- Whether two moments can be held against each other, and how far they are apart. -/
def btB (y m d s : Int) (z : Bool) (o : Int) (y' m' d' s' : Int) (z' : Bool) (o' : Int) : Bool := mayN y m d s z o && mayN y' m' d' s' z' o' && (z == z')
def btI (y m d s : Int) (z : Bool) (o : Int) (y' m' d' s' : Int) (z' : Bool) (o' : Int) : Int := if btB y m d s z o y' m' d' s' z' o' then insV y' m' d' s' z' o' - insV y m d s z o else 0
theorem insV_range (y m d s : Int) (z : Bool) (o : Int) : -31557014135661600 ≤ insV y m d s z o ∧ insV y m d s z o ≤ 31556889832847400 := by
  unfold insV
  split
  · exact inst_range (mayN_true (by assumption)).1 (mayN_true (by assumption)).2
  · decide
theorem between_any (y m d s : Int) (z : Bool) (o : Int) (y' m' d' s' : Int) (z' : Bool) (o' : Int) (w : World) : Calls Tryd.prog 50 #[Mo y m d s z o, Mo y' m' d' s' z' o'] w (Ret (.tuple #[.int .i64 (btI y m d s z o y' m' d' s' z' o'), .bool (btB y m d s z o y' m' d' s' z' o')]) w) :=
  between_ints y m d s z o y' m' d' s' z' o' _ _ _ _ _ _ _ rfl rfl rfl (instant_any y m d s z o) (instant_any y' m' d' s' z' o') (by have := insV_range y m d s z o; have := insV_range y' m' d' s' z' o'; unfold I64; omega) w
theorem btI_of {y m d s : Int} {z : Bool} {o : Int} {y' m' d' s' : Int} {z' : Bool} {o' : Int} (h : Day y m d) (k : mayM s z o = true) (h' : Day y' m' d') (k' : mayM s' z' o' = true) (e : z = z') : btB y m d s z o y' m' d' s' z' o' = true ∧ btI y m d s z o y' m' d' s' z' o' = instI y' m' d' s' o' - instI y m d s o := by
  have b : btB y m d s z o y' m' d' s' z' o' = true := by
    unfold btB
    rw [mayN_of h k, mayN_of h' k', e]
    simp
  refine ⟨b, ?_⟩
  unfold btI insV
  rw [b, mayN_of h k, mayN_of h' k']
  rfl
/-- Whether a day and a time in a month are ahead of another day and time. -/
def ahB (d s d' s' : Int) : Bool := if d != d' then decide (d < d') else decide (s < s')
set_option maxRecDepth 100000 in
set_option maxHeartbeats 2000000 in
theorem ahead_any (y m d s : Int) (z : Bool) (o : Int) (y' m' d' s' : Int) (z' : Bool) (o' : Int) (w : World) : Calls Tryd.prog 94 #[Mo y m d s z o, Mo y' m' d' s' z' o'] w (Ret (.bool (ahB d s d' s')) w) := by
  unfold ahB
  obtain ⟨p, hp⟩ : ∃ p, (d != d') = p := ⟨_, rfl⟩
  rw [hp]
  go_enter Tryd.func94, Tryd.ntmps94
  go_upto_region 1 with fail
  have PA := Lib.hid (HoldsN.alloc (HoldsN.new rfl) _ : HoldsN ((w.alloc (MoC y m d s z o)).alloc (MoC y' m' d' s' z' o')) w.heap.size y m d s z o)
  have PB := Lib.hid (HoldsN.new (by simp) : HoldsN ((w.alloc (MoC y m d s z o)).alloc (MoC y' m' d' s' z' o')) (w.heap.size + 1) y' m' d' s' z' o')
  have B := ballD1 (ballD1 (Below.refl w.heap.size w) (MoC y m d s z o)) (MoC y' m' d' s' z' o')
  change Code.wp _ _ _ _ ((w.alloc (MoC y m d s z o)).alloc (MoC y' m' d' s' z' o'))
  generalize ((w.alloc (MoC y m d s z o)).alloc (MoC y' m' d' s' z' o')) = w0 at *
  cases p
  all_goals
    obtain ⟨⟨c0_0, c0_1, c0_2, c0_3, c0_4, c0_5⟩, -, c0z⟩ := PA.out
    obtain ⟨⟨c1_0, c1_1, c1_2, c1_3, c1_4, c1_5⟩, -, c1z⟩ := PB.out
    go_wp2
    go_ret
    exact ⟨congrArg Ending.returned (by simp [*]), B⟩
set_option maxRecDepth 100000 in
set_option maxHeartbeats 2000000 in
theorem behind_of (y m d s : Int) (z : Bool) (o : Int) (y' m' d' s' : Int) (z' : Bool) (o' : Int) (J Y M D S : Int) (Z : Bool) (O : Int) (ok q ah : Bool) (k : Int) (hah : ahB D S d s = ah) (k0 : ok = false → k = 0) (k1 : ok = true → ah = false → k = (Y - y) * 12 + M - m) (k2 : ok = true → ah = true → k = (Y - y) * 12 + M - m - 1) (IB0 : ∀ w : World, Calls Tryd.prog 45 #[Mo y' m' d' s' z' o'] w (Ret (.tuple #[.int .i64 J, .bool q]) w)) (OF0 : ∀ w : World, Calls Tryd.prog 46 #[.int .i64 J, Tm s z o] w (Ret (.tuple #[Mo Y M D S Z O, .bool ok]) w)) (r : (-999999999 ≤ y ∧ y ≤ 999999999) ∧ (-999999999 ≤ Y ∧ Y ≤ 999999999) ∧ (0 ≤ m ∧ m ≤ 12) ∧ (0 ≤ M ∧ M ≤ 12)) (w : World) : Calls Tryd.prog 78 #[Mo y m d s z o, Mo y' m' d' s' z' o'] w (Ret (.tuple #[.int .i64 k, .bool ok]) w) := by
  have f1 : wrap64 (Y - y) = Y - y := I64.wrap' (by unfold I64; omega)
  have f2 : wrap64 ((Y - y) * 12) = (Y - y) * 12 := I64.wrap' (by unfold I64; omega)
  have f3 : wrap64 ((Y - y) * 12 + M) = (Y - y) * 12 + M := I64.wrap' (by unfold I64; omega)
  have f4 : wrap64 ((Y - y) * 12 + M - m) = (Y - y) * 12 + M - m := I64.wrap' (by unfold I64; omega)
  have f5 : wrap64 ((Y - y) * 12 + M - m - 1) = (Y - y) * 12 + M - m - 1 := I64.wrap' (by unfold I64; omega)
  have g1 : IntKind.i64.wrap (Y - y) = Y - y := I64.wrap (by unfold I64; omega)
  have g2 : IntKind.i64.wrap ((Y - y) * 12) = (Y - y) * 12 := I64.wrap (by unfold I64; omega)
  have g3 : IntKind.i64.wrap ((Y - y) * 12 + M) = (Y - y) * 12 + M := I64.wrap (by unfold I64; omega)
  have g4 : IntKind.i64.wrap ((Y - y) * 12 + M - m) = (Y - y) * 12 + M - m := I64.wrap (by unfold I64; omega)
  have g5 : IntKind.i64.wrap ((Y - y) * 12 + M - m - 1) = (Y - y) * 12 + M - m - 1 := I64.wrap (by unfold I64; omega)
  have AH0 := ahead_any Y M D S Z O y m d s z o
  rw [hah] at AH0
  replace k0 := Lib.hid k0
  replace k1 := Lib.hid k1
  replace k2 := Lib.hid k2
  clear hah
  have IB := Lib.hid IB0
  have OF := Lib.hid OF0
  have AH := Lib.hid AH0
  clear IB0 OF0 AH0 r
  go_enter Tryd.func78, Tryd.ntmps78
  go_upto_region 1 with fail
  have PA := Lib.hid (HoldsN.alloc (HoldsN.new rfl) _ : HoldsN ((w.alloc (MoC y m d s z o)).alloc (MoC y' m' d' s' z' o')) w.heap.size y m d s z o)
  have PB := Lib.hid (HoldsN.new (by simp) : HoldsN ((w.alloc (MoC y m d s z o)).alloc (MoC y' m' d' s' z' o')) (w.heap.size + 1) y' m' d' s' z' o')
  have B := ballD1 (ballD1 (Below.refl w.heap.size w) (MoC y m d s z o)) (MoC y' m' d' s' z' o')
  change Code.wp _ _ _ _ ((w.alloc (MoC y m d s z o)).alloc (MoC y' m' d' s' z' o'))
  generalize ((w.alloc (MoC y m d s z o)).alloc (MoC y' m' d' s' z' o')) = w0 at *
  obtain ⟨⟨c0_0, c0_1, c0_2, c0_3, c0_4, c0_5⟩, -, c0z⟩ := PA.out
  obtain ⟨⟨c1_0, c1_1, c1_2, c1_3, c1_4, c1_5⟩, -, c1z⟩ := PB.out
  go_wp2_with fail
  refine (IB.out _).mono ?_
  rintro e w1 ⟨rfl, hb⟩
  replace PA := Lib.hid (PA.out.below hb)
  replace PB := Lib.hid (PB.out.below hb)
  replace B := bstep B hb
  clear hb IB
  clear c0_0 c0_1 c0_2 c0_3 c0_4 c0_5 c0z c1_0 c1_1 c1_2 c1_3 c1_4 c1_5 c1z
  obtain ⟨⟨c0_0, c0_1, c0_2, c0_3, c0_4, c0_5⟩, -, c0z⟩ := PA.out
  obtain ⟨⟨c1_0, c1_1, c1_2, c1_3, c1_4, c1_5⟩, -, c1z⟩ := PB.out
  go_wp2_with fail
  refine (OF.out _).mono ?_
  rintro e w2 ⟨rfl, hb⟩
  replace PA := Lib.hid (PA.out.below hb)
  replace PB := Lib.hid (PB.out.below hb)
  replace B := bstep B hb
  clear hb OF
  clear c0_0 c0_1 c0_2 c0_3 c0_4 c0_5 c0z c1_0 c1_1 c1_2 c1_3 c1_4 c1_5 c1z
  replace PA := Lib.hid (PA.out.alloc (MoC Y M D S Z O))
  replace PB := Lib.hid (PB.out.alloc (MoC Y M D S Z O))
  have PT := Lib.hid (HoldsN.new rfl : HoldsN (w2.alloc (MoC Y M D S Z O)) w2.heap.size Y M D S Z O)
  replace B := ballD1 B (MoC Y M D S Z O)
  go_upto_region 3 with fail
  change Code.wp _ _ _ _ (w2.alloc (MoC Y M D S Z O))
  generalize w2.alloc (MoC Y M D S Z O) = w3 at *
  obtain ⟨gPT, hg⟩ : ∃ g, g = w2.heap.size := ⟨_, rfl⟩
  rw [← hg] at PT ⊢
  clear hg
  cases ok
  · obtain rfl := k0.out (by trivial)
    clear k0 k1 k2
    obtain ⟨⟨c0_0, c0_1, c0_2, c0_3, c0_4, c0_5⟩, -, c0z⟩ := PA.out
    obtain ⟨⟨c1_0, c1_1, c1_2, c1_3, c1_4, c1_5⟩, -, c1z⟩ := PB.out
    obtain ⟨⟨c2_0, c2_1, c2_2, c2_3, c2_4, c2_5⟩, -, c2z⟩ := PT.out
    go_wp2
    refine ret_via (v := .tuple #[.int .i64 0, .bool false]) (fun _ => True) (fun VF _ => ?_) trivial rfl ⟨rfl, B⟩
    simp [results, Tryd.results78, go_sem, *]
  · obtain ⟨⟨c0_0, c0_1, c0_2, c0_3, c0_4, c0_5⟩, -, c0z⟩ := PA.out
    obtain ⟨⟨c1_0, c1_1, c1_2, c1_3, c1_4, c1_5⟩, -, c1z⟩ := PB.out
    obtain ⟨⟨c2_0, c2_1, c2_2, c2_3, c2_4, c2_5⟩, -, c2z⟩ := PT.out
    go_wp2_with fail
    refine (AH.out _).mono ?_
    rintro e w4 ⟨rfl, hb⟩
    replace PA := Lib.hid (PA.out.below hb)
    replace PB := Lib.hid (PB.out.below hb)
    replace PT := Lib.hid (PT.out.below hb)
    replace B := bstep B hb
    clear hb AH
    clear c0_0 c0_1 c0_2 c0_3 c0_4 c0_5 c0z c1_0 c1_1 c1_2 c1_3 c1_4 c1_5 c1z c2_0 c2_1 c2_2 c2_3 c2_4 c2_5 c2z
    cases ah
    · obtain rfl := k1.out (by trivial) (by trivial)
      clear k0 k1 k2
      obtain ⟨⟨c0_0, c0_1, c0_2, c0_3, c0_4, c0_5⟩, -, c0z⟩ := PA.out
      obtain ⟨⟨c1_0, c1_1, c1_2, c1_3, c1_4, c1_5⟩, -, c1z⟩ := PB.out
      obtain ⟨⟨c2_0, c2_1, c2_2, c2_3, c2_4, c2_5⟩, -, c2z⟩ := PT.out
      go_wp2
      refine ret_via (v := .tuple #[.int .i64 ((Y - y) * 12 + M - m), .bool true]) (fun _ => True) (fun VF _ => ?_) trivial rfl ⟨rfl, B⟩
      simp [results, Tryd.results78, go_sem, *]
    · obtain rfl := k2.out (by trivial) (by trivial)
      clear k0 k1 k2
      obtain ⟨⟨c0_0, c0_1, c0_2, c0_3, c0_4, c0_5⟩, -, c0z⟩ := PA.out
      obtain ⟨⟨c1_0, c1_1, c1_2, c1_3, c1_4, c1_5⟩, -, c1z⟩ := PB.out
      obtain ⟨⟨c2_0, c2_1, c2_2, c2_3, c2_4, c2_5⟩, -, c2z⟩ := PT.out
      go_wp2
      refine ret_via (v := .tuple #[.int .i64 ((Y - y) * 12 + M - m - 1), .bool true]) (fun _ => True) (fun VF _ => ?_) trivial rfl ⟨rfl, B⟩
      simp [results, Tryd.results78, go_sem, *]
set_option maxRecDepth 100000 in
set_option maxHeartbeats 2000000 in
theorem mb_no (y m d s : Int) (z : Bool) (o : Int) (y' m' d' s' : Int) (z' : Bool) (o' : Int) (n : Int) (BT0 : ∀ w : World, Calls Tryd.prog 50 #[Mo y m d s z o, Mo y' m' d' s' z' o'] w (Ret (.tuple #[.int .i64 n, .bool false]) w)) (w : World) : Calls Tryd.prog 53 #[Mo y m d s z o, Mo y' m' d' s' z' o'] w (Ret (.tuple #[.int .i64 0, .bool false]) w) := by
  have BT := Lib.hid BT0
  clear BT0
  go_enter Tryd.func53, Tryd.ntmps53
  go_upto_region 1 with fail
  have PA := Lib.hid (HoldsN.alloc (HoldsN.new rfl) _ : HoldsN ((w.alloc (MoC y m d s z o)).alloc (MoC y' m' d' s' z' o')) w.heap.size y m d s z o)
  have PB := Lib.hid (HoldsN.new (by simp) : HoldsN ((w.alloc (MoC y m d s z o)).alloc (MoC y' m' d' s' z' o')) (w.heap.size + 1) y' m' d' s' z' o')
  have B := ballD1 (ballD1 (Below.refl w.heap.size w) (MoC y m d s z o)) (MoC y' m' d' s' z' o')
  change Code.wp _ _ _ _ ((w.alloc (MoC y m d s z o)).alloc (MoC y' m' d' s' z' o'))
  generalize ((w.alloc (MoC y m d s z o)).alloc (MoC y' m' d' s' z' o')) = w0 at *
  obtain ⟨⟨c0_0, c0_1, c0_2, c0_3, c0_4, c0_5⟩, -, c0z⟩ := PA.out
  obtain ⟨⟨c1_0, c1_1, c1_2, c1_3, c1_4, c1_5⟩, -, c1z⟩ := PB.out
  go_wp2_with fail
  refine (BT.out _).mono ?_
  rintro e w1 ⟨rfl, hb⟩
  replace PA := Lib.hid (PA.out.below hb)
  replace PB := Lib.hid (PB.out.below hb)
  replace B := bstep B hb
  clear hb BT
  clear c0_0 c0_1 c0_2 c0_3 c0_4 c0_5 c0z c1_0 c1_1 c1_2 c1_3 c1_4 c1_5 c1z
  obtain ⟨⟨c0_0, c0_1, c0_2, c0_3, c0_4, c0_5⟩, -, c0z⟩ := PA.out
  obtain ⟨⟨c1_0, c1_1, c1_2, c1_3, c1_4, c1_5⟩, -, c1z⟩ := PB.out
  go_wp2
  refine ret_via (v := .tuple #[.int .i64 0, .bool false]) (fun _ => True) (fun VF _ => ?_) trivial rfl ⟨rfl, B⟩
  simp [results, Tryd.results53, go_sem, *]
set_option maxRecDepth 100000 in
set_option maxHeartbeats 2000000 in
theorem mb_up (y m d s : Int) (z : Bool) (o : Int) (y' m' d' s' : Int) (z' : Bool) (o' : Int) (n k : Int) (ok : Bool) (BT0 : ∀ w : World, Calls Tryd.prog 50 #[Mo y m d s z o, Mo y' m' d' s' z' o'] w (Ret (.tuple #[.int .i64 n, .bool true]) w)) (hn : 0 ≤ n) (MB0 : ∀ w : World, Calls Tryd.prog 78 #[Mo y m d s z o, Mo y' m' d' s' z' o'] w (Ret (.tuple #[.int .i64 k, .bool ok]) w)) (w : World) : Calls Tryd.prog 53 #[Mo y m d s z o, Mo y' m' d' s' z' o'] w (Ret (.tuple #[.int .i64 k, .bool ok]) w) := by
  have t1 : decide (n < 0) = false := decide_eq_false (by omega)
  have BT := Lib.hid BT0
  have MB := Lib.hid MB0
  clear BT0 MB0 hn
  go_enter Tryd.func53, Tryd.ntmps53
  go_upto_region 1 with fail
  have PA := Lib.hid (HoldsN.alloc (HoldsN.new rfl) _ : HoldsN ((w.alloc (MoC y m d s z o)).alloc (MoC y' m' d' s' z' o')) w.heap.size y m d s z o)
  have PB := Lib.hid (HoldsN.new (by simp) : HoldsN ((w.alloc (MoC y m d s z o)).alloc (MoC y' m' d' s' z' o')) (w.heap.size + 1) y' m' d' s' z' o')
  have B := ballD1 (ballD1 (Below.refl w.heap.size w) (MoC y m d s z o)) (MoC y' m' d' s' z' o')
  change Code.wp _ _ _ _ ((w.alloc (MoC y m d s z o)).alloc (MoC y' m' d' s' z' o'))
  generalize ((w.alloc (MoC y m d s z o)).alloc (MoC y' m' d' s' z' o')) = w0 at *
  obtain ⟨⟨c0_0, c0_1, c0_2, c0_3, c0_4, c0_5⟩, -, c0z⟩ := PA.out
  obtain ⟨⟨c1_0, c1_1, c1_2, c1_3, c1_4, c1_5⟩, -, c1z⟩ := PB.out
  go_wp2_with fail
  refine (BT.out _).mono ?_
  rintro e w1 ⟨rfl, hb⟩
  replace PA := Lib.hid (PA.out.below hb)
  replace PB := Lib.hid (PB.out.below hb)
  replace B := bstep B hb
  clear hb BT
  clear c0_0 c0_1 c0_2 c0_3 c0_4 c0_5 c0z c1_0 c1_1 c1_2 c1_3 c1_4 c1_5 c1z
  obtain ⟨⟨c0_0, c0_1, c0_2, c0_3, c0_4, c0_5⟩, -, c0z⟩ := PA.out
  obtain ⟨⟨c1_0, c1_1, c1_2, c1_3, c1_4, c1_5⟩, -, c1z⟩ := PB.out
  go_wp2_with fail
  refine (MB.out _).mono ?_
  rintro e w2 ⟨rfl, hb⟩
  replace PA := Lib.hid (PA.out.below hb)
  replace PB := Lib.hid (PB.out.below hb)
  replace B := bstep B hb
  clear hb MB
  clear c0_0 c0_1 c0_2 c0_3 c0_4 c0_5 c0z c1_0 c1_1 c1_2 c1_3 c1_4 c1_5 c1z
  obtain ⟨⟨c0_0, c0_1, c0_2, c0_3, c0_4, c0_5⟩, -, c0z⟩ := PA.out
  obtain ⟨⟨c1_0, c1_1, c1_2, c1_3, c1_4, c1_5⟩, -, c1z⟩ := PB.out
  go_wp2
  refine ret_via (v := .tuple #[.int .i64 k, .bool ok]) (fun _ => True) (fun VF _ => ?_) trivial rfl ⟨rfl, B⟩
  simp [results, Tryd.results53, go_sem, *]
set_option maxRecDepth 100000 in
set_option maxHeartbeats 2000000 in
theorem mb_down (y m d s : Int) (z : Bool) (o : Int) (y' m' d' s' : Int) (z' : Bool) (o' : Int) (n k : Int) (ok : Bool) (BT0 : ∀ w : World, Calls Tryd.prog 50 #[Mo y m d s z o, Mo y' m' d' s' z' o'] w (Ret (.tuple #[.int .i64 n, .bool true]) w)) (hn : n < 0) (hk : I64 (-k)) (MB0 : ∀ w : World, Calls Tryd.prog 78 #[Mo y' m' d' s' z' o', Mo y m d s z o] w (Ret (.tuple #[.int .i64 k, .bool ok]) w)) (w : World) : Calls Tryd.prog 53 #[Mo y m d s z o, Mo y' m' d' s' z' o'] w (Ret (.tuple #[.int .i64 (-k), .bool ok]) w) := by
  have t1 : decide (n < 0) = true := decide_eq_true hn
  have f1 : wrap64 (-k) = -k := hk.wrap'
  have g1 : IntKind.i64.wrap (-k) = -k := hk.wrap
  have BT := Lib.hid BT0
  have MB := Lib.hid MB0
  clear BT0 MB0 hn hk
  go_enter Tryd.func53, Tryd.ntmps53
  go_upto_region 1 with fail
  have PA := Lib.hid (HoldsN.alloc (HoldsN.new rfl) _ : HoldsN ((w.alloc (MoC y m d s z o)).alloc (MoC y' m' d' s' z' o')) w.heap.size y m d s z o)
  have PB := Lib.hid (HoldsN.new (by simp) : HoldsN ((w.alloc (MoC y m d s z o)).alloc (MoC y' m' d' s' z' o')) (w.heap.size + 1) y' m' d' s' z' o')
  have B := ballD1 (ballD1 (Below.refl w.heap.size w) (MoC y m d s z o)) (MoC y' m' d' s' z' o')
  change Code.wp _ _ _ _ ((w.alloc (MoC y m d s z o)).alloc (MoC y' m' d' s' z' o'))
  generalize ((w.alloc (MoC y m d s z o)).alloc (MoC y' m' d' s' z' o')) = w0 at *
  obtain ⟨⟨c0_0, c0_1, c0_2, c0_3, c0_4, c0_5⟩, -, c0z⟩ := PA.out
  obtain ⟨⟨c1_0, c1_1, c1_2, c1_3, c1_4, c1_5⟩, -, c1z⟩ := PB.out
  go_wp2_with fail
  refine (BT.out _).mono ?_
  rintro e w1 ⟨rfl, hb⟩
  replace PA := Lib.hid (PA.out.below hb)
  replace PB := Lib.hid (PB.out.below hb)
  replace B := bstep B hb
  clear hb BT
  clear c0_0 c0_1 c0_2 c0_3 c0_4 c0_5 c0z c1_0 c1_1 c1_2 c1_3 c1_4 c1_5 c1z
  obtain ⟨⟨c0_0, c0_1, c0_2, c0_3, c0_4, c0_5⟩, -, c0z⟩ := PA.out
  obtain ⟨⟨c1_0, c1_1, c1_2, c1_3, c1_4, c1_5⟩, -, c1z⟩ := PB.out
  go_wp2_with fail
  refine (MB.out _).mono ?_
  rintro e w2 ⟨rfl, hb⟩
  replace PA := Lib.hid (PA.out.below hb)
  replace PB := Lib.hid (PB.out.below hb)
  replace B := bstep B hb
  clear hb MB
  clear c0_0 c0_1 c0_2 c0_3 c0_4 c0_5 c0z c1_0 c1_1 c1_2 c1_3 c1_4 c1_5 c1z
  obtain ⟨⟨c0_0, c0_1, c0_2, c0_3, c0_4, c0_5⟩, -, c0z⟩ := PA.out
  obtain ⟨⟨c1_0, c1_1, c1_2, c1_3, c1_4, c1_5⟩, -, c1z⟩ := PB.out
  go_wp2
  refine ret_via (v := .tuple #[.int .i64 (-k), .bool ok]) (fun _ => True) (fun VF _ => ?_) trivial rfl ⟨rfl, B⟩
  simp [results, Tryd.results53, go_sem, *]
end Go.Proofs.YtkkddflclakphaaDoor

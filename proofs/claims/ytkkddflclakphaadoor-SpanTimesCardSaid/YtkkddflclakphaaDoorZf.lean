/-
  Durations by numbers: a number without its places as a duration (length of package span, whole of the statements), Times, Over, Ratio, each as a contract of its call.
-/
import Derived.Test.YtkkddflclakphaaDoorZa
import Derived.Test.YtkkddflclakphaaDoorE9
import Derived.Test.YtkkddflclakphaaDoorVall
import Derived.Test.YtkkddflclakphaaDoorTf
namespace Go.Proofs.YtkkddflclakphaaDoor
open Go.RowKit

abbrev DvC (n : Bool) (h l : Nat) (x : Int) : Obj := .cells #[.bool n, .int .u64 (h : Int), .int .u64 (l : Int), .int .i64 x] 34
theorem HoldsD.new {W : World} {g t : Nat} {n : Bool} {h l : Nat} {x : Int} (hg : g = W.heap.size) : HoldsD (W.alloc (.cells #[.bool n, .int .u64 (h : Int), .int .u64 (l : Int), .int .i64 x] t)) g n h l x := HoldsD.new4 hg
theorem B4 {w W : World} {g : Nat} (B : Below w.heap.size w W) (hg : w.heap.size ≤ g) (v0 v1 v2 v3 : Value) : Below w.heap.size w ((((W.setCell ⟨g, 0, none⟩ v0).setCell ⟨g, 1, none⟩ v1).setCell ⟨g, 2, none⟩ v2).setCell ⟨g, 3, none⟩ v3) :=
  Below.set1 (Below.set1 (Below.set1 (Below.set1 B _ _ hg _) _ _ hg _) _ _ hg _) _ _ hg _
/-- An int as a number. -/
theorem int_any (n : Int) (hn : I64 n) (w : World) : Calls Tryd.prog 18 #[.int .i64 n] w (Ret (Dv (decide (n < 0)) 0 n.natAbs 0) w) := by
  obtain ⟨h1, h2⟩ := hn
  by_cases k : n < 0
  · obtain ⟨x, rfl⟩ : ∃ x : Nat, n = -(x : Int) := ⟨n.natAbs, by omega⟩
    rw [decide_eq_true k, show (-(x : Int)).natAbs = x by omega]
    refine (int_neg x (by omega) (by omega) w).mono ?_
    rintro e w1 ⟨_, _, _, _, ⟨rfl, rfl, rfl, rfl⟩, rfl, hb⟩
    exact ⟨rfl, hb⟩
  · obtain ⟨x, rfl⟩ : ∃ x : Nat, n = (x : Int) := ⟨n.natAbs, by omega⟩
    rw [decide_eq_false k, show ((x : Int)).natAbs = x by omega]
    refine (int_yes x (by omega) w).mono ?_
    rintro e w1 ⟨_, _, _, _, ⟨rfl, rfl, rfl, rfl⟩, rfl, hb⟩
    exact ⟨rfl, hb⟩
/-- Whether what a number comes to, without its places, is a duration; which one. -/
def lnB : Option (Bool × Nat × Int) → Bool
  | none => false
  | some (s, c, x) => whB (rwF 5 s c x).1 (rwF 5 s c x).2.1 (rwF 5 s c x).2.2 && spB (whV (rwF 5 s c x).1 (rwF 5 s c x).2.1 (rwF 5 s c x).2.2)
def lnV : Option (Bool × Nat × Int) → Int
  | none => 0
  | some (s, c, x) => if lnB (some (s, c, x)) then whV (rwF 5 s c x).1 (rwF 5 s c x).2.1 (rwF 5 s c x).2.2 else 0
theorem lnV_no {o : Option (Bool × Nat × Int)} (h : lnB o = false) : lnV o = 0 := by
  match o with
  | none => rfl
  | some (s, c, x) => unfold lnV; simp only [h]; rfl
theorem lnV_may {o : Option (Bool × Nat × Int)} : spB (lnV o) = true := by
  cases h : lnB o
  · rw [lnV_no h]; decide
  · match o with
    | none => cases h
    | some (s, c, x) =>
      have k := h
      unfold lnB at h
      simp only [Bool.and_eq_true] at h
      unfold lnV
      simp only [k, if_true]
      exact h.2
/-- A number that may be, if there is one. -/
def OkO (o : Option (Bool × Nat × Int)) : Prop := ∀ s c x, o = some (s, c, x) → NumD c x ∧ (c = 0 → s = false)
set_option linter.unusedSimpArgs false in
set_option linter.unusedVariables false in
set_option maxRecDepth 100000 in
set_option maxHeartbeats 8000000 in
theorem len10_some (n : Bool) (h l : Nat) (x : Int) (k : WW h l) (num : NumD (nv h l) x) (z : nv h l = 0 → n = false) (w : World) (ht : Tab w) :
    Calls Tryd.prog 34 #[Dv n h l x, .bool true] w (Ret (.tuple #[.int .i64 (lnV (some (n, nv h l, x))), .bool (lnB (some (n, nv h l, x)))]) w) := by
  have HT := Lib.hid ht
  have WH0 := whole_r 5 (by decide) n h l x k num
  obtain ⟨⟨rs, rc, rx⟩, hr⟩ : ∃ r, rwF 5 n (nv h l) x = r := ⟨_, rfl⟩
  obtain ⟨rn, -, r0⟩ := rwF_num num z hr
  rw [hr] at WH0
  obtain ⟨Y, hY⟩ : ∃ Y, Y = lnB (some (n, nv h l, x)) := ⟨_, rfl⟩
  obtain ⟨V, hV⟩ : ∃ V, V = lnV (some (n, nv h l, x)) := ⟨_, rfl⟩
  rw [← hY, ← hV]
  replace hV : V = if lnB (some (n, nv h l, x)) then whV (rwF 5 n (nv h l) x).1 (rwF 5 n (nv h l) x).2.1 (rwF 5 n (nv h l) x).2.2 else 0 := hV
  replace hV : V = if Y then whV (rwF 5 n (nv h l) x).1 (rwF 5 n (nv h l) x).2.1 (rwF 5 n (nv h l) x).2.2 else 0 := by rw [hY]; exact hV
  replace hY : Y = (whB (rwF 5 n (nv h l) x).1 (rwF 5 n (nv h l) x).2.1 (rwF 5 n (nv h l) x).2.2 && spB (whV (rwF 5 n (nv h l) x).1 (rwF 5 n (nv h l) x).2.1 (rwF 5 n (nv h l) x).2.2)) := hY
  rw [hr] at hV hY
  replace hV : V = if Y then whV rs rc rx else 0 := hV
  replace hY : Y = (whB rs rc rx && spB (whV rs rc rx)) := hY
  have WB0 : ∀ a b : Nat, WW a b → nv a b = rc → ∀ w : World, Tab w → Calls Tryd.prog 36 #[Dv rs a b rx] w (RetIB (whV rs rc rx) (whB rs rc rx) w) := by
    intro a b ab e w hw
    have q := whole_any rs a b rx ab rn.2.1 rn.2.2 w hw
    rw [e] at q
    exact q
  have SM0 := span_may (whV rs rc rx)
  generalize whV rs rc rx = Z at *
  generalize whB rs rc rx = b at *
  generalize spB Z = p at *
  have WH := Lib.hid WH0
  have WB := Lib.hid WB0
  have SM := Lib.hid SM0
  have HV := Lib.hid hV
  have HY := Lib.hid hY
  clear WH0 WB0 SM0 hV hY hr rn r0 num z k ht
  go_enter Tryd.func34, Tryd.ntmps34
  go_upto_region 1 with fail
  have PD := Lib.hid (HoldsD.new rfl : HoldsD (w.alloc (DvC n h l x)) w.heap.size n h l x)
  have B := ballD1 (Below.refl w.heap.size w) (DvC n h l x)
  change Code.wp _ _ _ _ (w.alloc (DvC n h l x))
  generalize (w.alloc (DvC n h l x)) = w0 at *
  obtain ⟨⟨c0_0, c0_1, c0_2, c0_3⟩, -, c0z⟩ := PD.out
  go_wp2_with fail
  refine (WH.out _ (HT.out.below B)).mono ?_
  rintro e w1 ⟨wn, wh, wl, wx, WR, we, rfl, hb⟩
  replace PD := Lib.hid (PD.out.below hb)
  replace B := bstep B hb
  clear hb WH
  clear c0_0 c0_1 c0_2 c0_3 c0z
  obtain ⟨rfl, we2, rfl⟩ : wn = rs ∧ nv wh wl = rc ∧ wx = rx := by simpa using we
  clear we
  have WA := Lib.hid (WB.out wh wl WR we2)
  clear WB WR we2
  obtain ⟨⟨c0_0, c0_1, c0_2, c0_3⟩, -, c0z⟩ := PD.out
  go_wp2_with fail
  refine (WA.out _ (HT.out.below B)).mono ?_
  rintro e w2 ⟨rfl, hb⟩
  replace PD := Lib.hid (PD.out.below hb)
  replace B := bstep B hb
  clear hb WA
  clear c0_0 c0_1 c0_2 c0_3 c0z
  cases b
  · clear SM PD
    go_wp2
    refine ret_via (v := .tuple #[.int .i64 0, .bool false]) (fun _ => True) (fun VF _ => ?_) trivial rfl ⟨by rw [HV.out, HY.out]; rfl, B⟩
    simp [results, Tryd.results34, go_sem, *]
  · clear PD
    go_wp2_with fail
    refine (SM.out _).mono ?_
    rintro e w3 ⟨rfl, hb⟩
    replace B := bstep B hb
    clear hb SM
    cases p
    · go_wp2
      refine ret_via (v := .tuple #[.int .i64 0, .bool false]) (fun _ => True) (fun VF _ => ?_) trivial rfl ⟨by rw [HV.out, HY.out]; rfl, B⟩
      simp [results, Tryd.results34, go_sem, *]
    · go_wp2
      refine ret_via (v := .tuple #[.int .i64 Z, .bool true]) (fun _ => True) (fun VF _ => ?_) trivial rfl ⟨by rw [HV.out, HY.out]; rfl, B⟩
      simp [results, Tryd.results34, go_sem, *]
set_option linter.unusedSimpArgs false in
set_option linter.unusedVariables false in
set_option maxRecDepth 100000 in
set_option maxHeartbeats 8000000 in
theorem len10_none (w : World) (ht : Tab w) : Calls Tryd.prog 34 #[.agg #[.bool false, .int .u64 0, .int .u64 0, .int .i64 0], .bool false] w (Ret (.tuple #[.int .i64 0, .bool false]) w) := by
  clear ht
  go_enter Tryd.func34, Tryd.ntmps34
  go_wp2
  refine ret_via (v := .tuple #[.int .i64 0, .bool false]) (fun _ => True) (fun VF _ => ?_) trivial rfl ⟨rfl, by go_grown⟩
  simp [results, Tryd.results34, go_sem, *]
theorem len10_any {o : Option (Bool × Nat × Int)} (ok : OkO o) (n : Bool) (h l : Nat) (x : Int) (b : Bool) (N : NumO o n h l x b) (w : World) (ht : Tab w) :
    Calls Tryd.prog 34 #[Dv n h l x, .bool b] w (Ret (.tuple #[.int .i64 (lnV o), .bool (lnB o)]) w) := by
  match o with
  | none =>
    obtain ⟨-, rfl, rfl, rfl, rfl, rfl⟩ := N
    exact len10_none w ht
  | some (s, c, e) =>
    obtain ⟨k, rfl, rfl, rfl, rfl⟩ := N
    obtain ⟨num, z⟩ := ok _ _ _ rfl
    exact len10_some n h l x k num z w ht
set_option linter.unusedSimpArgs false in
set_option linter.unusedVariables false in
set_option maxRecDepth 100000 in
set_option maxHeartbeats 8000000 in
theorem whole10_some (n : Bool) (h l : Nat) (x : Int) (k : WW h l) (num : NumD (nv h l) x) (z : nv h l = 0 → n = false) (w : World) (ht : Tab w) :
    Calls Tryd.prog 16 #[Dv n h l x, .bool true] w (Ret (.tuple #[.int .i64 (lnV (some (n, nv h l, x))), .bool (lnB (some (n, nv h l, x)))]) w) := by
  have HT := Lib.hid ht
  have WH0 := whole_r 5 (by decide) n h l x k num
  obtain ⟨⟨rs, rc, rx⟩, hr⟩ : ∃ r, rwF 5 n (nv h l) x = r := ⟨_, rfl⟩
  obtain ⟨rn, -, r0⟩ := rwF_num num z hr
  rw [hr] at WH0
  obtain ⟨Y, hY⟩ : ∃ Y, Y = lnB (some (n, nv h l, x)) := ⟨_, rfl⟩
  obtain ⟨V, hV⟩ : ∃ V, V = lnV (some (n, nv h l, x)) := ⟨_, rfl⟩
  rw [← hY, ← hV]
  replace hV : V = if lnB (some (n, nv h l, x)) then whV (rwF 5 n (nv h l) x).1 (rwF 5 n (nv h l) x).2.1 (rwF 5 n (nv h l) x).2.2 else 0 := hV
  replace hV : V = if Y then whV (rwF 5 n (nv h l) x).1 (rwF 5 n (nv h l) x).2.1 (rwF 5 n (nv h l) x).2.2 else 0 := by rw [hY]; exact hV
  replace hY : Y = (whB (rwF 5 n (nv h l) x).1 (rwF 5 n (nv h l) x).2.1 (rwF 5 n (nv h l) x).2.2 && spB (whV (rwF 5 n (nv h l) x).1 (rwF 5 n (nv h l) x).2.1 (rwF 5 n (nv h l) x).2.2)) := hY
  rw [hr] at hV hY
  replace hV : V = if Y then whV rs rc rx else 0 := hV
  replace hY : Y = (whB rs rc rx && spB (whV rs rc rx)) := hY
  have WB0 : ∀ a b : Nat, WW a b → nv a b = rc → ∀ w : World, Tab w → Calls Tryd.prog 36 #[Dv rs a b rx] w (RetIB (whV rs rc rx) (whB rs rc rx) w) := by
    intro a b ab e w hw
    have q := whole_any rs a b rx ab rn.2.1 rn.2.2 w hw
    rw [e] at q
    exact q
  have SM0 := law_may (whV rs rc rx)
  generalize whV rs rc rx = Z at *
  generalize whB rs rc rx = b at *
  generalize spB Z = p at *
  have WH := Lib.hid WH0
  have WB := Lib.hid WB0
  have SM := Lib.hid SM0
  have HV := Lib.hid hV
  have HY := Lib.hid hY
  clear WH0 WB0 SM0 hV hY hr rn r0 num z k ht
  go_enter Tryd.func16, Tryd.ntmps16
  go_upto_region 1 with fail
  have PD := Lib.hid (HoldsD.new rfl : HoldsD (w.alloc (DvC n h l x)) w.heap.size n h l x)
  have B := ballD1 (Below.refl w.heap.size w) (DvC n h l x)
  change Code.wp _ _ _ _ (w.alloc (DvC n h l x))
  generalize (w.alloc (DvC n h l x)) = w0 at *
  obtain ⟨⟨c0_0, c0_1, c0_2, c0_3⟩, -, c0z⟩ := PD.out
  go_wp2_with fail
  refine (WH.out _ (HT.out.below B)).mono ?_
  rintro e w1 ⟨wn, wh, wl, wx, WR, we, rfl, hb⟩
  replace PD := Lib.hid (PD.out.below hb)
  replace B := bstep B hb
  clear hb WH
  clear c0_0 c0_1 c0_2 c0_3 c0z
  obtain ⟨rfl, we2, rfl⟩ : wn = rs ∧ nv wh wl = rc ∧ wx = rx := by simpa using we
  clear we
  have WA := Lib.hid (WB.out wh wl WR we2)
  clear WB WR we2
  obtain ⟨⟨c0_0, c0_1, c0_2, c0_3⟩, -, c0z⟩ := PD.out
  go_wp2_with fail
  refine (WA.out _ (HT.out.below B)).mono ?_
  rintro e w2 ⟨rfl, hb⟩
  replace PD := Lib.hid (PD.out.below hb)
  replace B := bstep B hb
  clear hb WA
  clear c0_0 c0_1 c0_2 c0_3 c0z
  cases b
  · clear SM PD
    go_wp2
    refine ret_via (v := .tuple #[.int .i64 0, .bool false]) (fun _ => True) (fun VF _ => ?_) trivial rfl ⟨by rw [HV.out, HY.out]; rfl, B⟩
    simp [results, Tryd.results16, go_sem, *]
  · clear PD
    go_wp2_with fail
    refine (SM.out _).mono ?_
    rintro e w3 ⟨rfl, hb⟩
    replace B := bstep B hb
    clear hb SM
    cases p
    · go_wp2
      refine ret_via (v := .tuple #[.int .i64 0, .bool false]) (fun _ => True) (fun VF _ => ?_) trivial rfl ⟨by rw [HV.out, HY.out]; rfl, B⟩
      simp [results, Tryd.results16, go_sem, *]
    · go_wp2
      refine ret_via (v := .tuple #[.int .i64 Z, .bool true]) (fun _ => True) (fun VF _ => ?_) trivial rfl ⟨by rw [HV.out, HY.out]; rfl, B⟩
      simp [results, Tryd.results16, go_sem, *]
set_option linter.unusedSimpArgs false in
set_option linter.unusedVariables false in
set_option maxRecDepth 100000 in
set_option maxHeartbeats 8000000 in
theorem whole10_none (w : World) (ht : Tab w) : Calls Tryd.prog 16 #[.agg #[.bool false, .int .u64 0, .int .u64 0, .int .i64 0], .bool false] w (Ret (.tuple #[.int .i64 0, .bool false]) w) := by
  have HT := Lib.hid ht
  have WH0 := whole_r 5 (by decide) false 0 0 0 (ww1 (by decide)) (by rw [nv01]; decide)
  rw [nv01, show rwF 5 false 0 0 = (false, 0, 0) by unfold rwF; rw [if_pos (by decide)]] at WH0
  have WB0 : ∀ a b : Nat, WW a b → nv a b = 0 → ∀ w : World, Tab w → Calls Tryd.prog 36 #[Dv false a b 0] w (RetIB (whV false 0 0) (whB false 0 0) w) := by
    intro a b ab e w hw
    have q := whole_any false a b 0 ab (by decide) (by decide) w hw
    rw [e] at q
    exact q
  generalize whV false 0 0 = Z at *
  generalize whB false 0 0 = b at *
  have WH := Lib.hid WH0
  have WB := Lib.hid WB0
  clear WH0 WB0 ht
  go_enter Tryd.func16, Tryd.ntmps16
  go_wp2_with fail
  refine (WH.out _ (HT.out.below (by go_grown))).mono ?_
  rintro e w1 ⟨wn, wh, wl, wx, WR, we, rfl, hb⟩
  have B : Below w.heap.size w w1 := bstep (by go_grown) hb
  obtain ⟨rfl, we2, rfl⟩ : wn = false ∧ nv wh wl = 0 ∧ wx = 0 := by simpa using we
  have WA := Lib.hid (WB.out wh wl WR we2)
  clear we hb WH WB WR we2
  go_wp2_with fail
  refine (WA.out _ (HT.out.below B)).mono ?_
  rintro e w2 ⟨rfl, hb⟩
  replace B := bstep B hb
  clear hb WA
  go_wp2
  refine ret_via (v := .tuple #[.int .i64 0, .bool false]) (fun _ => True) (fun VF _ => ?_) trivial rfl ⟨rfl, B⟩
  simp [results, Tryd.results16, go_sem, *]
theorem whole10_any {o : Option (Bool × Nat × Int)} (ok : OkO o) (n : Bool) (h l : Nat) (x : Int) (b : Bool) (N : NumO o n h l x b) (w : World) (ht : Tab w) :
    Calls Tryd.prog 16 #[Dv n h l x, .bool b] w (Ret (.tuple #[.int .i64 (lnV o), .bool (lnB o)]) w) := by
  match o with
  | none =>
    obtain ⟨-, rfl, rfl, rfl, rfl, rfl⟩ := N
    exact whole10_none w ht
  | some (s, c, e) =>
    obtain ⟨k, rfl, rfl, rfl, rfl⟩ := N
    obtain ⟨num, z⟩ := ok _ _ _ rfl
    exact whole10_some n h l x k num z w ht
theorem mul_ok {na nb : Bool} {ca cb : Nat} {ea eb : Int} (ha : ca < 18446744073709551616) (hb : cb < 10 ^ 34) : OkO (mulF na ca ea nb cb eb) := by
  intro s c x e
  unfold mulF at e
  have := fitF_may e (Nat.lt_trans (Nat.mul_lt_mul'' ha hb) (by unfold B128; decide))
  exact ⟨this.2.1, this.2.2⟩
theorem div_ok {na nb : Bool} {ca cb : Nat} {ea eb : Int} {o : Option (Bool × Nat × Int)} (D : DivP na ca ea nb cb eb o) (ha : ca < 18446744073709551616) : OkO o := by
  rintro s c x rfl
  exact DivP_num D (Nat.lt_trans ha (by decide))
theorem abs_lt {n : Int} (h : I64 n) : n.natAbs < 18446744073709551616 := by
  obtain ⟨a, b⟩ := h
  omega
theorem abs_num {n : Int} (h : I64 n) : NumD (nv 0 n.natAbs) 0 := by
  rw [nv01]
  exact ⟨Nat.lt_trans (abs_lt h) (by decide), by decide, by decide⟩
theorem may_I64 {n : Int} (h : spB n = true) : I64 n := by
  have := spB_yes.1 h
  unfold I64
  omega
/-- A duration by a number, or none. -/
def RetOv (P : Option (Bool × Nat × Int) → Prop) (w : World) (e : Ending) (w' : World) : Prop := ∃ o, P o ∧ Ret (.tuple #[.int .i64 (lnV o), .bool (lnB o)]) w e w'
set_option linter.unusedSimpArgs false in
set_option linter.unusedVariables false in
set_option maxRecDepth 100000 in
set_option maxHeartbeats 8000000 in
theorem times_no (n : Int) (nb : Bool) (h l : Nat) (x : Int) (hn : spB n = false) (w : World) : Calls Tryd.prog 14 #[.int .i64 n, Dv nb h l x] w (Ret (.tuple #[.int .i64 0, .bool false]) w) := by
  have SM0 := span_may n
  rw [hn] at SM0
  have SM := Lib.hid SM0
  clear SM0 hn
  go_enter Tryd.func14, Tryd.ntmps14
  go_upto_region 1 with fail
  have PD := Lib.hid (HoldsD.new rfl : HoldsD (w.alloc (DvC nb h l x)) w.heap.size nb h l x)
  have B := ballD1 (Below.refl w.heap.size w) (DvC nb h l x)
  change Code.wp _ _ _ _ (w.alloc (DvC nb h l x))
  generalize (w.alloc (DvC nb h l x)) = w0 at *
  obtain ⟨⟨c0_0, c0_1, c0_2, c0_3⟩, -, c0z⟩ := PD.out
  go_wp2_with fail
  refine (SM.out _).mono ?_
  rintro e w1 ⟨rfl, hb⟩
  replace PD := Lib.hid (PD.out.below hb)
  replace B := bstep B hb
  clear hb SM
  clear c0_0 c0_1 c0_2 c0_3 c0z
  clear PD
  go_wp2
  refine ret_via (v := .tuple #[.int .i64 0, .bool false]) (fun _ => True) (fun VF _ => ?_) trivial rfl ⟨rfl, B⟩
  simp [results, Tryd.results14, go_sem, *]
set_option linter.unusedSimpArgs false in
set_option linter.unusedVariables false in
set_option maxRecDepth 100000 in
set_option maxHeartbeats 8000000 in
theorem times_yes (n : Int) (nb : Bool) (h l : Nat) (x : Int) (hn : spB n = true) (k : WW h l) (num : NumD (nv h l) x) (w : World) (ht : Tab w) : Calls Tryd.prog 14 #[.int .i64 n, Dv nb h l x] w (Ret (.tuple #[.int .i64 (lnV (mulF (decide (n < 0)) n.natAbs 0 nb (nv h l) x)), .bool (lnB (mulF (decide (n < 0)) n.natAbs 0 nb (nv h l) x))]) w) := by
  have HT := Lib.hid ht
  have i := may_I64 hn
  have SM0 := span_may n
  rw [hn] at SM0
  have SM := Lib.hid SM0
  have IN := Lib.hid (int_any n i)
  have MU0 := mulD_any (decide (n < 0)) 0 n.natAbs 0 nb h l x (ww1 (abs_lt i)) k (by decide) (by decide) num.2.1 num.2.2
  rw [nv01] at MU0
  have LEN0 := @len10_any _ (mul_ok (na := decide (n < 0)) (nb := nb) (ea := 0) (eb := x) (abs_lt i) num.1)
  generalize mulF (decide (n < 0)) n.natAbs 0 nb (nv h l) x = o at *
  generalize lnV o = Vv at *
  generalize lnB o = Yy at *
  have MU := Lib.hid MU0
  have LEN := Lib.hid LEN0
  clear MU0 LEN0
  clear SM0 hn i k num ht
  generalize decide (n < 0) = sn at *
  generalize n.natAbs = an at *
  go_enter Tryd.func14, Tryd.ntmps14
  go_upto_region 1 with fail
  have PD := Lib.hid (HoldsD.new rfl : HoldsD (w.alloc (DvC nb h l x)) w.heap.size nb h l x)
  have B := ballD1 (Below.refl w.heap.size w) (DvC nb h l x)
  change Code.wp _ _ _ _ (w.alloc (DvC nb h l x))
  generalize (w.alloc (DvC nb h l x)) = w0 at *
  obtain ⟨⟨c0_0, c0_1, c0_2, c0_3⟩, -, c0z⟩ := PD.out
  go_wp2_with fail
  refine (SM.out _).mono ?_
  rintro e w1 ⟨rfl, hb⟩
  replace PD := Lib.hid (PD.out.below hb)
  replace B := bstep B hb
  clear hb SM
  clear c0_0 c0_1 c0_2 c0_3 c0z
  go_upto_region 3 with fail
  refine wp_region_held_drew (S := fun w' => w'.cell? ⟨w.heap.size, 0, none⟩ = some (.bool nb) ∧ w'.cell? ⟨w.heap.size, 1, none⟩ = some (.int .u64 (h : Int)) ∧ w'.cell? ⟨w.heap.size, 2, none⟩ = some (.int .u64 (l : Int)) ∧ w'.cell? ⟨w.heap.size, 3, none⟩ = some (.int .i64 x) ∧ Below w1.heap.size w1 w') (by kernel_rfl) ?_ (fun hHeld => ?_)
  · exact (have hk := (Below.refl _ _).drew; ⟨(PD.out.below hk).1.1, (PD.out.below hk).1.2.1, (PD.out.below hk).1.2.2.1, (PD.out.below hk).1.2.2.2, hk⟩)
  refine wpAnyH_take (i := 0) (oi := { dst := some 9, op := Go.Op.move (Go.Operand.tmp 0), type := 3, pos := "span.go:34", after := #[], guard := none }) (v := ?_) rfl (by kernel_rfl) (by kernel_rfl) (by kernel_rfl) (fun _ _ _ h => h) (Or.inl ⟨by rfl, ?_⟩) (by assumption) ?_
  rotate_left
  · intro w hSw
    try dsimp only at hSw
    go_simp
    try with_reducible rfl
  try simp only [Act.put, List.setIfInBounds_toArray, List.set_cons_zero, List.set_cons_succ]
  refine wpAnyH_take (i := 2) (oi := { dst := some 11, op := Go.Op.load 34 (Go.Operand.tmp 3), type := 34, pos := "span.go:34", after := #[], guard := none }) (v := ?_) rfl (by kernel_rfl) (by kernel_rfl) (by kernel_rfl) (fun _ _ _ h => h) (Or.inl ⟨by rfl, ?_⟩) (by assumption) ?_
  rotate_left
  · intro w hSw
    try dsimp only at hSw
    go_simp
    try with_reducible rfl
  try simp only [Act.put, List.setIfInBounds_toArray, List.set_cons_zero, List.set_cons_succ]
  refine wpAnyH_ready (rs := [1]) (by kernel_rfl) (by simp) ?_
  refine AllReadyH.cons (o := { dst := some 10, op := Go.Op.call { callee := Go.Callee.value (Go.Operand.func 18), args := #[Go.Operand.tmp 9], argTypes := #[3] }, type := 34, pos := "span.go:34", after := #[{ on := 0, ground := Go.Ground.data }], guard := none }) rfl (fun K hK => ?_) AllReadyH.nil
  go_simp
  refine (IN.out _).mono ?_
  rintro e v1 ⟨rfl, hb1⟩
  have HBx := Lib.hid (bstep hHeld.2.2.2.2 hb1)
  clear hHeld hb1
  refine hK.out _ _ ?_ (fun hHeld => ?_)
  · exact (have hk := HBx.out; ⟨(PD.out.below hk).1.1, (PD.out.below hk).1.2.1, (PD.out.below hk).1.2.2.1, (PD.out.below hk).1.2.2.2, hk⟩)
  clear hK K HBx
  try simp only [Act.put, List.setIfInBounds_toArray, List.set_cons_zero, List.set_cons_succ]
  refine wpAnyH_ready (rs := [3]) (by kernel_rfl) (by simp) ?_
  refine AllReadyH.cons (o := { dst := some 12, op := Go.Op.call { callee := Go.Callee.value (Go.Operand.func 17), args := #[Go.Operand.tmp 10, Go.Operand.tmp 11], argTypes := #[34, 34] }, type := 38, pos := "span.go:34", after := #[{ on := 1, ground := Go.Ground.data }, { on := 2, ground := Go.Ground.data }, { on := 1, ground := Go.Ground.chain }], guard := none }) rfl (fun K hK => ?_) AllReadyH.nil
  go_simp
  refine (MU.out _ (HT.out.below (bstep B hHeld.2.2.2.2))).mono ?_
  rintro e v2 ⟨mn, mh, ml, mx, mok, MN, rfl, hb2⟩
  have HBx := Lib.hid (bstep hHeld.2.2.2.2 hb2)
  clear hHeld hb2
  refine hK.out _ _ ?_ (fun hHeld => ?_)
  · exact (have hk := HBx.out; ⟨(PD.out.below hk).1.1, (PD.out.below hk).1.2.1, (PD.out.below hk).1.2.2.1, (PD.out.below hk).1.2.2.2, hk⟩)
  clear hK K HBx
  try simp only [Act.put, List.setIfInBounds_toArray, List.set_cons_zero, List.set_cons_succ]
  refine wpAnyH_take (i := 4) (oi := { dst := some 13, op := Go.Op.extract (Go.Operand.tmp 12) 0, type := 34, pos := "span.go:34", after := #[{ on := 3, ground := Go.Ground.data }], guard := none }) (v := ?_) rfl (by kernel_rfl) (by kernel_rfl) (by kernel_rfl) (fun _ _ _ h => h) (Or.inl ⟨by rfl, ?_⟩) (by assumption) ?_
  rotate_left
  · intro w hSw
    try dsimp only at hSw
    go_simp
    try with_reducible rfl
  try simp only [Act.put, List.setIfInBounds_toArray, List.set_cons_zero, List.set_cons_succ]
  refine wpAnyH_take (i := 5) (oi := { dst := some 14, op := Go.Op.extract (Go.Operand.tmp 12) 1, type := 4, pos := "span.go:34", after := #[{ on := 3, ground := Go.Ground.data }], guard := none }) (v := ?_) rfl (by kernel_rfl) (by kernel_rfl) (by kernel_rfl) (fun _ _ _ h => h) (Or.inl ⟨by rfl, ?_⟩) (by assumption) ?_
  rotate_left
  · intro w hSw
    try dsimp only at hSw
    go_simp
    try with_reducible rfl
  try simp only [Act.put, List.setIfInBounds_toArray, List.set_cons_zero, List.set_cons_succ]
  refine wpAnyH_ready (rs := [6]) (by kernel_rfl) (by simp) ?_
  refine AllReadyH.cons (o := { dst := some 15, op := Go.Op.call { callee := Go.Callee.value (Go.Operand.func 34), args := #[Go.Operand.tmp 13, Go.Operand.tmp 14], argTypes := #[34, 4] }, type := 23, pos := "span.go:34", after := #[{ on := 4, ground := Go.Ground.data }, { on := 5, ground := Go.Ground.data }, { on := 3, ground := Go.Ground.chain }], guard := none }) rfl (fun K hK => ?_) AllReadyH.nil
  go_simp
  refine (LEN.out mn mh ml mx mok MN _ (HT.out.below (bstep B hHeld.2.2.2.2))).mono ?_
  rintro e v3 ⟨rfl, hb3⟩
  have HBx := Lib.hid (bstep hHeld.2.2.2.2 hb3)
  clear hHeld hb3
  refine hK.out _ _ ?_ (fun hHeld => ?_)
  · exact (have hk := HBx.out; ⟨(PD.out.below hk).1.1, (PD.out.below hk).1.2.1, (PD.out.below hk).1.2.2.1, (PD.out.below hk).1.2.2.2, hk⟩)
  clear hK K HBx
  try simp only [Act.put, List.setIfInBounds_toArray, List.set_cons_zero, List.set_cons_succ]
  refine wpAnyH_take (i := 7) (oi := { dst := some 16, op := Go.Op.extract (Go.Operand.tmp 15) 0, type := 3, pos := "span.go:34", after := #[{ on := 6, ground := Go.Ground.data }], guard := none }) (v := ?_) rfl (by kernel_rfl) (by kernel_rfl) (by kernel_rfl) (fun _ _ _ h => h) (Or.inl ⟨by rfl, ?_⟩) (by assumption) ?_
  rotate_left
  · intro w hSw
    try dsimp only at hSw
    go_simp
    try with_reducible rfl
  try simp only [Act.put, List.setIfInBounds_toArray, List.set_cons_zero, List.set_cons_succ]
  refine wpAnyH_take (i := 8) (oi := { dst := some 17, op := Go.Op.extract (Go.Operand.tmp 15) 1, type := 4, pos := "span.go:34", after := #[{ on := 6, ground := Go.Ground.data }], guard := none }) (v := ?_) rfl (by kernel_rfl) (by kernel_rfl) (by kernel_rfl) (fun _ _ _ h => h) (Or.inl ⟨by rfl, ?_⟩) (by assumption) ?_
  rotate_left
  · intro w hSw
    try dsimp only at hSw
    go_simp
    try with_reducible rfl
  try simp only [Act.put, List.setIfInBounds_toArray, List.set_cons_zero, List.set_cons_succ]
  refine wpAnyH_take (i := 9) (oi := { dst := some 4, op := Go.Op.assign (Go.Operand.tmp 16), type := 3, pos := "span.go:34", after := #[{ on := 7, ground := Go.Ground.data }, { on := 6, ground := Go.Ground.chain }, { on := 0, ground := Go.Ground.phase }, { on := 1, ground := Go.Ground.phase }, { on := 2, ground := Go.Ground.phase }, { on := 3, ground := Go.Ground.phase }, { on := 4, ground := Go.Ground.phase }, { on := 5, ground := Go.Ground.phase }, { on := 6, ground := Go.Ground.phase }, { on := 7, ground := Go.Ground.phase }, { on := 8, ground := Go.Ground.phase }], guard := none }) (v := ?_) rfl (by kernel_rfl) (by kernel_rfl) (by kernel_rfl) (fun _ _ _ h => h) (Or.inl ⟨by rfl, ?_⟩) (by assumption) ?_
  rotate_left
  · intro w hSw
    try dsimp only at hSw
    go_simp
    try with_reducible rfl
  try simp only [Act.put, List.setIfInBounds_toArray, List.set_cons_zero, List.set_cons_succ]
  refine wpAnyH_take (i := 10) (oi := { dst := some 5, op := Go.Op.assign (Go.Operand.tmp 17), type := 4, pos := "span.go:34", after := #[{ on := 8, ground := Go.Ground.data }, { on := 9, ground := Go.Ground.chain }, { on := 0, ground := Go.Ground.phase }, { on := 1, ground := Go.Ground.phase }, { on := 2, ground := Go.Ground.phase }, { on := 3, ground := Go.Ground.phase }, { on := 4, ground := Go.Ground.phase }, { on := 5, ground := Go.Ground.phase }, { on := 6, ground := Go.Ground.phase }, { on := 7, ground := Go.Ground.phase }, { on := 8, ground := Go.Ground.phase }, { on := 9, ground := Go.Ground.phase }], guard := none }) (v := ?_) rfl (by kernel_rfl) (by kernel_rfl) (by kernel_rfl) (fun _ _ _ h => h) (Or.inl ⟨by rfl, ?_⟩) (by assumption) ?_
  rotate_left
  · intro w hSw
    try dsimp only at hSw
    go_simp
    try with_reducible rfl
  try simp only [Act.put, List.setIfInBounds_toArray, List.set_cons_zero, List.set_cons_succ]
  refine wpAnyH_done (by kernel_rfl) ?_ _
  replace B := bstep B hHeld.2.2.2.2
  replace PD := Lib.hid (PD.out.below hHeld.2.2.2.2)
  clear hHeld
  clear PD
  go_wp2
  refine ret_via (v := .tuple #[.int .i64 Vv, .bool Yy]) (fun _ => True) (fun VF _ => ?_) trivial rfl ⟨rfl, B⟩
  simp [results, Tryd.results14, go_sem, *]
set_option linter.unusedSimpArgs false in
set_option linter.unusedVariables false in
set_option maxRecDepth 100000 in
set_option maxHeartbeats 8000000 in
theorem over_no (n : Int) (nb : Bool) (h l : Nat) (x : Int) (hn : spB n = false) (w : World) : Calls Tryd.prog 15 #[.int .i64 n, Dv nb h l x] w (Ret (.tuple #[.int .i64 0, .bool false]) w) := by
  have SM0 := span_may n
  rw [hn] at SM0
  have SM := Lib.hid SM0
  clear SM0 hn
  go_enter Tryd.func15, Tryd.ntmps15
  go_upto_region 1 with fail
  have PD := Lib.hid (HoldsD.new rfl : HoldsD (w.alloc (DvC nb h l x)) w.heap.size nb h l x)
  have B := ballD1 (Below.refl w.heap.size w) (DvC nb h l x)
  change Code.wp _ _ _ _ (w.alloc (DvC nb h l x))
  generalize (w.alloc (DvC nb h l x)) = w0 at *
  obtain ⟨⟨c0_0, c0_1, c0_2, c0_3⟩, -, c0z⟩ := PD.out
  go_wp2_with fail
  refine (SM.out _).mono ?_
  rintro e w1 ⟨rfl, hb⟩
  replace PD := Lib.hid (PD.out.below hb)
  replace B := bstep B hb
  clear hb SM
  clear c0_0 c0_1 c0_2 c0_3 c0z
  clear PD
  go_wp2
  refine ret_via (v := .tuple #[.int .i64 0, .bool false]) (fun _ => True) (fun VF _ => ?_) trivial rfl ⟨rfl, B⟩
  simp [results, Tryd.results15, go_sem, *]
set_option linter.unusedSimpArgs false in
set_option linter.unusedVariables false in
set_option maxRecDepth 100000 in
set_option maxHeartbeats 8000000 in
theorem over_yes (n : Int) (nb : Bool) (h l : Nat) (x : Int) (hn : spB n = true) (k : WW h l) (num : NumD (nv h l) x) (w : World) (ht : Tab w) : Calls Tryd.prog 15 #[.int .i64 n, Dv nb h l x] w (RetOv (DivP (decide (n < 0)) n.natAbs 0 nb (nv h l) x) w) := by
  have HT := Lib.hid ht
  have i := may_I64 hn
  have SM0 := span_may n
  rw [hn] at SM0
  have SM := Lib.hid SM0
  have IN := Lib.hid (int_any n i)
  have DV0 := divD_any (decide (n < 0)) 0 n.natAbs 0 nb h l x (ww1 (abs_lt i)) k (abs_num i) num
  rw [nv01] at DV0
  have LEN0 := fun o (D : DivP (decide (n < 0)) n.natAbs 0 nb (nv h l) x o) => @len10_any o (div_ok D (abs_lt i))
  have DV := Lib.hid DV0
  have LEN := Lib.hid LEN0
  clear DV0 LEN0
  clear SM0 hn i k num ht
  generalize decide (n < 0) = sn at *
  generalize n.natAbs = an at *
  go_enter Tryd.func15, Tryd.ntmps15
  go_upto_region 1 with fail
  have PD := Lib.hid (HoldsD.new rfl : HoldsD (w.alloc (DvC nb h l x)) w.heap.size nb h l x)
  have B := ballD1 (Below.refl w.heap.size w) (DvC nb h l x)
  change Code.wp _ _ _ _ (w.alloc (DvC nb h l x))
  generalize (w.alloc (DvC nb h l x)) = w0 at *
  obtain ⟨⟨c0_0, c0_1, c0_2, c0_3⟩, -, c0z⟩ := PD.out
  go_wp2_with fail
  refine (SM.out _).mono ?_
  rintro e w1 ⟨rfl, hb⟩
  replace PD := Lib.hid (PD.out.below hb)
  replace B := bstep B hb
  clear hb SM
  clear c0_0 c0_1 c0_2 c0_3 c0z
  go_upto_region 3 with fail
  refine wp_region_held_drew (S := fun w' => w'.cell? ⟨w.heap.size, 0, none⟩ = some (.bool nb) ∧ w'.cell? ⟨w.heap.size, 1, none⟩ = some (.int .u64 (h : Int)) ∧ w'.cell? ⟨w.heap.size, 2, none⟩ = some (.int .u64 (l : Int)) ∧ w'.cell? ⟨w.heap.size, 3, none⟩ = some (.int .i64 x) ∧ Below w1.heap.size w1 w') (by kernel_rfl) ?_ (fun hHeld => ?_)
  · exact (have hk := (Below.refl _ _).drew; ⟨(PD.out.below hk).1.1, (PD.out.below hk).1.2.1, (PD.out.below hk).1.2.2.1, (PD.out.below hk).1.2.2.2, hk⟩)
  refine wpAnyH_take (i := 0) (oi := { dst := some 9, op := Go.Op.move (Go.Operand.tmp 0), type := 3, pos := "span.go:42", after := #[], guard := none }) (v := ?_) rfl (by kernel_rfl) (by kernel_rfl) (by kernel_rfl) (fun _ _ _ h => h) (Or.inl ⟨by rfl, ?_⟩) (by assumption) ?_
  rotate_left
  · intro w hSw
    try dsimp only at hSw
    go_simp
    try with_reducible rfl
  try simp only [Act.put, List.setIfInBounds_toArray, List.set_cons_zero, List.set_cons_succ]
  refine wpAnyH_take (i := 2) (oi := { dst := some 11, op := Go.Op.load 34 (Go.Operand.tmp 3), type := 34, pos := "span.go:42", after := #[], guard := none }) (v := ?_) rfl (by kernel_rfl) (by kernel_rfl) (by kernel_rfl) (fun _ _ _ h => h) (Or.inl ⟨by rfl, ?_⟩) (by assumption) ?_
  rotate_left
  · intro w hSw
    try dsimp only at hSw
    go_simp
    try with_reducible rfl
  try simp only [Act.put, List.setIfInBounds_toArray, List.set_cons_zero, List.set_cons_succ]
  refine wpAnyH_ready (rs := [1]) (by kernel_rfl) (by simp) ?_
  refine AllReadyH.cons (o := { dst := some 10, op := Go.Op.call { callee := Go.Callee.value (Go.Operand.func 18), args := #[Go.Operand.tmp 9], argTypes := #[3] }, type := 34, pos := "span.go:42", after := #[{ on := 0, ground := Go.Ground.data }], guard := none }) rfl (fun K hK => ?_) AllReadyH.nil
  go_simp
  refine (IN.out _).mono ?_
  rintro e v1 ⟨rfl, hb1⟩
  have HBx := Lib.hid (bstep hHeld.2.2.2.2 hb1)
  clear hHeld hb1
  refine hK.out _ _ ?_ (fun hHeld => ?_)
  · exact (have hk := HBx.out; ⟨(PD.out.below hk).1.1, (PD.out.below hk).1.2.1, (PD.out.below hk).1.2.2.1, (PD.out.below hk).1.2.2.2, hk⟩)
  clear hK K HBx
  try simp only [Act.put, List.setIfInBounds_toArray, List.set_cons_zero, List.set_cons_succ]
  refine wpAnyH_ready (rs := [3]) (by kernel_rfl) (by simp) ?_
  refine AllReadyH.cons (o := { dst := some 12, op := Go.Op.call { callee := Go.Callee.value (Go.Operand.func 19), args := #[Go.Operand.tmp 10, Go.Operand.tmp 11], argTypes := #[34, 34] }, type := 38, pos := "span.go:42", after := #[{ on := 1, ground := Go.Ground.data }, { on := 2, ground := Go.Ground.data }, { on := 1, ground := Go.Ground.chain }], guard := none }) rfl (fun K hK => ?_) AllReadyH.nil
  go_simp
  refine (DV.out _ (HT.out.below (bstep B hHeld.2.2.2.2))).mono ?_
  rintro e v2 ⟨dq, DQ, mn, mh, ml, mx, mok, MN, rfl, hb2⟩
  have HBx := Lib.hid (bstep hHeld.2.2.2.2 hb2)
  clear hHeld hb2
  refine hK.out _ _ ?_ (fun hHeld => ?_)
  · exact (have hk := HBx.out; ⟨(PD.out.below hk).1.1, (PD.out.below hk).1.2.1, (PD.out.below hk).1.2.2.1, (PD.out.below hk).1.2.2.2, hk⟩)
  clear hK K HBx
  try simp only [Act.put, List.setIfInBounds_toArray, List.set_cons_zero, List.set_cons_succ]
  refine wpAnyH_take (i := 4) (oi := { dst := some 13, op := Go.Op.extract (Go.Operand.tmp 12) 0, type := 34, pos := "span.go:42", after := #[{ on := 3, ground := Go.Ground.data }], guard := none }) (v := ?_) rfl (by kernel_rfl) (by kernel_rfl) (by kernel_rfl) (fun _ _ _ h => h) (Or.inl ⟨by rfl, ?_⟩) (by assumption) ?_
  rotate_left
  · intro w hSw
    try dsimp only at hSw
    go_simp
    try with_reducible rfl
  try simp only [Act.put, List.setIfInBounds_toArray, List.set_cons_zero, List.set_cons_succ]
  refine wpAnyH_take (i := 5) (oi := { dst := some 14, op := Go.Op.extract (Go.Operand.tmp 12) 1, type := 4, pos := "span.go:42", after := #[{ on := 3, ground := Go.Ground.data }], guard := none }) (v := ?_) rfl (by kernel_rfl) (by kernel_rfl) (by kernel_rfl) (fun _ _ _ h => h) (Or.inl ⟨by rfl, ?_⟩) (by assumption) ?_
  rotate_left
  · intro w hSw
    try dsimp only at hSw
    go_simp
    try with_reducible rfl
  try simp only [Act.put, List.setIfInBounds_toArray, List.set_cons_zero, List.set_cons_succ]
  refine wpAnyH_ready (rs := [6]) (by kernel_rfl) (by simp) ?_
  refine AllReadyH.cons (o := { dst := some 15, op := Go.Op.call { callee := Go.Callee.value (Go.Operand.func 34), args := #[Go.Operand.tmp 13, Go.Operand.tmp 14], argTypes := #[34, 4] }, type := 23, pos := "span.go:42", after := #[{ on := 4, ground := Go.Ground.data }, { on := 5, ground := Go.Ground.data }, { on := 3, ground := Go.Ground.chain }], guard := none }) rfl (fun K hK => ?_) AllReadyH.nil
  go_simp
  refine (LEN.out dq DQ mn mh ml mx mok MN _ (HT.out.below (bstep B hHeld.2.2.2.2))).mono ?_
  rintro e v3 ⟨rfl, hb3⟩
  have HBx := Lib.hid (bstep hHeld.2.2.2.2 hb3)
  clear hHeld hb3
  refine hK.out _ _ ?_ (fun hHeld => ?_)
  · exact (have hk := HBx.out; ⟨(PD.out.below hk).1.1, (PD.out.below hk).1.2.1, (PD.out.below hk).1.2.2.1, (PD.out.below hk).1.2.2.2, hk⟩)
  clear hK K HBx
  try simp only [Act.put, List.setIfInBounds_toArray, List.set_cons_zero, List.set_cons_succ]
  refine wpAnyH_take (i := 7) (oi := { dst := some 16, op := Go.Op.extract (Go.Operand.tmp 15) 0, type := 3, pos := "span.go:42", after := #[{ on := 6, ground := Go.Ground.data }], guard := none }) (v := ?_) rfl (by kernel_rfl) (by kernel_rfl) (by kernel_rfl) (fun _ _ _ h => h) (Or.inl ⟨by rfl, ?_⟩) (by assumption) ?_
  rotate_left
  · intro w hSw
    try dsimp only at hSw
    go_simp
    try with_reducible rfl
  try simp only [Act.put, List.setIfInBounds_toArray, List.set_cons_zero, List.set_cons_succ]
  refine wpAnyH_take (i := 8) (oi := { dst := some 17, op := Go.Op.extract (Go.Operand.tmp 15) 1, type := 4, pos := "span.go:42", after := #[{ on := 6, ground := Go.Ground.data }], guard := none }) (v := ?_) rfl (by kernel_rfl) (by kernel_rfl) (by kernel_rfl) (fun _ _ _ h => h) (Or.inl ⟨by rfl, ?_⟩) (by assumption) ?_
  rotate_left
  · intro w hSw
    try dsimp only at hSw
    go_simp
    try with_reducible rfl
  try simp only [Act.put, List.setIfInBounds_toArray, List.set_cons_zero, List.set_cons_succ]
  refine wpAnyH_take (i := 9) (oi := { dst := some 4, op := Go.Op.assign (Go.Operand.tmp 16), type := 3, pos := "span.go:42", after := #[{ on := 7, ground := Go.Ground.data }, { on := 6, ground := Go.Ground.chain }, { on := 0, ground := Go.Ground.phase }, { on := 1, ground := Go.Ground.phase }, { on := 2, ground := Go.Ground.phase }, { on := 3, ground := Go.Ground.phase }, { on := 4, ground := Go.Ground.phase }, { on := 5, ground := Go.Ground.phase }, { on := 6, ground := Go.Ground.phase }, { on := 7, ground := Go.Ground.phase }, { on := 8, ground := Go.Ground.phase }], guard := none }) (v := ?_) rfl (by kernel_rfl) (by kernel_rfl) (by kernel_rfl) (fun _ _ _ h => h) (Or.inl ⟨by rfl, ?_⟩) (by assumption) ?_
  rotate_left
  · intro w hSw
    try dsimp only at hSw
    go_simp
    try with_reducible rfl
  try simp only [Act.put, List.setIfInBounds_toArray, List.set_cons_zero, List.set_cons_succ]
  refine wpAnyH_take (i := 10) (oi := { dst := some 5, op := Go.Op.assign (Go.Operand.tmp 17), type := 4, pos := "span.go:42", after := #[{ on := 8, ground := Go.Ground.data }, { on := 9, ground := Go.Ground.chain }, { on := 0, ground := Go.Ground.phase }, { on := 1, ground := Go.Ground.phase }, { on := 2, ground := Go.Ground.phase }, { on := 3, ground := Go.Ground.phase }, { on := 4, ground := Go.Ground.phase }, { on := 5, ground := Go.Ground.phase }, { on := 6, ground := Go.Ground.phase }, { on := 7, ground := Go.Ground.phase }, { on := 8, ground := Go.Ground.phase }, { on := 9, ground := Go.Ground.phase }], guard := none }) (v := ?_) rfl (by kernel_rfl) (by kernel_rfl) (by kernel_rfl) (fun _ _ _ h => h) (Or.inl ⟨by rfl, ?_⟩) (by assumption) ?_
  rotate_left
  · intro w hSw
    try dsimp only at hSw
    go_simp
    try with_reducible rfl
  try simp only [Act.put, List.setIfInBounds_toArray, List.set_cons_zero, List.set_cons_succ]
  refine wpAnyH_done (by kernel_rfl) ?_ _
  replace B := bstep B hHeld.2.2.2.2
  replace PD := Lib.hid (PD.out.below hHeld.2.2.2.2)
  clear hHeld
  clear PD
  go_wp2
  refine ret_via (v := .tuple #[.int .i64 (lnV dq), .bool (lnB dq)]) (fun _ => True) (fun VF _ => ?_) trivial rfl ⟨dq, DQ, rfl, B⟩
  simp [results, Tryd.results15, go_sem, *]
set_option linter.unusedSimpArgs false in
set_option linter.unusedVariables false in
set_option maxRecDepth 100000 in
set_option maxHeartbeats 8000000 in
theorem ratio_yes (a b : Int) (ha : spB a = true) (hb : spB b = true) (w : World) (ht : Tab w) : Calls Tryd.prog 20 #[.int .i64 a, .int .i64 b] w (RetDP (DivP (decide (a < 0)) a.natAbs 0 (decide (b < 0)) b.natAbs 0) w) := by
  have HT := Lib.hid ht
  have i := may_I64 ha
  have j := may_I64 hb
  have SA0 := span_may a
  have SB0 := span_may b
  rw [ha] at SA0
  rw [hb] at SB0
  have SA := Lib.hid SA0
  have SB := Lib.hid SB0
  have IA := Lib.hid (int_any a i)
  have IB := Lib.hid (int_any b j)
  have DV0 := divD_any (decide (a < 0)) 0 a.natAbs 0 (decide (b < 0)) 0 b.natAbs 0 (ww1 (abs_lt i)) (ww1 (abs_lt j)) (abs_num i) (abs_num j)
  rw [nv01, nv01] at DV0
  have DV := Lib.hid DV0
  clear SA0 SB0 DV0 ha hb i j ht
  generalize decide (a < 0) = sa at *
  generalize decide (b < 0) = sb at *
  generalize a.natAbs = na at *
  generalize b.natAbs = nb at *
  go_enter Tryd.func20, Tryd.ntmps20
  go_wp2_with fail
  refine (SA.out _).mono ?_
  rintro e w1 ⟨rfl, hb⟩
  have PR := Lib.hid ((HoldsD.zero4 rfl : HoldsD (w.alloc (.cells #[.bool false, .int .u64 0, .int .u64 0, .int .i64 0] 34)) w.heap.size false 0 0 0).below hb)
  have B : Below w.heap.size w w1 := bstep (by go_grown) hb
  clear hb SA
  go_wp2_with fail
  refine (SB.out _).mono ?_
  rintro e w2 ⟨rfl, hb⟩
  replace PR := Lib.hid (PR.out.below hb)
  replace B := bstep B hb
  clear hb SB
  go_wp2_with fail
  refine (IA.out _).mono ?_
  rintro e w3 ⟨rfl, hb⟩
  replace PR := Lib.hid (PR.out.below hb)
  replace B := bstep B hb
  clear hb IA
  go_wp2_with fail
  refine (IB.out _).mono ?_
  rintro e w4 ⟨rfl, hb⟩
  replace PR := Lib.hid (PR.out.below hb)
  replace B := bstep B hb
  clear hb IB
  go_wp2_with fail
  refine (DV.out _ (HT.out.below B)).mono ?_
  rintro e w5 ⟨dq, DQ, mn, mh, ml, mx, mok, MN, rfl, hb⟩
  replace PR := Lib.hid (PR.out.below hb)
  replace B := bstep B hb
  clear hb DV
  obtain ⟨⟨c0, c1, c2, c3⟩, ⟨f0, f1, f2, f3⟩, cz⟩ := PR.out
  go_wp2
  clear c0 c1 c2 c3 f0 f1 f2 f3 cz
  refine ret_via (v := .tuple #[Dv mn mh ml mx, .bool mok]) (fun VF => HoldsD VF w.heap.size mn mh ml mx) (fun VF hq => ?_) (HoldsD.put4 PR.out) rfl ⟨dq, DQ, mn, mh, ml, mx, mok, MN, rfl, B4 B (Nat.le_refl _) _ _ _ _⟩
  obtain ⟨⟨d0, d1, d2, d3⟩, -, -⟩ := hq
  simp [results, Tryd.results20, go_sem, d0, d1, d2, d3]
end Go.Proofs.YtkkddflclakphaaDoor

/-
  Several texts in one: each one's own remark stands ahead of it.
-/
import Derived.Test.YtmelblnfjcbmjaaDoorTx
import Derived.Test.YtmelblnfjcbmjaaDoorAc
import Derived.Test.YtmelblnfjcbmjaaDoorEs
import Derived.Test.YtmelblnfjcbmjaaDoorD
import Derived.Deep.RegionHeld3
import Derived.Lib.OthersKept
import Derived.Deep.LoopGhost
import Derived.Test.YtmelblnfjcbmjaaDoorSh2
import Derived.Lib.SmallJoins
/-
  Numbers as texts (withPoint, sizeText, Text of package numeral), each as a contract of its call.
-/
namespace Go.Proofs.YtmelblnfjcbmjaaDoor
open Go.RowKit

/-- Digits with a point ahead of the last k, one digit at least ahead of it. -/
def ptD (d : List UInt8) (k : Nat) : List UInt8 := List.replicate (k + 1 - d.length) 48 ++ d
def ptL (d : List UInt8) (k : Nat) : List UInt8 := (ptD d k).take ((ptD d k).length - k) ++ 46 :: (ptD d k).drop ((ptD d k).length - k)

theorem cutL (P : ByteArray) (a : Nat) : P.extract 0 a ++ { data := #[46] } ++ P.extract a P.size = ⟨(P.data.toList.take a ++ 46 :: P.data.toList.drop a).toArray⟩ := by
  apply ByteArray.ext
  rw [ByteArray.data_append, ByteArray.data_append, ByteArray.data_extract, ByteArray.data_extract]
  apply Array.ext'
  simp only [Array.toList_append, Array.toList_extract, List.extract_eq_take_drop]
  rw [List.drop_zero, Nat.sub_zero, List.append_assoc]
  congr 1
  show 46 :: List.take (P.size - a) (List.drop a P.data.toList) = 46 :: List.drop a P.data.toList
  rw [List.take_of_length_le]
  rw [List.length_drop]
  exact Nat.le_of_eq rfl

set_option maxRecDepth 100000 in
set_option maxHeartbeats 4000000 in
theorem withPoint_any (D : ByteArray) (k : Nat) (hd : D.size ≤ 1000) (h1 : 1 ≤ k) (h2 : k ≤ 1000) (w : World) :
    Calls Tryd.prog 103 #[.string D, .int .i64 (k : Int)] w (RetS (ptL D.data.toList k) w) := by
  obtain ⟨c, hc⟩ : ∃ c : Nat, c = k + 1 - D.size := ⟨_, rfl⟩
  obtain ⟨R, hR⟩ : ∃ R : ByteArray, R = ⟨(List.replicate c 48).toArray⟩ := ⟨_, rfl⟩
  have RP := Lib.hid (show ∀ w : World, Calls Tryd.prog 80 #[.string ⟨#[48]⟩, .int .i64 (c : Int)] w (fun e w' => e = .returned (.string R) ∧ Below w.heap.size w w') from fun w => (Tryd.strings_Repeat ⟨#[48]⟩ c w (by omega) (by show 1 * c ≤ _; omega)).mono fun e w' H => ⟨by rw [H.1, hR]; show Ending.returned (.string ⟨(Lib.repeatL [48] c).toArray⟩) = _; rw [repeat48], H.2⟩)
  have sR : R.size = c := by rw [hR]; simp [ByteArray.size]
  obtain ⟨P, hP⟩ : ∃ P : ByteArray, P = R ++ D := ⟨_, rfl⟩
  have sP : P.size = c + D.size := by rw [hP]; simp [sR]
  have eP : P.data.toList = ptD D.data.toList k := by
    rw [hP, hR]
    show (({ data := (List.replicate c 48).toArray } : ByteArray) ++ D).data.toList = _
    unfold ptD
    rw [show D.data.toList.length = D.size from Array.length_toList, ← hc]
    simp [ByteArray.data_append]
  obtain ⟨ci, hci⟩ : ∃ i : Int, i = (c : Int) := ⟨_, rfl⟩
  rw [← hci] at RP
  obtain ⟨ki, hki⟩ : ∃ i : Int, i = (k : Int) := ⟨_, rfl⟩
  rw [← hki]
  obtain ⟨k1, hk1⟩ : ∃ i : Int, i = ki + 1 := ⟨_, rfl⟩
  obtain ⟨k2, hk2⟩ : ∃ i : Int, i = k1 - (D.size : Int) := ⟨_, rfl⟩
  have e1 : wrap64 (ki + 1) = k1 := by unfold wrap64; omega
  have e2 : wrap64 (k1 - (D.size : Int)) = k2 := by unfold wrap64; omega
  have e3 : max k2 0 = ci := by omega
  have e4 : R ++ D = P := hP.symm
  have b1 : R.size ≤ 2000 := by omega
  obtain ⟨a, ha⟩ : ∃ a : Nat, a = P.size - k := ⟨_, rfl⟩
  have e5 : wrap64 ((P.size : Int) - ki) = (a : Int) := by unfold wrap64; omega
  have a1 : a ≤ P.size := by omega
  have b2 : P.size ≤ 3000 := by omega
  have HD := Lib.hid (And.intro eP (And.intro ha (show k ≤ P.size by omega)))
  clear h1 h2 hc hci hk1 hk2 hki hP hR sR eP ha sP
  go_enter Tryd.func103, Tryd.ntmps103
  go_wp2_with fail
  refine (RP.out _).mono ?_
  rintro e w1 ⟨rfl, hb⟩
  have B : Below w.heap.size w w1 := hb
  clear hb RP
  go_upto_region 4 with fail
  go_wp2
  go_region
  all_goals
    go_wp2
    go_ret
    refine ⟨?_, Below.drew B⟩
    show Ending.returned (.string (P.extract 0 a ++ { data := #[46] } ++ P.extract a P.size)) = _
    rw [cutL P a]
    unfold ptL
    rw [← HD.out.1, show P.data.toList.length - k = a by rw [HD.out.2.1]; rfl]

/-- The text of a size. -/
def sizeL (c : Nat) (x : Int) : List UInt8 :=
  if x = 0 then Lib.decDigits c else if -40 ≤ x ∧ x < 0 then ptL (Lib.decDigits c) (-x).toNat else Lib.decDigits c ++ 69 :: Lib.itoa x
theorem dec_len {c : Nat} (h : c < 10 ^ 34) : (Lib.decDigits c).length ≤ 34 := by
  rw [Lib.decDigits_length]
  exact Dx.nDigits_le (k := 33) h

set_option maxRecDepth 100000 in
set_option maxHeartbeats 4000000 in
theorem sizeText_any (n : Bool) (h l : Nat) (x : Int) (ha : WW h l) (hc : NumD (nv h l) x) (w : World) (ht : Tab w) (ht2 : Tab2 w) :
    Calls Tryd.prog 70 #[Dv n h l x] w (RetS (sizeL (nv h l) x) w) := by
  have HT := Lib.hid (And.intro ht ht2)
  obtain ⟨D, hD⟩ : ∃ D : ByteArray, D = ⟨(Lib.decDigits (nv h l)).toArray⟩ := ⟨_, rfl⟩
  have sD : D.size ≤ 34 := by rw [hD]; exact Nat.le_trans (Nat.le_of_eq (by simp [ByteArray.size])) (dec_len hc.1)
  have eD : D.data.toList = Lib.decDigits (nv h l) := by rw [hD]
  have TX := Lib.hid (show ∀ w : World, Tab w → Tab2 w → Calls Tryd.prog 34 #[U h l] w (fun e w' => e = .returned (.string D) ∧ Below w.heap.size w w') from fun w a b => (text_any (nv h l) h l rfl ha w a b).mono fun e w' H => ⟨by rw [H.1, hD], H.2⟩)
  have HX := Lib.hid (And.intro eD (And.intro hc.2.1 hc.2.2))
  clear ht ht2 ha hc hD eD
  go_enter Tryd.func70, Tryd.ntmps70
  go_wp2_with fail
  refine (TX.out _ (HT.out.1.below (by go_grown)) (HT.out.2.below (by go_grown))).mono ?_
  rintro e w1 ⟨rfl, hb⟩
  have P1 := Lib.hid ((show HoldsD _ w.heap.size n h l x from by simp [HoldsD, go_sem]).below hb)
  have B : Below w.heap.size w w1 := bstep (by go_grown) hb
  clear hb TX
  obtain ⟨⟨a1, a2, a3, a4⟩, -, a9⟩ := P1.out
  by_cases x0 : x = 0
  · have t1 : (x == 0) = true := by rw [x0]; rfl
    have RES := Lib.hid (show D = ⟨(sizeL (nv h l) x).toArray⟩ from by unfold sizeL; rw [if_pos x0, ← HX.out.1])
    clear x0
    go_wp2
    go_ret
    exact ⟨by rw [← RES.out]; rfl, B⟩
  · have t1 : (x == 0) = false := by simpa using x0
    by_cases x1 : -40 ≤ x ∧ x < 0
    · have t2 : decide (-40 ≤ x) = true := decide_eq_true x1.1
      have t3 : decide (x < 0) = true := decide_eq_true x1.2
      obtain ⟨k, hk⟩ : ∃ k : Nat, k = (-x).toNat := ⟨_, rfl⟩
      have WP := Lib.hid (withPoint_any D k (by omega) (by omega) (by omega))
      rw [show ((k : Nat) : Int) = -x by omega] at WP
      have e1 : wrap64 (-x) = -x := by unfold wrap64; omega
      have e2 : IntKind.i64.wrap (-x) = -x := by rw [IntKind.wrap_i64]; omega
      have RES := Lib.hid (show ptL D.data.toList k = sizeL (nv h l) x from by unfold sizeL; rw [if_neg x0, if_pos x1, ← hk, ← HX.out.1])
      rw [RES.out] at WP
      clear x0 x1 hk RES
      go_wp2_with fail
      refine (WP.out _).mono ?_
      rintro e w2 ⟨rfl, hb⟩
      replace B := bstep B hb
      clear hb WP a1 a2 a3 a4 a9 P1
      go_wp2
      go_ret
      exact ⟨rfl, B⟩
    · obtain ⟨I, hI⟩ : ∃ I : ByteArray, I = ⟨(Lib.itoa x).toArray⟩ := ⟨_, rfl⟩
      have xb := HX.out.2
      have IT := Lib.hid (show ∀ w : World, Tab2 w → Calls Tryd.prog 104 #[.int .i64 x] w (fun e w' => e = .returned (.string I) ∧ Below w.heap.size w w') from fun w a => (Tryd.strconv_Itoa x (by omega) (by omega) w a).mono fun e w' H => ⟨by rw [H.1, hI], by obtain ⟨_, k, os, q⟩ := H; exact below_grow q⟩)
      have sI : I.size ≤ 35 := by
        rw [hI]
        refine Nat.le_trans (Nat.le_of_eq (show _ = (Lib.itoa x).length by simp [ByteArray.size])) ?_
        unfold Lib.itoa
        split
        · have := dec_len (c := x.natAbs) (Nat.lt_of_le_of_lt (show x.natAbs ≤ 6176 by omega) (by decide))
          rw [List.length_cons]; omega
        · have := dec_len (c := x.toNat) (Nat.lt_of_le_of_lt (show x.toNat ≤ 6176 by omega) (by decide))
          omega
      have RES := Lib.hid (show D ++ { data := #[69] } ++ I = ⟨(sizeL (nv h l) x).toArray⟩ from by
        unfold sizeL
        rw [if_neg x0, if_neg x1, ← HX.out.1, hI]
        apply ByteArray.ext
        rw [ByteArray.data_append, ByteArray.data_append]
        apply Array.ext'
        simp only [Array.toList_append]
        rw [List.append_assoc]
        rfl)
      have sE : (D ++ { data := #[69] }).size ≤ 40 := by
        have : (D ++ ({ data := #[69] } : ByteArray)).size = D.size + 1 := by simp; rfl
        omega
      generalize hE : D ++ { data := #[69] } = E at *
      have t2 : (decide (-40 ≤ x) = true ∧ decide (x < 0) = false) ∨ (decide (-40 ≤ x) = false) := by
        by_cases q : -40 ≤ x
        · exact .inl ⟨decide_eq_true q, decide_eq_false (fun r => x1 ⟨q, r⟩)⟩
        · exact .inr (decide_eq_false q)
      clear x0 x1 xb hI
      rcases t2 with ⟨t2, t3⟩ | t2
      all_goals
        go_wp2_with fail
        refine (IT.out _ (HT.out.2.below B)).mono ?_
        rintro e w2 ⟨rfl, hb⟩
        replace B := bstep B hb
        clear hb IT a1 a2 a3 a4 a9 P1
        go_wp2
        go_ret
        exact ⟨by rw [← RES.out]; rfl, B⟩

/-- The text of a number. -/
def textL (n : Bool) (c : Nat) (x : Int) : List UInt8 := if sgn n c < 0 then 45 :: sizeL c x else sizeL c x
theorem pt_len (d : List UInt8) (k : Nat) : (ptL d k).length ≤ d.length + k + 2 := by
  unfold ptL
  rw [List.length_append, List.length_cons, List.length_take, List.length_drop]
  have : (ptD d k).length ≤ d.length + k + 1 := by unfold ptD; rw [List.length_append, List.length_replicate]; omega
  omega
theorem size_len {c : Nat} {x : Int} (h : NumD c x) : (sizeL c x).length ≤ 200 := by
  have d := dec_len h.1
  have x1 := h.2
  unfold sizeL
  split
  · omega
  · split
    · have := pt_len (Lib.decDigits c) (-x).toNat
      omega
    · rw [List.length_append, List.length_cons]
      unfold Lib.itoa
      split
      · have := dec_len (c := x.natAbs) (Nat.lt_of_le_of_lt (show x.natAbs ≤ 6176 by omega) (by decide))
        rw [List.length_cons]; omega
      · have := dec_len (c := x.toNat) (Nat.lt_of_le_of_lt (show x.toNat ≤ 6176 by omega) (by decide))
        omega

set_option maxRecDepth 100000 in
set_option maxHeartbeats 4000000 in
theorem textN_any (n : Bool) (h l : Nat) (x : Int) (ha : WW h l) (hc : NumD (nv h l) x) (w : World) (ht : Tab w) (ht2 : Tab2 w) :
    Calls Tryd.prog 26 #[Dv n h l x] w (RetS (textL n (nv h l) x) w) := by
  have HT := Lib.hid (And.intro ht ht2)
  obtain ⟨D, hD⟩ : ∃ D : ByteArray, D = ⟨(sizeL (nv h l) x).toArray⟩ := ⟨_, rfl⟩
  have sD : D.size ≤ 200 := by rw [hD]; exact Nat.le_trans (Nat.le_of_eq (by simp [ByteArray.size])) (size_len hc)
  have ST := Lib.hid (show ∀ w : World, Tab w → Tab2 w → Calls Tryd.prog 70 #[Dv n h l x] w (fun e w' => e = .returned (.string D) ∧ Below w.heap.size w w') from fun w a b => (sizeText_any n h l x ha hc w a b).mono fun e w' H => ⟨by rw [H.1, hD], H.2⟩)
  have SG := Lib.hid (sign_any n h l x)
  obtain ⟨sg, hsg⟩ : ∃ s, s = sgn n (nv h l) := ⟨_, rfl⟩
  rw [← hsg] at SG
  have RES := Lib.hid (show (sg < 0 → ({ data := #[45] } : ByteArray) ++ D = ⟨(textL n (nv h l) x).toArray⟩) ∧ (¬ sg < 0 → D = ⟨(textL n (nv h l) x).toArray⟩) from ⟨fun k => by
      unfold textL
      rw [if_pos (by rw [← hsg]; exact k), hD]
      apply ByteArray.ext
      rw [ByteArray.data_append]
      apply Array.ext'
      simp only [Array.toList_append]
      rfl, fun k => by
      unfold textL
      rw [if_neg (by rw [← hsg]; exact k), hD]⟩)
  clear ht ht2 ha hc hD hsg
  go_enter Tryd.func26, Tryd.ntmps26
  go_wp2_with fail
  refine (ST.out _ (HT.out.1.below (by go_grown)) (HT.out.2.below (by go_grown))).mono ?_
  rintro e w1 ⟨rfl, hb⟩
  have P1 := Lib.hid ((show HoldsD _ w.heap.size n h l x from by simp [HoldsD, go_sem]).below hb)
  have B : Below w.heap.size w w1 := bstep (by go_grown) hb
  clear hb ST
  obtain ⟨⟨a1, a2, a3, a4⟩, -, a9⟩ := P1.out
  go_wp2_with fail
  refine (SG.out _).mono ?_
  rintro e w2 ⟨rfl, hb⟩
  replace B := bstep B hb
  clear hb SG a1 a2 a3 a4 a9 P1
  by_cases s0 : sg < 0
  · have t1 : decide (sg < 0) = true := decide_eq_true s0
    have R1 := Lib.hid (RES.out.1 s0)
    clear s0 RES
    go_wp2
    go_ret
    exact ⟨by rw [← R1.out]; rfl, B⟩
  · have t1 : decide (sg < 0) = false := decide_eq_false s0
    have R1 := Lib.hid (RES.out.2 (by omega))
    clear s0 RES
    go_wp2
    go_ret
    exact ⟨by rw [← R1.out]; rfl, B⟩
end Go.Proofs.YtmelblnfjcbmjaaDoor

/-
  What a number's text has told up to a place (takeCoefDigit of package numeral), as a contract of its call: the struct is written through its pointer.
-/
namespace Go.Proofs.YtmelblnfjcbmjaaDoor
open Go.RowKit

/-- All stays but one block. -/
def KB (g : Nat) (w w' : World) : Prop := w'.os = w.os ∧ w'.tape = w.tape ∧ w'.output = w.output ∧ w.heap.size ≤ w'.heap.size ∧ ∀ k, k < w.heap.size → k ≠ g → w'.heap[k]? = w.heap[k]?
theorem KB.refl (g : Nat) (w : World) : KB g w w := ⟨rfl, rfl, rfl, Nat.le_refl _, fun _ _ _ => rfl⟩
theorem KB.step {g : Nat} {w v v' : World} (a : KB g w v) (b : Below v.heap.size v v') : KB g w v' :=
  ⟨b.os.trans a.1, b.tape.trans a.2.1, b.output.trans a.2.2.1, Nat.le_trans a.2.2.2.1 b.size, fun k h n => (b.block k (Nat.lt_of_lt_of_le h a.2.2.2.1)).trans (a.2.2.2.2 k h n)⟩
theorem KB.alloc {g : Nat} {w v : World} (a : KB g w v) (o : Obj) : KB g w (v.alloc o) := a.step ((Below.refl _ _).alloc (Nat.le_refl _) o)
theorem KB.set {g : Nat} {w v : World} (a : KB g w v) (i : Nat) (u : Value) : KB g w (v.setCell ⟨g, i, none⟩ u) :=
  ⟨a.1, a.2.1, a.2.2.1, by have := a.2.2.2.1; simpa [World.setCell] using this, fun k h n => (Below.heap_setCell v ⟨g, i, none⟩ u k n).trans (a.2.2.2.2 k h n)⟩
theorem KB.drew {g : Nat} {w v : World} (a : KB g w v) : KB g w v.drew := a
theorem KB.trans {g : Nat} {w v u : World} (a : KB g w v) (b : KB g v u) : KB g w u :=
  ⟨b.1.trans a.1, b.2.1.trans a.2.1, b.2.2.1.trans a.2.2.1, Nat.le_trans a.2.2.2.1 b.2.2.2.1, fun k h n => (b.2.2.2.2 k (Nat.lt_of_lt_of_le h a.2.2.2.1) n).trans (a.2.2.2.2 k h n)⟩
theorem KB.below {g : Nat} {w v u : World} (a : Below w.heap.size w v) (hg : w.heap.size ≤ g) (b : KB g v u) : Below w.heap.size w u :=
  ⟨b.1.trans a.os, b.2.1.trans a.tape, b.2.2.1.trans a.output, Nat.le_trans a.size b.2.2.2.1, fun k h => (b.2.2.2.2 k (Nat.lt_of_lt_of_le h a.size) (by omega)).trans (a.block k h)⟩

/-- The ten cells of a block hold what was read. -/
def HoldsG (W : World) (g at' h l kept dr : Nat) (more : Bool) (pl pw pd : Nat) (bl : Bool) : Prop :=
  (W.cell? ⟨g, 0, none⟩ = some (.int .i64 (at' : Int)) ∧ W.cell? ⟨g, 1, none⟩ = some (.int .u64 (h : Int)) ∧ W.cell? ⟨g, 2, none⟩ = some (.int .u64 (l : Int)) ∧ W.cell? ⟨g, 3, none⟩ = some (.int .i64 (kept : Int)) ∧ W.cell? ⟨g, 4, none⟩ = some (.int .i64 (dr : Int)) ∧ W.cell? ⟨g, 5, none⟩ = some (.bool more) ∧ W.cell? ⟨g, 6, none⟩ = some (.int .i64 (pl : Int)) ∧ W.cell? ⟨g, 7, none⟩ = some (.int .i64 (pw : Int)) ∧ W.cell? ⟨g, 8, none⟩ = some (.int .i64 (pd : Int)) ∧ W.cell? ⟨g, 9, none⟩ = some (.bool bl)) ∧
  (∀ i, i < 10 → W.frozen? ⟨g, i, none⟩ = false) ∧ g < W.heap.size
theorem HoldsG.below {W W' : World} {g at' h l kept dr : Nat} {more : Bool} {pl pw pd : Nat} {bl : Bool} (H : HoldsG W g at' h l kept dr more pl pw pd bl) (hb : Below W.heap.size W W') : HoldsG W' g at' h l kept dr more pl pw pd bl := by
  obtain ⟨⟨a0, a1, a2, a3, a4, a5, a6, a7, a8, a9⟩, f, s⟩ := H
  exact ⟨⟨(hb.cell s).trans a0, (hb.cell s).trans a1, (hb.cell s).trans a2, (hb.cell s).trans a3, (hb.cell s).trans a4, (hb.cell s).trans a5, (hb.cell s).trans a6, (hb.cell s).trans a7, (hb.cell s).trans a8, (hb.cell s).trans a9⟩, fun i hi => (hb.frozen s).trans (f i hi), Nat.lt_of_lt_of_le s hb.size⟩
theorem HoldsG.alloc {W : World} {g at' h l kept dr : Nat} {more : Bool} {pl pw pd : Nat} {bl : Bool} (H : HoldsG W g at' h l kept dr more pl pw pd bl) (o : Obj) : HoldsG (W.alloc o) g at' h l kept dr more pl pw pd bl := H.below ((Below.refl _ _).alloc (Nat.le_refl _) o)
theorem HoldsG.put12 {W : World} {g at' h l kept dr : Nat} {more : Bool} {pl pw pd : Nat} {bl : Bool} (H : HoldsG W g at' h l kept dr more pl pw pd bl) (h' l' : Nat) : HoldsG ((W.setCell ⟨g, 1, none⟩ (.int .u64 (h' : Int))).setCell ⟨g, 2, none⟩ (.int .u64 (l' : Int))) g at' h' l' kept dr more pl pw pd bl := by
  obtain ⟨⟨a0, a1, a2, a3, a4, a5, a6, a7, a8, a9⟩, f, s⟩ := H
  have f0 := f 0 (by decide); have f1 := f 1 (by decide); have f2 := f 2 (by decide); have f3 := f 3 (by decide); have f4 := f 4 (by decide)
  have f5 := f 5 (by decide); have f6 := f 6 (by decide); have f7 := f 7 (by decide); have f8 := f 8 (by decide); have f9 := f 9 (by decide)
  refine ⟨by simp [go_sem, *], fun i hi => ?_, by simpa [World.setCell] using s⟩
  have fi := f i hi
  simp [go_sem, *]
theorem HoldsG.put3 {W : World} {g at' h l kept dr : Nat} {more : Bool} {pl pw pd : Nat} {bl : Bool} (H : HoldsG W g at' h l kept dr more pl pw pd bl) (k : Nat) : HoldsG (W.setCell ⟨g, 3, none⟩ (.int .i64 (k : Int))) g at' h l k dr more pl pw pd bl := by
  obtain ⟨⟨a0, a1, a2, a3, a4, a5, a6, a7, a8, a9⟩, f, s⟩ := H
  have f0 := f 0 (by decide); have f1 := f 1 (by decide); have f2 := f 2 (by decide); have f3 := f 3 (by decide); have f4 := f 4 (by decide)
  have f5 := f 5 (by decide); have f6 := f 6 (by decide); have f7 := f 7 (by decide); have f8 := f 8 (by decide); have f9 := f 9 (by decide)
  refine ⟨by simp [go_sem, *], fun i hi => ?_, by simpa [World.setCell] using s⟩
  have fi := f i hi
  simp [go_sem, *]
theorem HoldsG.put45 {W : World} {g at' h l kept dr : Nat} {more : Bool} {pl pw pd : Nat} {bl : Bool} (H : HoldsG W g at' h l kept dr more pl pw pd bl) (k : Nat) (m : Bool) : HoldsG ((W.setCell ⟨g, 4, none⟩ (.int .i64 (k : Int))).setCell ⟨g, 5, none⟩ (.bool m)) g at' h l kept k m pl pw pd bl := by
  obtain ⟨⟨a0, a1, a2, a3, a4, a5, a6, a7, a8, a9⟩, f, s⟩ := H
  have f0 := f 0 (by decide); have f1 := f 1 (by decide); have f2 := f 2 (by decide); have f3 := f 3 (by decide); have f4 := f 4 (by decide)
  have f5 := f 5 (by decide); have f6 := f 6 (by decide); have f7 := f 7 (by decide); have f8 := f 8 (by decide); have f9 := f 9 (by decide)
  refine ⟨by simp [go_sem, *], fun i hi => ?_, by simpa [World.setCell] using s⟩
  have fi := f i hi
  simp [go_sem, *]
/-- One more digit of the coefficient. -/
def CoefF (h l kept dr : Nat) (more : Bool) (d h' l' kept' dr' : Nat) (more' : Bool) : Prop :=
  WW h' l' ∧ ((kept = 38 ∧ h' = h ∧ l' = l ∧ kept' = kept ∧ dr' = dr + 1 ∧ more' = (more || decide (d ≠ 0))) ∨
   (kept ≠ 38 ∧ nv h' l' = nv h l * 10 + d ∧ kept' = (if nv h' l' = 0 then kept else kept + 1) ∧ dr' = dr ∧ more' = more))

set_option linter.unusedSimpArgs false in
set_option maxRecDepth 100000 in
set_option maxHeartbeats 4000000 in
theorem takeCoef_full (g at' h l dr : Nat) (more : Bool) (pl pw pd : Nat) (bl : Bool) (d : Nat) (hr : dr ≤ 200000000000000) (w : World) (H : HoldsG w g at' h l 38 dr more pl pw pd bl) :
    Calls Tryd.prog 146 #[.pointer (some ⟨g, 0, none⟩), .int .i64 (d : Int)] w fun e w' => e = .returned (.tuple #[]) ∧ HoldsG w' g at' h l 38 (dr + 1) (more || decide (d ≠ 0)) pl pw pd bl ∧ KB g w w' := by
  have HH := Lib.hid H
  obtain ⟨⟨a0, a1, a2, a3, a4, a5, a6, a7, a8, a9⟩, f, s⟩ := H
  have f4 := f 4 (by decide)
  have f5 := f 5 (by decide)
  obtain ⟨di, hdi⟩ : ∃ i : Int, i = (dr : Int) + 1 := ⟨_, rfl⟩
  have e1 : wrap64 ((dr : Int) + 1) = di := by unfold wrap64; omega
  have HX := Lib.hid hdi
  clear f hr hdi
  have t0 : ((38 : Int) == 38) = true := rfl
  generalize hm : (more || decide (d ≠ 0)) = mm at *
  cases more
  · by_cases d0 : d = 0
    · have t1 : (((d : Int)) != 0) = false := by rw [d0]; rfl
      have t2 : (((d : Int)) == 0) = true := by rw [d0]; rfl
      obtain rfl : mm = false := by rw [← hm, d0]; rfl
      clear d0 hm
      go_enter Tryd.func146, Tryd.ntmps146
      go_wp2
      refine bodyPost_ret (v := .tuple #[]) (by simp [results, Tryd.results146, go_sem]) rfl ⟨rfl, ?_, KB.set (KB.set (KB.refl _ _) _ _) _ _⟩
      have k := HoldsG.put45 HH.out (dr + 1) false
      rw [show (((dr + 1 : Nat)) : Int) = di by rw [HX.out]; rfl] at k
      exact k
    · have t1 : (((d : Int)) != 0) = true := by simp; omega
      have t2 : (((d : Int)) == 0) = false := by simp; omega
      obtain rfl : mm = true := by rw [← hm, decide_eq_true d0]; rfl
      clear d0 hm
      go_enter Tryd.func146, Tryd.ntmps146
      go_wp2
      refine bodyPost_ret (v := .tuple #[]) (by simp [results, Tryd.results146, go_sem]) rfl ⟨rfl, ?_, KB.set (KB.set (KB.refl _ _) _ _) _ _⟩
      have k := HoldsG.put45 HH.out (dr + 1) true
      rw [show (((dr + 1 : Nat)) : Int) = di by rw [HX.out]; rfl] at k
      exact k
  · obtain rfl : mm = true := by rw [← hm]; rfl
    clear hm
    go_enter Tryd.func146, Tryd.ntmps146
    go_wp2
    refine bodyPost_ret (v := .tuple #[]) (by simp [results, Tryd.results146, go_sem]) rfl ⟨rfl, ?_, KB.set (KB.set (KB.refl _ _) _ _) _ _⟩
    have k := HoldsG.put45 HH.out (dr + 1) true
    rw [show (((dr + 1 : Nat)) : Int) = di by rw [HX.out]; rfl] at k
    exact k
theorem read_step {h l o ph pl sh sl c d : Nat} (m : MulWordF h l 10 o ph pl) (f : SumF ph pl 0 d 0 sh sl c) (hd : d ≤ 9) : (o = 0 ∧ c = 0 ∧ nv sh sl = nv h l * 10 + d ∧ WW sh sl) ∨ ((o ≠ 0 ∨ c ≠ 0) ∧ B128 ≤ nv h l * 10 + d) := by
  obtain ⟨m1, m2, m3⟩ := m
  obtain ⟨f1, f2, f3⟩ := f
  have e : nv 0 d = d := by simp [nv]
  rw [e, Nat.add_zero] at f3
  have a := nv_lt f1
  have b := nv_lt m2
  rw [← m3]
  generalize nv ph pl = x at *
  generalize nv sh sl = y at *
  rcases Nat.eq_zero_or_pos o with z | z
  · subst z
    rw [Nat.zero_mul, Nat.add_zero]
    have hc : c = 0 ∨ c = 1 := by omega
    rcases hc with rfl | rfl
    · left; rw [Nat.zero_mul, Nat.add_zero] at f3; exact ⟨rfl, rfl, f3, f1⟩
    · right; rw [Nat.one_mul] at f3; exact ⟨.inr (by omega), by omega⟩
  · right
    refine ⟨.inl (by omega), ?_⟩
    have := Nat.le_mul_of_pos_left B128 z
    generalize o * B128 = q at *
    omega
theorem HoldsG.drew {W : World} {g at' h l kept dr : Nat} {more : Bool} {pl pw pd : Nat} {bl : Bool} (H : HoldsG W g at' h l kept dr more pl pw pd bl) : HoldsG W.drew g at' h l kept dr more pl pw pd bl := H

set_option linter.unusedSimpArgs false in
set_option maxRecDepth 100000 in
set_option maxHeartbeats 4000000 in
theorem takeCoef_more (g at' h l kept dr : Nat) (more : Bool) (pl pw pd : Nat) (bl : Bool) (d : Nat) (ha : WW h l) (hk : kept < 38) (hv : nv h l < 10 ^ kept) (hd : d ≤ 9) (w : World) (H : HoldsG w g at' h l kept dr more pl pw pd bl) :
    Calls Tryd.prog 146 #[.pointer (some ⟨g, 0, none⟩), .int .i64 (d : Int)] w fun e w' => e = .returned (.tuple #[]) ∧ ∃ h' l' : Nat, WW h' l' ∧ nv h' l' = nv h l * 10 + d ∧ HoldsG w' g at' h' l' (if nv h' l' = 0 then kept else kept + 1) dr more pl pw pd bl ∧ KB g w w' := by
  have HH := Lib.hid H
  have MW := Lib.hid (mulWord_any h l 10 ha (by decide))
  have small : nv h l * 10 + d < B128 := by
    have a : nv h l * 10 < 10 ^ kept * 10 := Nat.mul_lt_mul_of_pos_right hv (by decide)
    rw [← Nat.pow_succ] at a
    have b : 10 ^ (kept + 1) ≤ 10 ^ 38 := p10_mono (by omega)
    have c : 10 ^ 38 + 10 < B128 := by unfold B128; decide
    omega
  have HS := Lib.hid (And.intro small (And.intro hd hk))
  have t0 : ((kept : Int) == 38) = false := by simp; omega
  have d1 : IntKind.u64.wrap (d : Int) = (d : Int) := by rw [IntKind.wrap_u64]; omega
  have e3 : wrap64 ((kept : Int) + 1) = ((kept + 1 : Nat) : Int) := by unfold wrap64; omega
  clear hv small ha hk hd H
  obtain ⟨⟨a0, a1, a2, a3, a4, a5, a6, a7, a8, a9⟩, -, s⟩ := HH.out
  go_enter Tryd.func146, Tryd.ntmps146
  go_wp2_with fail
  refine (MW.out _).mono ?_
  rintro e v1 ⟨o, ph, pl', M, rfl, hb⟩
  have HM := Lib.hid M
  replace HH := Lib.hid (HH.out.below hb)
  have K := (KB.refl g w).step hb
  clear hb M MW a0 a1 a2 a3 a4 a5 a6 a7 a8 a9 s
  obtain ⟨⟨a0, a1, a2, a3, a4, a5, a6, a7, a8, a9⟩, f, s⟩ := HH.out
  have f1 := f 1 (by decide)
  have f2 := f 2 (by decide)
  clear f
  go_upto_region 4 with fail
  clear a0 a1 a2 a3 a4 a5 a6 a7 a8 a9 s f1 f2
  have GG := Lib.hid (HoldsG.put12 HH.out ph pl')
  replace K := KB.set (KB.set K 1 (.int .u64 (ph : Int))) 2 (.int .u64 (pl' : Int))
  generalize (v1.setCell ⟨g, 1, none⟩ (.int .u64 (ph : Int))).setCell ⟨g, 2, none⟩ (.int .u64 (pl' : Int)) = V at *
  clear HH
  obtain ⟨⟨a0, a1, a2, a3, a4, a5, a6, a7, a8, a9⟩, -, s⟩ := GG.out
  go_region_with
    (first
      | (go_at_call 33; refine (of_any d _).mono ?_; rintro e w' ⟨rfl, o1, rfl⟩)
      | (go_at_call 94; refine (add_any ph pl' 0 d HM.out.2.1 ⟨by decide, (by have := HS.out.2.1; omega)⟩ _).mono ?_; rintro e v2 ⟨sh, sl, c, F, rfl, hb2⟩;
         have G2 := Lib.hid (HoldsG.below (by repeat' (first | (with_reducible exact GG.out) | (with_reducible refine HoldsG.alloc ?_ _) | (with_reducible refine HoldsG.drew ?_))) hb2 : HoldsG v2 g at' ph pl' kept dr more pl pw pd bl);
         have K2 := Lib.hid (KB.step (by repeat' (first | (with_reducible exact K) | (with_reducible refine KB.alloc ?_ _) | (with_reducible refine KB.drew ?_))) hb2 : KB g w v2);
         clear hb2;
         obtain ⟨⟨c0, c1, c2, c3, c4, c5, c6, c7, c8, c9⟩, ff, cs⟩ := G2.out;
         have f1 := ff 1 (by decide); have f2 := ff 2 (by decide); clear ff))
  all_goals
    clear a0 a1 a2 a3 a4 a5 a6 a7 a8 a9 c0 c1 c2 c3 c4 c5 c6 c7 c8 c9 f1 f2
    obtain ⟨wS, vS⟩ : WW sh sl ∧ nv sh sl = nv h l * 10 + d := by
      rcases read_step HM.out F HS.out.2.1 with ⟨-, -, a, b⟩ | ⟨-, b⟩
      · exact ⟨b, a⟩
      · exact absurd b (Nat.not_le.mpr HS.out.1)
    have RES := Lib.hid (And.intro wS vS)
    have ZU := Lib.hid (zero_any sh sl)
    clear F wS vS
    have G3 := Lib.hid (HoldsG.put12 G2.out sh sl)
    replace K2 := Lib.hid (KB.set (KB.set K2.out 1 (.int .u64 (sh : Int))) 2 (.int .u64 (sl : Int)))
    go_upto_region 5 with fail
    try rw [show ((v2.setCell ⟨g, 1, none⟩ (.int .u64 (sh : Int))).setCell ⟨g, 2, none⟩ (.int .u64 (sl : Int))).drew = ((v2.setCell ⟨g, 1, none⟩ (.int .u64 (sh : Int))).setCell ⟨g, 2, none⟩ (.int .u64 (sl : Int))) from rfl]
    generalize (v2.setCell ⟨g, 1, none⟩ (.int .u64 (sh : Int))).setCell ⟨g, 2, none⟩ (.int .u64 (sl : Int)) = V2 at *
    clear G2 GG K
    obtain ⟨⟨a0, a1, a2, a3, a4, a5, a6, a7, a8, a9⟩, -, s'⟩ := G3.out
    go_wp2_with fail
    refine (ZU.out _).mono ?_
    rintro e v3 ⟨rfl, hb⟩
    replace G3 := Lib.hid (HoldsG.below (by repeat' (first | (with_reducible exact G3.out) | (with_reducible refine HoldsG.drew ?_))) hb : HoldsG v3 g at' sh sl kept dr more pl pw pd bl)
    replace K2 := Lib.hid (KB.step (by repeat' (first | (with_reducible exact K2.out) | (with_reducible refine KB.drew ?_))) hb : KB g w v3)
    clear hb ZU a0 a1 a2 a3 a4 a5 a6 a7 a8 a9 s'
    by_cases z : nv sh sl = 0
    · rw [decide_eq_true z]
      have ZZ := Lib.hid z
      clear z
      go_wp2
      refine bodyPost_end (v := .tuple #[]) (by simp [results, Tryd.results146, go_sem]) rfl ⟨rfl, sh, sl, RES.out.1, RES.out.2, ?_, K2.out⟩
      rw [if_pos ZZ.out]
      exact G3.out
    · rw [decide_eq_false z]
      have ZZ := Lib.hid z
      clear z
      obtain ⟨⟨a0, a1, a2, a3, a4, a5, a6, a7, a8, a9⟩, f, s'⟩ := G3.out
      have f3 := f 3 (by decide)
      clear f
      go_wp2
      clear a0 a1 a2 a3 a4 a5 a6 a7 a8 a9 f3 s'
      refine bodyPost_end (v := .tuple #[]) (by simp [results, Tryd.results146, go_sem]) rfl ⟨rfl, sh, sl, RES.out.1, RES.out.2, ?_, KB.set K2.out _ _⟩
      rw [if_neg ZZ.out]
      exact HoldsG.put3 G3.out (kept + 1)
end Go.Proofs.YtmelblnfjcbmjaaDoor

/-
  What a number's text has told up to a place (takeDigit of package numeral), as contracts of its call.
-/
namespace Go.Proofs.YtmelblnfjcbmjaaDoor
open Go.RowKit

theorem HoldsG.put0 {W : World} {g at' h l kept dr : Nat} {more : Bool} {pl pw pd : Nat} {bl : Bool} (H : HoldsG W g at' h l kept dr more pl pw pd bl) (k : Nat) : HoldsG (W.setCell ⟨g, 0, none⟩ (.int .i64 (k : Int))) g k h l kept dr more pl pw pd bl := by
  obtain ⟨⟨a0, a1, a2, a3, a4, a5, a6, a7, a8, a9⟩, f, s⟩ := H
  have f0 := f 0 (by decide); have f1 := f 1 (by decide); have f2 := f 2 (by decide); have f3 := f 3 (by decide); have f4 := f 4 (by decide)
  have f5 := f 5 (by decide); have f6 := f 6 (by decide); have f7 := f 7 (by decide); have f8 := f 8 (by decide); have f9 := f 9 (by decide)
  refine ⟨by simp [go_sem, *], fun i hi => ?_, by simpa [World.setCell] using s⟩
  have fi := f i hi
  simp [go_sem, *]
theorem HoldsG.put6 {W : World} {g at' h l kept dr : Nat} {more : Bool} {pl pw pd : Nat} {bl : Bool} (H : HoldsG W g at' h l kept dr more pl pw pd bl) (k : Nat) : HoldsG (W.setCell ⟨g, 6, none⟩ (.int .i64 (k : Int))) g at' h l kept dr more k pw pd bl := by
  obtain ⟨⟨a0, a1, a2, a3, a4, a5, a6, a7, a8, a9⟩, f, s⟩ := H
  have f0 := f 0 (by decide); have f1 := f 1 (by decide); have f2 := f 2 (by decide); have f3 := f 3 (by decide); have f4 := f 4 (by decide)
  have f5 := f 5 (by decide); have f6 := f 6 (by decide); have f7 := f 7 (by decide); have f8 := f 8 (by decide); have f9 := f 9 (by decide)
  refine ⟨by simp [go_sem, *], fun i hi => ?_, by simpa [World.setCell] using s⟩
  have fi := f i hi
  simp [go_sem, *]
theorem HoldsG.put7 {W : World} {g at' h l kept dr : Nat} {more : Bool} {pl pw pd : Nat} {bl : Bool} (H : HoldsG W g at' h l kept dr more pl pw pd bl) (k : Nat) : HoldsG (W.setCell ⟨g, 7, none⟩ (.int .i64 (k : Int))) g at' h l kept dr more pl k pd bl := by
  obtain ⟨⟨a0, a1, a2, a3, a4, a5, a6, a7, a8, a9⟩, f, s⟩ := H
  have f0 := f 0 (by decide); have f1 := f 1 (by decide); have f2 := f 2 (by decide); have f3 := f 3 (by decide); have f4 := f 4 (by decide)
  have f5 := f 5 (by decide); have f6 := f 6 (by decide); have f7 := f 7 (by decide); have f8 := f 8 (by decide); have f9 := f 9 (by decide)
  refine ⟨by simp [go_sem, *], fun i hi => ?_, by simpa [World.setCell] using s⟩
  have fi := f i hi
  simp [go_sem, *]
theorem HoldsG.put8 {W : World} {g at' h l kept dr : Nat} {more : Bool} {pl pw pd : Nat} {bl : Bool} (H : HoldsG W g at' h l kept dr more pl pw pd bl) (k : Nat) : HoldsG (W.setCell ⟨g, 8, none⟩ (.int .i64 (k : Int))) g at' h l kept dr more pl pw k bl := by
  obtain ⟨⟨a0, a1, a2, a3, a4, a5, a6, a7, a8, a9⟩, f, s⟩ := H
  have f0 := f 0 (by decide); have f1 := f 1 (by decide); have f2 := f 2 (by decide); have f3 := f 3 (by decide); have f4 := f 4 (by decide)
  have f5 := f 5 (by decide); have f6 := f 6 (by decide); have f7 := f 7 (by decide); have f8 := f 8 (by decide); have f9 := f 9 (by decide)
  refine ⟨by simp [go_sem, *], fun i hi => ?_, by simpa [World.setCell] using s⟩
  have fi := f i hi
  simp [go_sem, *]
theorem HoldsG.put9 {W : World} {g at' h l kept dr : Nat} {more : Bool} {pl pw pd : Nat} {bl : Bool} (H : HoldsG W g at' h l kept dr more pl pw pd bl) (b : Bool) : HoldsG (W.setCell ⟨g, 9, none⟩ (.bool b)) g at' h l kept dr more pl pw pd b := by
  obtain ⟨⟨a0, a1, a2, a3, a4, a5, a6, a7, a8, a9⟩, f, s⟩ := H
  have f0 := f 0 (by decide); have f1 := f 1 (by decide); have f2 := f 2 (by decide); have f3 := f 3 (by decide); have f4 := f 4 (by decide)
  have f5 := f 5 (by decide); have f6 := f 6 (by decide); have f7 := f 7 (by decide); have f8 := f 8 (by decide); have f9 := f 9 (by decide)
  refine ⟨by simp [go_sem, *], fun i hi => ?_, by simpa [World.setCell] using s⟩
  have fi := f i hi
  simp [go_sem, *]
/-- What a coefficient keeps to. -/
def CoefI (h l kept dr : Nat) : Prop := WW h l ∧ kept ≤ 38 ∧ nv h l < 10 ^ kept ∧ dr ≤ 200000000000000
theorem takeCoef_any (g at' h l kept dr : Nat) (more : Bool) (pl pw pd : Nat) (bl : Bool) (d : Nat) (hc : CoefI h l kept dr) (hd : d ≤ 9) (w : World) (H : HoldsG w g at' h l kept dr more pl pw pd bl) :
    Calls Tryd.prog 146 #[.pointer (some ⟨g, 0, none⟩), .int .i64 (d : Int)] w fun e w' => e = .returned (.tuple #[]) ∧ ∃ (h' l' kept' dr' : Nat) (more' : Bool), CoefF h l kept dr more d h' l' kept' dr' more' ∧ HoldsG w' g at' h' l' kept' dr' more' pl pw pd bl ∧ KB g w w' := by
  obtain ⟨wh, k38, hv, hr⟩ := hc
  by_cases k : kept = 38
  · subst k
    refine (takeCoef_full g at' h l dr more pl pw pd bl d hr w H).mono ?_
    rintro e w' ⟨rfl, G, K⟩
    exact ⟨rfl, h, l, 38, dr + 1, _, ⟨wh, .inl ⟨rfl, rfl, rfl, rfl, rfl, rfl⟩⟩, G, K⟩
  · refine (takeCoef_more g at' h l kept dr more pl pw pd bl d wh (by omega) hv hd w H).mono ?_
    rintro e w' ⟨rfl, h', l', w', v', G, K⟩
    exact ⟨rfl, h', l', _, dr, more, ⟨w', .inr ⟨k, v', rfl, rfl, rfl⟩⟩, G, K⟩
theorem CoefF.inv {h l kept dr : Nat} {more : Bool} {d h' l' kept' dr' : Nat} {more' : Bool} (C : CoefF h l kept dr more d h' l' kept' dr' more') (I : CoefI h l kept dr) (hd : d ≤ 9) : WW h' l' ∧ kept' ≤ 38 ∧ nv h' l' < 10 ^ kept' ∧ dr' ≤ dr + 1 := by
  obtain ⟨w, ⟨k, rfl, rfl, rfl, rfl, _⟩ | ⟨k, v, rfl, rfl, _⟩⟩ := C
  · exact ⟨w, I.2.1, I.2.2.1, by omega⟩
  · refine ⟨w, ?_, ?_, by omega⟩
    · have := I.2.1
      split <;> omega
    · split
      · rename_i z
        rw [z]; exact p10 _
      · rw [v, Nat.pow_succ]
        have := I.2.2.1
        omega

set_option linter.unusedSimpArgs false in
set_option maxRecDepth 100000 in
set_option maxHeartbeats 4000000 in
theorem takeDigit_whole (g at' h l kept dr : Nat) (more : Bool) (pl pw pd : Nat) (bl : Bool) (d : Nat) (ha : at' = 0 ∨ at' = 1) (hc : CoefI h l kept dr) (hd : d ≤ 9) (w : World) (H : HoldsG w g at' h l kept dr more pl pw pd bl) :
    Calls Tryd.prog 133 #[.pointer (some ⟨g, 0, none⟩), .int .i64 (d : Int)] w fun e w' => e = .returned (.bool true) ∧ ∃ (h' l' kept' dr' : Nat) (more' : Bool), CoefF h l kept dr more d h' l' kept' dr' more' ∧ HoldsG w' g 1 h' l' kept' dr' more' pl pw pd bl ∧ KB g w w' := by
  have HH := Lib.hid H
  have HC := Lib.hid (And.intro hc hd)
  obtain ⟨⟨a0, a1, a2, a3, a4, a5, a6, a7, a8, a9⟩, f, s⟩ := H
  have f0 := f 0 (by decide)
  have f6 := f 6 (by decide)
  clear f hc hd
  have K := KB.refl g w
  have key : HoldsG (w.setCell ⟨g, 0, none⟩ (.int .i64 1)) g 1 h l kept dr more pl pw pd bl ∧ KB g w (w.setCell ⟨g, 0, none⟩ (.int .i64 1)) := ⟨HoldsG.put0 HH.out 1, KB.set K _ _⟩
  rcases ha with rfl | rfl
  all_goals
    go_enter Tryd.func133, Tryd.ntmps133
    go_wp2_with fail
    clear a0 a1 a2 a3 a4 a5 a6 a7 a8 a9 f0 f6 s K
    obtain ⟨G, K⟩ := key
    generalize w.setCell ⟨g, 0, none⟩ (.int .i64 1) = V at *
    refine (takeCoef_any g 1 h l kept dr more pl pw pd bl d HC.out.1 HC.out.2 V G).mono ?_
    rintro e v1 ⟨rfl, h', l', kept', dr', more', C, G', K'⟩
    have RES := Lib.hid (And.intro C (And.intro G' (KB.trans K K')))
    clear C G' K' G K
    go_wp2
    go_ret
    exact ⟨rfl, h', l', kept', dr', more', RES.out.1, RES.out.2.1, RES.out.2.2⟩

set_option linter.unusedSimpArgs false in
set_option maxRecDepth 100000 in
set_option maxHeartbeats 4000000 in
theorem takeDigit_places (g at' h l kept dr : Nat) (more : Bool) (pl pw pd : Nat) (bl : Bool) (d : Nat) (ha : at' = 2 ∨ at' = 3) (hc : CoefI h l kept dr) (hd : d ≤ 9) (hp : pl ≤ 200000000000000) (w : World) (H : HoldsG w g at' h l kept dr more pl pw pd bl) :
    Calls Tryd.prog 133 #[.pointer (some ⟨g, 0, none⟩), .int .i64 (d : Int)] w fun e w' => e = .returned (.bool true) ∧ ∃ (h' l' kept' dr' : Nat) (more' : Bool), CoefF h l kept dr more d h' l' kept' dr' more' ∧ HoldsG w' g 3 h' l' kept' dr' more' (pl + 1) pw pd bl ∧ KB g w w' := by
  have HH := Lib.hid H
  have HC := Lib.hid (And.intro hc hd)
  obtain ⟨p1, hp1⟩ : ∃ p : Nat, p = pl + 1 := ⟨_, rfl⟩
  have e6 : wrap64 ((pl : Int) + 1) = (p1 : Int) := by unfold wrap64; omega
  have HP := Lib.hid hp1
  clear hp hp1
  obtain ⟨⟨a0, a1, a2, a3, a4, a5, a6, a7, a8, a9⟩, f, s⟩ := H
  have f0 := f 0 (by decide)
  have f6 := f 6 (by decide)
  clear f hc hd
  have K := KB.refl g w
  have key : HoldsG ((w.setCell ⟨g, 0, none⟩ (.int .i64 3)).setCell ⟨g, 6, none⟩ (.int .i64 (p1 : Int))) g 3 h l kept dr more p1 pw pd bl ∧ KB g w ((w.setCell ⟨g, 0, none⟩ (.int .i64 3)).setCell ⟨g, 6, none⟩ (.int .i64 (p1 : Int))) := ⟨HoldsG.put6 (HoldsG.put0 HH.out 3) p1, KB.set (KB.set K _ _) _ _⟩
  rcases ha with rfl | rfl
  all_goals
    go_enter Tryd.func133, Tryd.ntmps133
    go_wp2_with fail
    clear a0 a1 a2 a3 a4 a5 a6 a7 a8 a9 f0 f6 s K
    obtain ⟨G, K⟩ := key
    generalize (w.setCell ⟨g, 0, none⟩ (.int .i64 3)).setCell ⟨g, 6, none⟩ (.int .i64 (p1 : Int)) = V at *
    refine (takeCoef_any g 3 h l kept dr more p1 pw pd bl d HC.out.1 HC.out.2 V G).mono ?_
    rintro e v1 ⟨rfl, h', l', kept', dr', more', C, G', K'⟩
    have RES := Lib.hid (And.intro C (And.intro G' (KB.trans K K')))
    clear C G' K' G K
    go_wp2
    go_ret
    have q := HP.out
    subst q
    exact ⟨rfl, h', l', kept', dr', more', RES.out.1, RES.out.2.1, RES.out.2.2⟩

set_option linter.unusedSimpArgs false in
set_option maxRecDepth 100000 in
set_option maxHeartbeats 4000000 in
theorem takeDigit_power (g at' h l kept dr : Nat) (more : Bool) (pl pw pd : Nat) (bl : Bool) (d : Nat) (ha : at' = 4 ∨ at' = 5 ∨ at' = 6) (hd : d ≤ 9) (hp : pw ≤ 200000000000000) (hq : pd ≤ 200000000000000) (w : World) (H : HoldsG w g at' h l kept dr more pl pw pd bl) :
    Calls Tryd.prog 133 #[.pointer (some ⟨g, 0, none⟩), .int .i64 (d : Int)] w fun e w' => e = .returned (.bool (decide (pd + 1 ≤ 6))) ∧ HoldsG w' g 6 h l kept dr more pl (pw * 10 + d) (pd + 1) bl ∧ KB g w w' := by
  have HH := Lib.hid H
  obtain ⟨q1, hq1⟩ : ∃ p : Nat, p = pw * 10 + d := ⟨_, rfl⟩
  obtain ⟨q2, hq2⟩ : ∃ p : Nat, p = pd + 1 := ⟨_, rfl⟩
  obtain ⟨m1, hm1⟩ : ∃ p : Int, p = 10 * (pw : Int) := ⟨_, rfl⟩
  have e1 : wrap64 (10 * (pw : Int)) = m1 := by unfold wrap64; omega
  have e2 : wrap64 (m1 + (d : Int)) = (q1 : Int) := by unfold wrap64; omega
  have e3 : wrap64 ((pd : Int) + 1) = (q2 : Int) := by unfold wrap64; omega
  have HQ := Lib.hid (And.intro hq1 hq2)
  have RB := Lib.hid (show decide (pd + 1 ≤ 6) = decide ((q2 : Int) ≤ 6) from decide_eq_decide.mpr (by omega))
  obtain ⟨⟨a0, a1, a2, a3, a4, a5, a6, a7, a8, a9⟩, f, s⟩ := H
  have f0 := f 0 (by decide)
  have f7 := f 7 (by decide)
  have f8 := f 8 (by decide)
  clear f hd hp hq hq1 hq2 hm1
  rcases ha with rfl | rfl | rfl
  all_goals
    go_enter Tryd.func133, Tryd.ntmps133
    go_wp2
    go_ret
    refine ⟨?_, ?_, KB.set (KB.set (KB.set (KB.refl g w) _ _) _ _) _ _⟩
    · rw [RB.out]; rfl
    · have k := HoldsG.put8 (HoldsG.put7 (HoldsG.put0 HH.out 6) q1) q2
      rw [← HQ.out.1, ← HQ.out.2]
      exact k

set_option linter.unusedSimpArgs false in
set_option maxRecDepth 100000 in
set_option maxHeartbeats 4000000 in
theorem take_digit_whole (g at' h l kept dr : Nat) (more : Bool) (pl pw pd : Nat) (bl : Bool) (d : Nat) (ha : at' = 0 ∨ at' = 1) (hc : CoefI h l kept dr) (hd : d ≤ 9) (w : World) (H : HoldsG w g at' h l kept dr more pl pw pd bl) :
    Calls Tryd.prog 106 #[.pointer (some ⟨g, 0, none⟩), .int .i32 ((d + 48 : Nat) : Int)] w fun e w' => e = .returned (.bool true) ∧ ∃ (h' l' kept' dr' : Nat) (more' : Bool), CoefF h l kept dr more d h' l' kept' dr' more' ∧ HoldsG w' g 1 h' l' kept' dr' more' pl pw pd bl ∧ KB g w w' := by
  have TD := Lib.hid (takeDigit_whole g at' h l kept dr more pl pw pd bl d ha hc hd w H)
  obtain ⟨⟨a0, a1, a2, a3, a4, a5, a6, a7, a8, a9⟩, -, s⟩ := H
  obtain ⟨r, hr⟩ : ∃ r : Int, r = ((d + 48 : Nat) : Int) := ⟨_, rfl⟩
  rw [← hr]
  have t1 : decide (48 ≤ r) = true := decide_eq_true (by omega)
  have t2 : decide (r ≤ 57) = true := decide_eq_true (by omega)
  have e1 : IntKind.i32.wrap (r - 48) = (d : Int) := by rw [IntKind.wrap_i32]; omega
  have e2 : wrap32 (r - 48) = (d : Int) := by unfold wrap32; omega
  have e3 : IntKind.i64.wrap (d : Int) = (d : Int) := by rw [IntKind.wrap_i64]; omega
  clear ha hc hd hr
  go_enter Tryd.func106, Tryd.ntmps106
  go_wp2_with fail
  refine TD.out.mono ?_
  rintro e v1 ⟨rfl, RES⟩
  clear a0 a1 a2 a3 a4 a5 a6 a7 a8 a9 s TD
  have HR := Lib.hid RES
  clear RES
  go_wp2
  go_ret
  exact ⟨rfl, HR.out⟩
end Go.Proofs.YtmelblnfjcbmjaaDoor

/-
  What a number's text has told up to a place (take of package numeral), as a contract of its call: one more rune.
-/
namespace Go.Proofs.YtmelblnfjcbmjaaDoor
open Go.RowKit

/-- What was read: the place; the coefficient, how many digits it has, how many were dropped, whether not all of these are noughts; the places; the power, its digits, whether it is below 0. -/
abbrev RdT : Type := Nat × Nat × Nat × Nat × Bool × Nat × Nat × Nat × Bool
/-- One more digit of the coefficient, its place and the places being given. -/
def coefS (at' V kept dr : Nat) (more : Bool) (pl pw pd : Nat) (bl : Bool) (d : Nat) : RdT :=
  if kept = 38 then (at', V, kept, dr + 1, more || decide (d ≠ 0), pl, pw, pd, bl) else (at', V * 10 + d, if V * 10 + d = 0 then kept else kept + 1, dr, more, pl, pw, pd, bl)
/-- One more rune. -/
def takeS (r : Nat) : RdT → RdT × Bool
  | (at', V, kept, dr, more, pl, pw, pd, bl) =>
    if 48 ≤ r ∧ r ≤ 57 then
      if at' ≤ 1 then (coefS 1 V kept dr more pl pw pd bl (r - 48), true)
      else if at' ≤ 3 then (coefS 3 V kept dr more (pl + 1) pw pd bl (r - 48), true)
      else ((6, V, kept, dr, more, pl, pw * 10 + (r - 48), pd + 1, bl), decide (pd + 1 ≤ 6))
    else if r = 46 then ((2, V, kept, dr, more, pl, pw, pd, bl), decide (at' ≤ 1))
    else if r = 69 then ((4, V, kept, dr, more, pl, pw, pd, bl), decide (at' = 1 ∨ at' = 3))
    else if r = 43 ∨ r = 45 then ((5, V, kept, dr, more, pl, pw, pd, decide (r = 45)), decide (at' = 4))
    else ((at', V, kept, dr, more, pl, pw, pd, bl), false)
/-- The cells of a block hold what was read. -/
def HoldsT (W : World) (g : Nat) : RdT → Prop
  | (at', V, kept, dr, more, pl, pw, pd, bl) => ∃ h l : Nat, WW h l ∧ nv h l = V ∧ HoldsG W g at' h l kept dr more pl pw pd bl
/-- What it keeps to behind n runes. -/
def InvT (n : Nat) : RdT → Prop
  | (at', V, kept, dr, _, pl, pw, pd, _) => at' ≤ 6 ∧ kept ≤ 38 ∧ V < 10 ^ kept ∧ dr ≤ n ∧ pl ≤ n ∧ pd ≤ 7 ∧ pw < 10 ^ pd

theorem coefF_S {h l kept dr : Nat} {more : Bool} {d h' l' kept' dr' : Nat} {more' : Bool} (C : CoefF h l kept dr more d h' l' kept' dr' more') {W : World} {g at' pl pw pd : Nat} {bl : Bool} (H : HoldsG W g at' h' l' kept' dr' more' pl pw pd bl) : HoldsT W g (coefS at' (nv h l) kept dr more pl pw pd bl d) := by
  obtain ⟨w, ⟨k, rfl, rfl, rfl, rfl, rfl⟩ | ⟨k, v, rfl, rfl, rfl⟩⟩ := C
  · unfold coefS
    rw [if_pos k]
    exact ⟨h', l', w, rfl, H⟩
  · unfold coefS
    rw [if_neg k]
    rw [v] at H
    exact ⟨h', l', w, v, H⟩
set_option linter.unusedSimpArgs false in
set_option maxRecDepth 100000 in
set_option maxHeartbeats 4000000 in
theorem take_d (g at' h l kept dr : Nat) (more : Bool) (pl pw pd : Nat) (bl : Bool) (d : Nat) (hd : d ≤ 9) (w : World) (H : HoldsG w g at' h l kept dr more pl pw pd bl) (ok : Bool) (Q : World → Prop)
    (TD : Calls Tryd.prog 133 #[.pointer (some ⟨g, 0, none⟩), .int .i64 (d : Int)] w fun e w' => e = .returned (.bool ok) ∧ Q w') :
    Calls Tryd.prog 106 #[.pointer (some ⟨g, 0, none⟩), .int .i32 ((d + 48 : Nat) : Int)] w fun e w' => e = .returned (.bool ok) ∧ Q w' := by
  have TD := Lib.hid TD
  obtain ⟨⟨a0, a1, a2, a3, a4, a5, a6, a7, a8, a9⟩, -, s⟩ := H
  obtain ⟨r, hr⟩ : ∃ r : Int, r = ((d + 48 : Nat) : Int) := ⟨_, rfl⟩
  rw [← hr]
  have t1 : decide (48 ≤ r) = true := decide_eq_true (by omega)
  have t2 : decide (r ≤ 57) = true := decide_eq_true (by omega)
  have e1 : IntKind.i32.wrap (r - 48) = (d : Int) := by rw [IntKind.wrap_i32]; omega
  have e2 : wrap32 (r - 48) = (d : Int) := by unfold wrap32; omega
  have e3 : IntKind.i64.wrap (d : Int) = (d : Int) := by rw [IntKind.wrap_i64]; omega
  clear hd hr
  go_enter Tryd.func106, Tryd.ntmps106
  go_wp2_with fail
  refine TD.out.mono ?_
  rintro e v1 ⟨rfl, RES⟩
  clear a0 a1 a2 a3 a4 a5 a6 a7 a8 a9 s TD
  have HR := Lib.hid RES
  clear RES
  go_wp2
  go_ret
  exact ⟨rfl, HR.out⟩
set_option linter.unusedSimpArgs false in
set_option maxRecDepth 100000 in
set_option maxHeartbeats 4000000 in
theorem take_point (g at' h l kept dr : Nat) (more : Bool) (pl pw pd : Nat) (bl : Bool) (ha : at' ≤ 6) (w : World) (H : HoldsG w g at' h l kept dr more pl pw pd bl) :
    Calls Tryd.prog 106 #[.pointer (some ⟨g, 0, none⟩), .int .i32 46] w fun e w' => e = .returned (.bool (decide (at' ≤ 1))) ∧ HoldsG w' g 2 h l kept dr more pl pw pd bl ∧ KB g w w' := by
  have HH := Lib.hid H
  obtain ⟨⟨a0, a1, a2, a3, a4, a5, a6, a7, a8, a9⟩, f, s⟩ := H
  have f0 := f 0 (by decide)
  have f9 := f 9 (by decide)
  clear f
  have c : at' = 0 ∨ at' = 1 ∨ at' = 2 ∨ at' = 3 ∨ at' = 4 ∨ at' = 5 ∨ at' = 6 := by omega
  clear ha
  rcases c with rfl | rfl | rfl | rfl | rfl | rfl | rfl
  all_goals
    go_enter Tryd.func106, Tryd.ntmps106
    go_wp2
    go_ret
    exact ⟨rfl, HoldsG.put0 HH.out 2, KB.set (KB.refl g w) _ _⟩
set_option linter.unusedSimpArgs false in
set_option maxRecDepth 100000 in
set_option maxHeartbeats 4000000 in
theorem take_E (g at' h l kept dr : Nat) (more : Bool) (pl pw pd : Nat) (bl : Bool) (ha : at' ≤ 6) (w : World) (H : HoldsG w g at' h l kept dr more pl pw pd bl) :
    Calls Tryd.prog 106 #[.pointer (some ⟨g, 0, none⟩), .int .i32 69] w fun e w' => e = .returned (.bool (decide (at' = 1 ∨ at' = 3))) ∧ HoldsG w' g 4 h l kept dr more pl pw pd bl ∧ KB g w w' := by
  have HH := Lib.hid H
  obtain ⟨⟨a0, a1, a2, a3, a4, a5, a6, a7, a8, a9⟩, f, s⟩ := H
  have f0 := f 0 (by decide)
  have f9 := f 9 (by decide)
  clear f
  have c : at' = 0 ∨ at' = 1 ∨ at' = 2 ∨ at' = 3 ∨ at' = 4 ∨ at' = 5 ∨ at' = 6 := by omega
  clear ha
  rcases c with rfl | rfl | rfl | rfl | rfl | rfl | rfl
  all_goals
    go_enter Tryd.func106, Tryd.ntmps106
    go_wp2
    go_ret
    exact ⟨rfl, HoldsG.put0 HH.out 4, KB.set (KB.refl g w) _ _⟩
set_option linter.unusedSimpArgs false in
set_option maxRecDepth 100000 in
set_option maxHeartbeats 4000000 in
theorem take_plus (g at' h l kept dr : Nat) (more : Bool) (pl pw pd : Nat) (bl : Bool) (ha : at' ≤ 6) (w : World) (H : HoldsG w g at' h l kept dr more pl pw pd bl) :
    Calls Tryd.prog 106 #[.pointer (some ⟨g, 0, none⟩), .int .i32 43] w fun e w' => e = .returned (.bool (decide (at' = 4))) ∧ HoldsG w' g 5 h l kept dr more pl pw pd false ∧ KB g w w' := by
  have HH := Lib.hid H
  obtain ⟨⟨a0, a1, a2, a3, a4, a5, a6, a7, a8, a9⟩, f, s⟩ := H
  have f0 := f 0 (by decide)
  have f9 := f 9 (by decide)
  clear f
  have c : at' = 0 ∨ at' = 1 ∨ at' = 2 ∨ at' = 3 ∨ at' = 4 ∨ at' = 5 ∨ at' = 6 := by omega
  clear ha
  rcases c with rfl | rfl | rfl | rfl | rfl | rfl | rfl
  all_goals
    go_enter Tryd.func106, Tryd.ntmps106
    go_wp2
    go_ret
    exact ⟨rfl, HoldsG.put9 (HoldsG.put0 HH.out 5) false, KB.set (KB.set (KB.refl g w) _ _) _ _⟩
set_option linter.unusedSimpArgs false in
set_option maxRecDepth 100000 in
set_option maxHeartbeats 4000000 in
theorem take_minus (g at' h l kept dr : Nat) (more : Bool) (pl pw pd : Nat) (bl : Bool) (ha : at' ≤ 6) (w : World) (H : HoldsG w g at' h l kept dr more pl pw pd bl) :
    Calls Tryd.prog 106 #[.pointer (some ⟨g, 0, none⟩), .int .i32 45] w fun e w' => e = .returned (.bool (decide (at' = 4))) ∧ HoldsG w' g 5 h l kept dr more pl pw pd true ∧ KB g w w' := by
  have HH := Lib.hid H
  obtain ⟨⟨a0, a1, a2, a3, a4, a5, a6, a7, a8, a9⟩, f, s⟩ := H
  have f0 := f 0 (by decide)
  have f9 := f 9 (by decide)
  clear f
  have c : at' = 0 ∨ at' = 1 ∨ at' = 2 ∨ at' = 3 ∨ at' = 4 ∨ at' = 5 ∨ at' = 6 := by omega
  clear ha
  rcases c with rfl | rfl | rfl | rfl | rfl | rfl | rfl
  all_goals
    go_enter Tryd.func106, Tryd.ntmps106
    go_wp2
    go_ret
    exact ⟨rfl, HoldsG.put9 (HoldsG.put0 HH.out 5) true, KB.set (KB.set (KB.refl g w) _ _) _ _⟩
set_option linter.unusedSimpArgs false in
set_option maxRecDepth 100000 in
set_option maxHeartbeats 4000000 in
theorem take_other (g at' h l kept dr : Nat) (more : Bool) (pl pw pd : Nat) (bl : Bool) (r : Int) (h1 : r < 48 ∨ 57 < r) (h2 : r ≠ 46) (h3 : r ≠ 69) (h4 : r ≠ 43) (h5 : r ≠ 45) (w : World) (H : HoldsG w g at' h l kept dr more pl pw pd bl) :
    Calls Tryd.prog 106 #[.pointer (some ⟨g, 0, none⟩), .int .i32 r] w fun e w' => e = .returned (.bool false) ∧ HoldsG w' g at' h l kept dr more pl pw pd bl ∧ KB g w w' := by
  have HH := Lib.hid H
  obtain ⟨⟨a0, a1, a2, a3, a4, a5, a6, a7, a8, a9⟩, f, s⟩ := H
  clear f
  have t2 : (r == 46) = false := by simpa using h2
  have t3 : (r == 69) = false := by simpa using h3
  have t4 : (r == 43) = false := by simpa using h4
  have t5 : (r == 45) = false := by simpa using h5
  have t6 : decide (48 ≤ r) = false ∨ (decide (48 ≤ r) = true ∧ decide (r ≤ 57) = false) := by
    by_cases k : 48 ≤ r
    · exact .inr ⟨decide_eq_true k, decide_eq_false (by omega)⟩
    · exact .inl (decide_eq_false k)
  clear h1 h2 h3 h4 h5
  rcases t6 with t6 | ⟨t6, t7⟩
  all_goals
    go_enter Tryd.func106, Tryd.ntmps106
    go_wp2
    go_ret
    exact ⟨rfl, HH.out, KB.refl g w⟩

theorem takeS_inv {n r : Nat} {s : RdT} (I : InvT n s) (h : (takeS r s).2 = true) : InvT (n + 1) (takeS r s).1 := by
  obtain ⟨at', V, kept, dr, more, pl, pw, pd, bl⟩ := s
  obtain ⟨i1, i2, i3, i4, i5, i6, i7⟩ := I
  have cf : ∀ (a p d : Nat), a ≤ 6 → p ≤ n + 1 → d ≤ 9 → InvT (n + 1) (coefS a V kept dr more p pw pd bl d) := by
    intro a p d ha hp hd
    unfold coefS
    by_cases k : kept = 38
    · rw [if_pos k]
      exact ⟨ha, i2, i3, by omega, hp, i6, i7⟩
    · rw [if_neg k]
      refine ⟨ha, ?_, ?_, by omega, hp, i6, i7⟩
      · show (if V * 10 + d = 0 then kept else kept + 1) ≤ 38
        split <;> omega
      · show V * 10 + d < 10 ^ (if V * 10 + d = 0 then kept else kept + 1)
        split
        · rename_i z
          rw [z]; exact p10 _
        · rw [Nat.pow_succ]; omega
  unfold takeS at h ⊢
  simp only [] at h ⊢
  by_cases c1 : 48 ≤ r ∧ r ≤ 57
  · rw [if_pos c1] at h ⊢
    by_cases c2 : at' ≤ 1
    · rw [if_pos c2] at h ⊢
      exact cf 1 pl (r - 48) (by decide) (by omega) (by omega)
    · rw [if_neg c2] at h ⊢
      by_cases c3 : at' ≤ 3
      · rw [if_pos c3] at h ⊢
        exact cf 3 (pl + 1) (r - 48) (by decide) (by omega) (by omega)
      · rw [if_neg c3] at h ⊢
        have h6 : pd + 1 ≤ 6 := of_decide_eq_true h
        refine ⟨by decide, i2, i3, by omega, by omega, by omega, ?_⟩
        show pw * 10 + (r - 48) < 10 ^ (pd + 1)
        rw [Nat.pow_succ]
        omega
  · rw [if_neg c1] at h ⊢
    by_cases c4 : r = 46
    · rw [if_pos c4] at h ⊢
      exact ⟨by decide, i2, i3, by omega, by omega, i6, i7⟩
    · rw [if_neg c4] at h ⊢
      by_cases c5 : r = 69
      · rw [if_pos c5] at h ⊢
        exact ⟨by decide, i2, i3, by omega, by omega, i6, i7⟩
      · rw [if_neg c5] at h ⊢
        by_cases c6 : r = 43 ∨ r = 45
        · rw [if_pos c6] at h ⊢
          exact ⟨by decide, i2, i3, by omega, by omega, i6, i7⟩
        · rw [if_neg c6] at h
          exact absurd h Bool.false_ne_true
theorem take_any (g n r : Nat) (s : RdT) (I : InvT n s) (hn : n ≤ 200000000000000) (w : World) (H : HoldsT w g s) :
    Calls Tryd.prog 106 #[.pointer (some ⟨g, 0, none⟩), .int .i32 (r : Int)] w fun e w' => e = .returned (.bool (takeS r s).2) ∧ (HoldsT w' g (takeS r s).1 ∧ KB g w w') := by
  obtain ⟨at', V, kept, dr, more, pl, pw, pd, bl⟩ := s
  obtain ⟨i1, i2, i3, i4, i5, i6, i7⟩ := I
  obtain ⟨h, l, wh, vh, H⟩ := H
  have ci : CoefI h l kept dr := ⟨wh, i2, by rw [vh]; exact i3, by omega⟩
  have pw12 : pw ≤ 200000000000000 := by
    have : 10 ^ pd ≤ 10 ^ 7 := p10_mono i6
    omega
  unfold takeS
  simp only []
  by_cases c1 : 48 ≤ r ∧ r ≤ 57
  · obtain ⟨d, hd⟩ : ∃ d, d = r - 48 := ⟨_, rfl⟩
    have d9 : d ≤ 9 := by omega
    rw [if_pos c1, ← hd, show ((r : Nat) : Int) = ((d + 48 : Nat) : Int) by omega]
    by_cases c2 : at' ≤ 1
    · rw [if_pos c2]
      refine take_d g at' h l kept dr more pl pw pd bl d d9 w H true (fun w' => HoldsT w' g (coefS 1 V kept dr more pl pw pd bl d) ∧ KB g w w') ?_
      refine (takeDigit_whole g at' h l kept dr more pl pw pd bl d (by omega) ci d9 w H).mono ?_
      rintro e w' ⟨rfl, h', l', kept', dr', more', C, G, K⟩
      rw [← vh]
      exact ⟨rfl, coefF_S C G, K⟩
    · rw [if_neg c2]
      by_cases c3 : at' ≤ 3
      · rw [if_pos c3]
        refine take_d g at' h l kept dr more pl pw pd bl d d9 w H true (fun w' => HoldsT w' g (coefS 3 V kept dr more (pl + 1) pw pd bl d) ∧ KB g w w') ?_
        refine (takeDigit_places g at' h l kept dr more pl pw pd bl d (by omega) ci d9 (by omega) w H).mono ?_
        rintro e w' ⟨rfl, h', l', kept', dr', more', C, G, K⟩
        rw [← vh]
        exact ⟨rfl, coefF_S C G, K⟩
      · rw [if_neg c3]
        refine take_d g at' h l kept dr more pl pw pd bl d d9 w H (decide (pd + 1 ≤ 6)) (fun w' => HoldsT w' g (6, V, kept, dr, more, pl, pw * 10 + d, pd + 1, bl) ∧ KB g w w') ?_
        refine (takeDigit_power g at' h l kept dr more pl pw pd bl d (by omega) d9 pw12 (by omega) w H).mono ?_
        rintro e w' ⟨rfl, G, K⟩
        exact ⟨rfl, ⟨h, l, wh, vh, G⟩, K⟩
  · rw [if_neg c1]
    by_cases c4 : r = 46
    · rw [if_pos c4, c4]
      refine (take_point g at' h l kept dr more pl pw pd bl i1 w H).mono ?_
      rintro e w' ⟨rfl, G, K⟩
      exact ⟨rfl, ⟨h, l, wh, vh, G⟩, K⟩
    · rw [if_neg c4]
      by_cases c5 : r = 69
      · rw [if_pos c5, c5]
        refine (take_E g at' h l kept dr more pl pw pd bl i1 w H).mono ?_
        rintro e w' ⟨rfl, G, K⟩
        exact ⟨rfl, ⟨h, l, wh, vh, G⟩, K⟩
      · rw [if_neg c5]
        by_cases c6 : r = 43 ∨ r = 45
        · rw [if_pos c6]
          rcases c6 with c6 | c6
          · rw [c6]
            refine (take_plus g at' h l kept dr more pl pw pd bl i1 w H).mono ?_
            rintro e w' ⟨rfl, G, K⟩
            exact ⟨rfl, ⟨h, l, wh, vh, G⟩, K⟩
          · rw [c6]
            refine (take_minus g at' h l kept dr more pl pw pd bl i1 w H).mono ?_
            rintro e w' ⟨rfl, G, K⟩
            exact ⟨rfl, ⟨h, l, wh, vh, G⟩, K⟩
        · rw [if_neg c6]
          refine (take_other g at' h l kept dr more pl pw pd bl (r : Int) (by omega) (by omega) (by omega) (by omega) (by omega) w H).mono ?_
          rintro e w' ⟨rfl, G, K⟩
          exact ⟨rfl, ⟨h, l, wh, vh, G⟩, K⟩
end Go.Proofs.YtmelblnfjcbmjaaDoor

/-
  A number's whole text, rune by rune (readThrough of package numeral), as a contract of its call.
-/
namespace Go.Proofs.YtmelblnfjcbmjaaDoor
open Go.RowKit

def rd0 : RdT := (0, 0, 0, 0, false, 0, 0, 0, false)
/-- A text's bytes, one behind the other. -/
def runS : List UInt8 → RdT → Option RdT
  | [], s => some s
  | b :: t, s => if (takeS b.toNat s).2 = true then runS t (takeS b.toNat s).1 else none
theorem runS_snoc {l : List UInt8} {b : UInt8} : ∀ {s s' : RdT}, runS l s = some s' → runS (l ++ [b]) s = if (takeS b.toNat s').2 = true then some (takeS b.toNat s').1 else none := by
  induction l with
  | nil =>
    intro s s' h
    obtain rfl : s = s' := Option.some.inj h
    rfl
  | cons c l ih =>
    intro s s' h
    rw [List.cons_append]
    unfold runS at h ⊢
    split at h
    · rename_i q
      rw [if_pos q]
      exact ih h
    · exact absurd h (by simp)
theorem runS_stop {l : List UInt8} {b : UInt8} {m : List UInt8} : ∀ {s s' : RdT}, runS l s = some s' → (takeS b.toNat s').2 = false → runS (l ++ b :: m) s = none := by
  induction l with
  | nil =>
    intro s s' h k
    obtain rfl : s = s' := Option.some.inj h
    show (if (takeS b.toNat s).2 = true then runS m (takeS b.toNat s).1 else none) = none
    rw [if_neg (by rw [k]; exact Bool.false_ne_true)]
  | cons c l ih =>
    intro s s' h k
    rw [List.cons_append]
    unfold runS at h ⊢
    split at h
    · rename_i q
      rw [if_pos q]
      exact ih h k
    · exact absurd h (by simp)
theorem takeS_high {r : Nat} (h : 128 ≤ r) (s : RdT) : (takeS r s).2 = false := by
  obtain ⟨at', V, kept, dr, more, pl, pw, pd, bl⟩ := s
  unfold takeS
  simp only []
  rw [if_neg (by omega), if_neg (by omega), if_neg (by omega), if_neg (by omega)]
theorem byte_at (s : ByteArray) (pos : Nat) (h : pos < s.size) : s.data.toList.take (pos + 1) = s.data.toList.take pos ++ [s[pos]'h] := by
  have h' : pos < s.data.toList.length := h
  rw [List.take_succ_eq_append_getElem h']
  rfl
theorem byte_mem (s : ByteArray) (pos : Nat) (h : pos < s.size) : s[pos]'h ∈ s.data.toList := by
  have h' : pos < s.data.toList.length := h
  exact List.getElem_mem h'


/-- What was read, as the program lays it. -/
abbrev Gv (at' h l kept dr : Nat) (more : Bool) (pl pw pd : Nat) (bl : Bool) : Value := .agg #[.int .i64 (at' : Int), .int .u64 (h : Int), .int .u64 (l : Int), .int .i64 (kept : Int), .int .i64 (dr : Int), .bool more, .int .i64 (pl : Int), .int .i64 (pw : Int), .int .i64 (pd : Int), .bool bl]
theorem HoldsG.new10 {W : World} {g : Nat} {t : Nat} (hg : g = W.heap.size) : HoldsG (W.alloc (.cells #[.int .i64 0, .int .u64 0, .int .u64 0, .int .i64 0, .int .i64 0, .bool false, .int .i64 0, .int .i64 0, .int .i64 0, .bool false] t)) g 0 0 0 0 0 false 0 0 0 false := by
  subst hg
  refine ⟨by simp [go_sem], fun i hi => by simp [go_sem], by simp⟩
theorem HoldsG.iter {W : World} {g at' h l kept dr : Nat} {more : Bool} {pl pw pd : Nat} {bl : Bool} (H : HoldsG W g at' h l kept dr more pl pw pd bl) {k : Nat} (hk : g ≠ k) (s : ByteArray) (pos : Nat) : HoldsG (W.iterAt k s pos) g at' h l kept dr more pl pw pd bl := by
  obtain ⟨⟨a0, a1, a2, a3, a4, a5, a6, a7, a8, a9⟩, f, e⟩ := H
  have q := Lib.iterAt_other W k g s pos hk
  exact ⟨⟨(World.cell?_of_block (a := ⟨g, 0, none⟩) q).trans a0, (World.cell?_of_block (a := ⟨g, 1, none⟩) q).trans a1, (World.cell?_of_block (a := ⟨g, 2, none⟩) q).trans a2, (World.cell?_of_block (a := ⟨g, 3, none⟩) q).trans a3, (World.cell?_of_block (a := ⟨g, 4, none⟩) q).trans a4, (World.cell?_of_block (a := ⟨g, 5, none⟩) q).trans a5, (World.cell?_of_block (a := ⟨g, 6, none⟩) q).trans a6, (World.cell?_of_block (a := ⟨g, 7, none⟩) q).trans a7, (World.cell?_of_block (a := ⟨g, 8, none⟩) q).trans a8, (World.cell?_of_block (a := ⟨g, 9, none⟩) q).trans a9⟩, fun i hi => (World.frozen?_of_block (a := ⟨g, i, none⟩) q).trans (f i hi), by rw [Lib.iterAt_size]; exact e⟩
theorem HoldsT.iter {W : World} {g : Nat} {t : RdT} (H : HoldsT W g t) {k : Nat} (hk : g ≠ k) (s : ByteArray) (pos : Nat) : HoldsT (W.iterAt k s pos) g t := by
  obtain ⟨at', V, kept, dr, more, pl, pw, pd, bl⟩ := t
  obtain ⟨h, l, a, b, G⟩ := H
  exact ⟨h, l, a, b, G.iter hk s pos⟩
theorem HoldsG.kb {W W' : World} {q g at' h l kept dr : Nat} {more : Bool} {pl pw pd : Nat} {bl : Bool} (H : HoldsG W g at' h l kept dr more pl pw pd bl) (K : KB q W W') (hg : g ≠ q) : HoldsG W' g at' h l kept dr more pl pw pd bl := by
  obtain ⟨⟨a0, a1, a2, a3, a4, a5, a6, a7, a8, a9⟩, f, e⟩ := H
  have p := K.2.2.2.2 g e hg
  exact ⟨⟨(World.cell?_of_block (a := ⟨g, 0, none⟩) p).trans a0, (World.cell?_of_block (a := ⟨g, 1, none⟩) p).trans a1, (World.cell?_of_block (a := ⟨g, 2, none⟩) p).trans a2, (World.cell?_of_block (a := ⟨g, 3, none⟩) p).trans a3, (World.cell?_of_block (a := ⟨g, 4, none⟩) p).trans a4, (World.cell?_of_block (a := ⟨g, 5, none⟩) p).trans a5, (World.cell?_of_block (a := ⟨g, 6, none⟩) p).trans a6, (World.cell?_of_block (a := ⟨g, 7, none⟩) p).trans a7, (World.cell?_of_block (a := ⟨g, 8, none⟩) p).trans a8, (World.cell?_of_block (a := ⟨g, 9, none⟩) p).trans a9⟩, fun i hi => (World.frozen?_of_block (a := ⟨g, i, none⟩) p).trans (f i hi), Nat.lt_of_lt_of_le e K.2.2.2.1⟩
/-- The places at which a text may end. -/
def endS (t : RdT) : Bool := decide (t.1 = 1 ∨ t.1 = 3 ∨ t.1 = 6)
/-- What readThrough answers. -/
def RdP (o : Option RdT) (e : Ending) : Prop := match o with
  | none => e = .returned (.tuple #[Gv 0 0 0 0 0 false 0 0 0 false, .bool false])
  | some (at', V, kept, dr, more, pl, pw, pd, bl) => ∃ h l : Nat, WW h l ∧ nv h l = V ∧ e = .returned (.tuple #[Gv at' h l kept dr more pl pw pd bl, .bool (endS (at', V, kept, dr, more, pl, pw, pd, bl))])
def RtRel (w : World) (s : ByteArray) (k : Nat) (W : World) : Prop :=
  ∃ (pos : Nat) (t : RdT), W.heap[w.heap.size + 1 + 1]? = some (.stringIter s pos) ∧ pos + k = s.size ∧ runS (s.data.toList.take pos) rd0 = some t ∧ InvT pos t ∧ HoldsT W (w.heap.size + 1) t ∧ HoldsG W w.heap.size 0 0 0 0 0 false 0 0 0 false ∧ Below w.heap.size w W

set_option linter.unusedSimpArgs false in
set_option maxRecDepth 100000 in
set_option maxHeartbeats 4000000 in
theorem readThrough_any (s : ByteArray) (hs : s.size ≤ 200000000000000) (w : World) : Calls Tryd.prog 74 #[.string s] w fun e w' => RdP (runS s.data.toList rd0) e ∧ Below w.heap.size w w' := by
  have HS := Lib.hid hs
  clear hs
  go_enter Tryd.func74, Tryd.ntmps74
  go_wp2
  go_loopg [] s.size (fun k W => RtRel w s k W)
  case atStart =>
    have Z := (show HoldsG (w.alloc (.cells #[.int .i64 0, .int .u64 0, .int .u64 0, .int .i64 0, .int .i64 0, .bool false, .int .i64 0, .int .i64 0, .int .i64 0, .bool false] 93)) w.heap.size 0 0 0 0 0 false 0 0 0 false from HoldsG.new10 rfl)
    refine ⟨0, rd0, ?_, by omega, by rw [List.take_zero]; rfl, ⟨by decide, by decide, by decide, by decide, by decide, by decide, by decide⟩, ⟨0, 0, ww0, rfl, ?_⟩, ?_, ?_⟩
    · have := World.iter_heap ((w.alloc (.cells #[.int .i64 0, .int .u64 0, .int .u64 0, .int .i64 0, .int .i64 0, .bool false, .int .i64 0, .int .i64 0, .int .i64 0, .bool false] 93)).alloc (.cells #[.int .i64 0, .int .u64 0, .int .u64 0, .int .i64 0, .int .i64 0, .bool false, .int .i64 0, .int .i64 0, .int .i64 0, .bool false] 93)) s 0
      simpa using this
    · exact HoldsG.alloc (HoldsG.new10 (by simp)) _
    · exact HoldsG.alloc (HoldsG.alloc Z _) _
    · exact Below.alloc (((Below.refl _ w).alloc (Nat.le_refl _) _).alloc (by simp) _) (by simp; omega) _
  case round =>
    obtain ⟨pos, t, hit, hp, hr, hI, A1, A0, HB⟩ := hrel
    have HR := Lib.hid (And.intro hr hI)
    have hsz : w.heap.size + 1 + 1 < wr.heap.size := (Array.getElem?_eq_some_iff.1 hit).1
    clear hr hI
    by_cases hlt : pos < s.size
    · obtain ⟨rv, p', hd1, hd2, hd3⟩ : ∃ rv p' : Nat, (Utf8.decode s pos).1 = rv ∧ pos + (Utf8.decode s pos).2 = p' ∧ ((rv = (s[pos]'hlt).toNat ∧ p' = pos + 1) ∨ (128 ≤ rv ∧ 128 ≤ (s[pos]'hlt).toNat)) := by
        refine ⟨_, _, rfl, rfl, ?_⟩
        by_cases ha : (s[pos]'hlt).toNat < 128
        · rw [decode_ascii s pos hlt ha]
          exact .inl ⟨rfl, rfl⟩
        · exact .inr ⟨(decode_high s pos hlt (by omega)).1, by omega⟩
      have hnx : ∀ ty, (Instr.next (.pointer (some ⟨w.heap.size + 1 + 1, 0, none⟩)) true ty).run Tryd.prog wr = _ := fun ty => Lib.run_next_any_at wr (w.heap.size + 1 + 1) s pos ty hit hlt
      rw [hd1, hd2] at hnx
      have HL := Lib.hid (show s.data.toList = s.data.toList.take pos ++ (s[pos]'hlt) :: s.data.toList.drop (pos + 1) from by
        have h' : pos < s.data.toList.length := hlt
        conv => lhs; rw [← List.take_append_drop pos s.data.toList]
        rw [List.drop_eq_getElem_cons h']
        rfl)
      have HM := Lib.hid (byte_at s pos hlt)
      have C0 := Lib.hid (A0.iter (k := w.heap.size + 1 + 1) (by omega) s p')
      have C1 := Lib.hid (A1.iter (k := w.heap.size + 1 + 1) (by omega) s p')
      have HB1 := Lib.below_iterAt HB (k := w.heap.size + 1 + 1) (by omega) s p'
      have hit2 := Lib.hid (Lib.iterAt_heap wr (w.heap.size + 1 + 1) s pos p' hit)
      have hsz1 : w.heap.size + 1 + 1 < (wr.iterAt (w.heap.size + 1 + 1) s p').heap.size := by rw [Lib.iterAt_size]; exact hsz
      generalize (s[pos]'hlt) = b at *
      have HD := Lib.hid hd3
      have HP := Lib.hid (And.intro hlt hp)
      clear hd1 hd2 hd3 hit hlt A0 A1 HB hsz hp
      generalize wr.iterAt (w.heap.size + 1 + 1) s p' = W1 at *
      have TK := Lib.hid (take_any (w.heap.size + 1) pos rv t HR.out.2 (by have := HP.out; have := HS.out; omega) W1 C1.out)
      obtain ⟨ok, hok⟩ : ∃ b : Bool, b = (takeS rv t).2 := ⟨_, rfl⟩
      rw [← hok] at TK
      have HO := Lib.hid hok
      clear hok
      go_wp2_with fail
      refine TK.out.mono ?_
      rintro e v1 ⟨rfl, G, K⟩
      replace C0 := Lib.hid (C0.out.kb K (by omega))
      have hit3 := Lib.hid ((K.2.2.2.2 _ hsz1 (by omega)).trans hit2.out)
      replace HB1 := KB.below HB1 (Nat.le_succ _) K
      have HG := Lib.hid G
      clear TK C1 hit2 hsz1 K G
      cases ok
      · have BF := Lib.hid (show (takeS b.toNat t).2 = false from by
          rcases HD.out with ⟨q, -⟩ | ⟨-, q⟩
          · rw [← q]; exact HO.out.symm
          · exact takeS_high q t)
        have NONE := Lib.hid (show runS s.data.toList rd0 = none from by
          rw [HL.out]
          exact runS_stop HR.out.1 BF.out)
        obtain ⟨⟨c0, c1, c2, c3, c4, c5, c6, c7, c8, c9⟩, ff, cs⟩ := C0.out
        have g0 := ff 0 (by decide); have g1 := ff 1 (by decide); have g2 := ff 2 (by decide); have g3 := ff 3 (by decide); have g4 := ff 4 (by decide)
        have g5 := ff 5 (by decide); have g6 := ff 6 (by decide); have g7 := ff 7 (by decide); have g8 := ff 8 (by decide); have g9 := ff 9 (by decide)
        clear ff
        go_wp2
        clear c0 c1 c2 c3 c4 c5 c6 c7 c8 c9 g0 g1 g2 g3 g4 g5 g6 g7 g8 g9 cs
        refine ret_via (v := .tuple #[Gv 0 0 0 0 0 false 0 0 0 false, .bool false]) (fun VF => HoldsG VF w.heap.size 0 0 0 0 0 false 0 0 0 false) (fun VF hq => ?_) (HoldsG.put9 (HoldsG.put8 (HoldsG.put7 (HoldsG.put6 (HoldsG.put45 (HoldsG.put3 (HoldsG.put12 (HoldsG.put0 C0.out 0) 0 0) 0) 0 false) 0) 0) 0) false) rfl ⟨?_, ?_⟩
        · obtain ⟨⟨d0, d1, d2, d3, d4, d5, d6, d7, d8, d9⟩, -, -⟩ := hq
          simp [results, Tryd.results74, go_sem, d0, d1, d2, d3, d4, d5, d6, d7, d8, d9]
        · rw [NONE.out]
          rfl
        · repeat' (first | (with_reducible exact HB1) | (with_reducible refine Below.set1' ?_ _ _ (Nat.le_refl _) _))
      · have q : rv = b.toNat ∧ p' = pos + 1 := by
          rcases HD.out with q | ⟨q, -⟩
          · exact q
          · rw [takeS_high q t] at HO
            exact absurd HO.out (by decide)
        have NX := Lib.hid (show runS (s.data.toList.take (pos + 1)) rd0 = some (takeS rv t).1 ∧ InvT (pos + 1) (takeS rv t).1 from ⟨by rw [HM.out, runS_snoc HR.out.1, ← q.1, if_pos HO.out.symm], takeS_inv HR.out.2 HO.out.symm⟩)
        have HQ := Lib.hid q.2
        clear q HO HD HM HL HR
        go_wp2
        go_roundg (gk - 1)
        case measure => have := HP.out; omega
        case rel =>
          have q := HQ.out
          subst q
          exact ⟨pos + 1, _, hit3.out, by have := HP.out; omega, NX.out.1, NX.out.2, HG.out, C0.out, HB1⟩
    · have hnx : ∀ ty, (Instr.next (.pointer (some ⟨w.heap.size + 1 + 1, 0, none⟩)) true ty).run Tryd.prog wr = _ := fun ty => Lib.run_next_end_at wr (w.heap.size + 1 + 1) s pos ty hit hlt
      have FULL := Lib.hid (show runS s.data.toList rd0 = some t from by
        have full : s.data.toList.take pos = s.data.toList := List.take_of_length_le (by show s.size ≤ pos; omega)
        rw [← full]; exact HR.out.1)
      clear hit
      obtain ⟨at', V, kept, dr, more, pl, pw, pd, bl⟩ := t
      obtain ⟨h, l, wh, vh, G⟩ := A1
      have a6 : at' ≤ 6 := HR.out.2.1
      have HV := Lib.hid (And.intro wh vh)
      have HG := Lib.hid G
      have H0 := Lib.hid A0
      clear wh vh G A0 HR hlt hp HS
      obtain ⟨⟨c0, c1, c2, c3, c4, c5, c6, c7, c8, c9⟩, -, cs⟩ := HG.out
      obtain ⟨⟨e0, e1, e2, e3, e4, e5, e6, e7, e8, e9⟩, ff, es⟩ := H0.out
      have g0 := ff 0 (by decide); have g1 := ff 1 (by decide); have g2 := ff 2 (by decide); have g3 := ff 3 (by decide); have g4 := ff 4 (by decide)
      have g5 := ff 5 (by decide); have g6 := ff 6 (by decide); have g7 := ff 7 (by decide); have g8 := ff 8 (by decide); have g9 := ff 9 (by decide)
      clear ff
      have n1 : w.heap.size + 1 ≠ w.heap.size := by omega
      obtain ⟨eb, heb⟩ : ∃ b : Bool, b = endS (at', V, kept, dr, more, pl, pw, pd, bl) := ⟨_, rfl⟩
      have c : (((at' : Int) == 1) = true ∧ eb = true) ∨ (((at' : Int) == 1) = false ∧ ((at' : Int) == 3) = true ∧ eb = true) ∨ (((at' : Int) == 1) = false ∧ ((at' : Int) == 3) = false ∧ ((at' : Int) == 6) = true ∧ eb = true) ∨ (((at' : Int) == 1) = false ∧ ((at' : Int) == 3) = false ∧ ((at' : Int) == 6) = false ∧ eb = false) := by
        have hb : eb = decide (at' = 1 ∨ at' = 3 ∨ at' = 6) := heb
        by_cases k1 : at' = 1
        · exact .inl ⟨beq_iff_eq.2 (by omega), by rw [hb]; exact decide_eq_true (.inl k1)⟩
        · by_cases k3 : at' = 3
          · exact .inr (.inl ⟨beq_eq_false_iff_ne.2 (by omega), beq_iff_eq.2 (by omega), by rw [hb]; exact decide_eq_true (.inr (.inl k3))⟩)
          · by_cases k6 : at' = 6
            · exact .inr (.inr (.inl ⟨beq_eq_false_iff_ne.2 (by omega), beq_eq_false_iff_ne.2 (by omega), beq_iff_eq.2 (by omega), by rw [hb]; exact decide_eq_true (.inr (.inr k6))⟩))
            · exact .inr (.inr (.inr ⟨beq_eq_false_iff_ne.2 (by omega), beq_eq_false_iff_ne.2 (by omega), beq_eq_false_iff_ne.2 (by omega), by rw [hb]; exact decide_eq_false (by omega)⟩))
      have HE := Lib.hid heb
      clear a6 heb
      rcases c with ⟨t1, rfl⟩ | ⟨t1, t2, rfl⟩ | ⟨t1, t2, t3, rfl⟩ | ⟨t1, t2, t3, rfl⟩
      iterate 3
        · go_wp2
          go_region
          all_goals
            go_wp2
            clear c0 c1 c2 c3 c4 c5 c6 c7 c8 c9 g0 g1 g2 g3 g4 g5 g6 g7 g8 g9 cs e0 e1 e2 e3 e4 e5 e6 e7 e8 e9 es
            refine ret_via (v := .tuple #[Gv at' h l kept dr more pl pw pd bl, .bool true]) (fun VF => HoldsG VF w.heap.size at' h l kept dr more pl pw pd bl) (fun VF hq => ?_) (by with_reducible (first | exact HoldsG.drew (HoldsG.put9 (HoldsG.put8 (HoldsG.put7 (HoldsG.put6 (HoldsG.put45 (HoldsG.put3 (HoldsG.put12 (HoldsG.put0 H0.out at') h l) kept) dr more) pl) pw) pd) bl) | exact HoldsG.put9 (HoldsG.put8 (HoldsG.put7 (HoldsG.put6 (HoldsG.put45 (HoldsG.put3 (HoldsG.put12 (HoldsG.put0 H0.out at') h l) kept) dr more) pl) pw) pd) bl)) rfl ⟨?_, ?_⟩
            · obtain ⟨⟨d0, d1, d2, d3, d4, d5, d6, d7, d8, d9⟩, -, -⟩ := hq
              simp [results, Tryd.results74, go_sem, d0, d1, d2, d3, d4, d5, d6, d7, d8, d9]
              try rfl
            · rw [FULL.out]
              refine ⟨h, l, HV.out.1, HV.out.2, ?_⟩
              rw [← HE.out]
            · repeat' (first | (with_reducible exact HB) | (with_reducible refine Below.drew ?_) | (with_reducible refine Below.set1' ?_ _ _ (Nat.le_refl _) _))
      · go_wp2
        go_region
        all_goals
          go_wp2
          clear c0 c1 c2 c3 c4 c5 c6 c7 c8 c9 g0 g1 g2 g3 g4 g5 g6 g7 g8 g9 cs e0 e1 e2 e3 e4 e5 e6 e7 e8 e9 es
          refine ret_via (v := .tuple #[Gv at' h l kept dr more pl pw pd bl, .bool false]) (fun VF => HoldsG VF w.heap.size at' h l kept dr more pl pw pd bl) (fun VF hq => ?_) (by with_reducible (first | exact HoldsG.drew (HoldsG.put9 (HoldsG.put8 (HoldsG.put7 (HoldsG.put6 (HoldsG.put45 (HoldsG.put3 (HoldsG.put12 (HoldsG.put0 H0.out at') h l) kept) dr more) pl) pw) pd) bl) | exact HoldsG.put9 (HoldsG.put8 (HoldsG.put7 (HoldsG.put6 (HoldsG.put45 (HoldsG.put3 (HoldsG.put12 (HoldsG.put0 H0.out at') h l) kept) dr more) pl) pw) pd) bl)) rfl ⟨?_, ?_⟩
          · obtain ⟨⟨d0, d1, d2, d3, d4, d5, d6, d7, d8, d9⟩, -, -⟩ := hq
            simp [results, Tryd.results74, go_sem, d0, d1, d2, d3, d4, d5, d6, d7, d8, d9]
            try rfl
          · rw [FULL.out]
            refine ⟨h, l, HV.out.1, HV.out.2, ?_⟩
            rw [← HE.out]
          · repeat' (first | (with_reducible exact HB) | (with_reducible refine Below.drew ?_) | (with_reducible refine Below.set1' ?_ _ _ (Nat.le_refl _) _))
end Go.Proofs.YtmelblnfjcbmjaaDoor

/-
  Reading a number's text, plainly: what digits, a point and an exponent leave behind; the text of a number is read as that number, so that no two numbers have one text.
-/
namespace Go.Proofs.YtmelblnfjcbmjaaDoor

/-- The number of some digits behind another one's. -/
def dvl : List UInt8 → Nat → Nat
  | [], v => v
  | b :: t, v => dvl t (v * 10 + (b.toNat - 48))
theorem dvl_append (l m : List UInt8) : ∀ v, dvl (l ++ m) v = dvl m (dvl l v) := by
  induction l with
  | nil => intro v; rfl
  | cons b l ih => intro v; exact ih _
theorem dvl_ge (l : List UInt8) : ∀ v, v ≤ dvl l v := by
  induction l with
  | nil => intro v; exact Nat.le_refl _
  | cons b l ih => intro v; exact Nat.le_trans (by omega) (ih _)
theorem dvl_noughts (n : Nat) : dvl (List.replicate n 48) 0 = 0 := by
  induction n with
  | zero => rfl
  | succ n ih => rw [List.replicate_succ]; exact ih
/-- A digit. -/
def DigB (b : UInt8) : Prop := 48 ≤ b.toNat ∧ b.toNat ≤ 57
theorem dig_of {k : Nat} (h : k < 10) : DigB (UInt8.ofNat (48 + k)) ∧ (UInt8.ofNat (48 + k)).toNat = 48 + k := by
  have e : (UInt8.ofNat (48 + k)).toNat = 48 + k := by rw [UInt8.toNat_ofNat']; exact Nat.mod_eq_of_lt (by omega)
  exact ⟨⟨by omega, by omega⟩, e⟩
theorem dec_all (u : Nat) : (∀ b ∈ Lib.decDigits u, DigB b) ∧ dvl (Lib.decDigits u) 0 = u ∧ Lib.decDigits u ≠ [] := by
  induction u using Nat.strongRecOn with
  | _ u ih =>
    by_cases h : u < 10
    · rw [Lib.decDigits, dif_pos h]
      obtain ⟨a, b⟩ := dig_of h
      refine ⟨fun c hc => by rw [List.mem_singleton.1 hc]; exact a, ?_, by simp⟩
      show 0 * 10 + ((UInt8.ofNat (48 + u)).toNat - 48) = u
      rw [b]; omega
    · rw [Lib.decDigits, dif_neg h]
      obtain ⟨a, b⟩ := dig_of (k := u % 10) (by omega)
      obtain ⟨i1, i2, i3⟩ := ih (u / 10) (by omega)
      refine ⟨fun c hc => ?_, ?_, by simp⟩
      · rcases List.mem_append.1 hc with q | q
        · exact i1 c q
        · rw [List.mem_singleton.1 q]; exact a
      · rw [dvl_append, i2]
        show u / 10 * 10 + ((UInt8.ofNat (48 + u % 10)).toNat - 48) = u
        rw [b]; omega

theorem runS_append (l m : List UInt8) : ∀ {s s' : RdT}, runS l s = some s' → runS (l ++ m) s = runS m s' := by
  induction l with
  | nil => intro s s' h; obtain rfl : s = s' := Option.some.inj h; rfl
  | cons b l ih =>
    intro s s' h
    have h2 : (if (takeS b.toNat s).2 = true then runS l (takeS b.toNat s).1 else none) = some s' := h
    show (if (takeS b.toNat s).2 = true then runS (l ++ m) (takeS b.toNat s).1 else none) = runS m s'
    split at h2
    · rename_i q
      rw [if_pos q]
      exact ih h2
    · exact absurd h2 (by simp)
/-- How many digits are kept. -/
def KI (V kept : Nat) : Prop := V < 10 ^ kept ∧ 10 ^ kept ≤ 10 * V + 1
theorem KI.step {V kept d : Nat} (h : KI V kept) (hd : d ≤ 9) : KI (V * 10 + d) (if V * 10 + d = 0 then kept else kept + 1) := by
  obtain ⟨a, b⟩ := h
  by_cases z : V * 10 + d = 0
  · rw [if_pos z, z]
    have : V = 0 := by omega
    subst this
    exact ⟨by omega, by omega⟩
  · rw [if_neg z]
    unfold KI
    rw [Nat.pow_succ]
    by_cases v : V = 0
    · subst v
      have : 10 ^ kept = 1 := by omega
      rw [this]; omega
    · refine ⟨by omega, ?_⟩
      have : 10 ^ kept ≤ 10 * V := by
        rcases Nat.eq_zero_or_pos kept with k | k
        · rw [k]; omega
        · obtain ⟨j, rfl⟩ : ∃ j, kept = j + 1 := ⟨kept - 1, by omega⟩
          rw [Nat.pow_succ] at b ⊢
          omega
      omega
theorem KI.low {V kept : Nat} (h : KI V kept) (hv : V * 10 < 10 ^ 38) : kept ≠ 38 := by
  rintro rfl
  have := h.2
  omega
/-- Digits of the coefficient, one behind the other. -/
theorem run_digits {a : Nat} (ha : a = 1 ∨ a = 3) : ∀ (l : List UInt8) (at' V kept pl pw pd : Nat) (bl : Bool), (∀ b ∈ l, DigB b) → KI V kept → dvl l V < 10 ^ 38 → (a = 1 ∧ at' ≤ 1 ∨ a = 3 ∧ 2 ≤ at' ∧ at' ≤ 3) →
    ∃ kept', KI (dvl l V) kept' ∧ runS l (at', V, kept, 0, false, pl, pw, pd, bl) = some (if l = [] then at' else a, dvl l V, kept', 0, false, pl + (if a = 3 then l.length else 0), pw, pd, bl) := by
  intro l
  induction l with
  | nil =>
    intro at' V kept pl pw pd bl _ k _ _
    refine ⟨kept, k, ?_⟩
    show some _ = some _
    rw [if_pos rfl]
    have : pl + (if a = 3 then ([] : List UInt8).length else 0) = pl := by split <;> rfl
    rw [this]
    rfl
  | cons b l ih =>
    intro at' V kept pl pw pd bl hl k hv hat
    obtain ⟨d1, d2⟩ := hl b (List.mem_cons_self ..)
    have hv' : dvl l (V * 10 + (b.toNat - 48)) < 10 ^ 38 := hv
    have ge := dvl_ge l (V * 10 + (b.toNat - 48))
    have n38 : kept ≠ 38 := k.low (by omega)
    obtain ⟨kept', k', e⟩ := ih a (V * 10 + (b.toNat - 48)) (if V * 10 + (b.toNat - 48) = 0 then kept else kept + 1) (pl + (if a = 3 then 1 else 0)) pw pd bl (fun c hc => hl c (List.mem_cons_of_mem _ hc)) (k.step (by omega)) hv' (by omega)
    refine ⟨kept', k', ?_⟩
    have t : takeS b.toNat (at', V, kept, 0, false, pl, pw, pd, bl) = ((a, V * 10 + (b.toNat - 48), (if V * 10 + (b.toNat - 48) = 0 then kept else kept + 1), 0, false, pl + (if a = 3 then 1 else 0), pw, pd, bl), true) := by
      unfold takeS
      simp only []
      rw [if_pos ⟨d1, d2⟩]
      unfold coefS
      rw [if_neg n38, if_neg n38]
      rcases hat with ⟨rfl, h⟩ | ⟨rfl, h, h'⟩
      · rw [if_pos h]; rfl
      · rw [if_neg (by omega), if_pos h']; rfl
    show (if (takeS b.toNat (at', V, kept, 0, false, pl, pw, pd, bl)).2 = true then runS l (takeS b.toNat (at', V, kept, 0, false, pl, pw, pd, bl)).1 else none) = _
    rw [t, if_pos rfl]
    show runS l _ = _
    rw [e]
    have q1 : (if l = [] then a else a) = a := by split <;> rfl
    rw [q1, if_neg (List.cons_ne_nil b l)]
    have q2 : pl + (if a = 3 then 1 else 0) + (if a = 3 then l.length else 0) = pl + (if a = 3 then (b :: l).length else 0) := by
      by_cases z : a = 3
      · rw [if_pos z, if_pos z, if_pos z, List.length_cons]; omega
      · rw [if_neg z, if_neg z, if_neg z]
    rw [q2]
    rfl
/-- Digits of the power. -/
theorem run_power : ∀ (l : List UInt8) (at' V kept pl pw pd : Nat) (bl : Bool), (∀ b ∈ l, DigB b) → pd + l.length ≤ 6 → 4 ≤ at' →
    runS l (at', V, kept, 0, false, pl, pw, pd, bl) = some (if l = [] then at' else 6, V, kept, 0, false, pl, dvl l pw, pd + l.length, bl) := by
  intro l
  induction l with
  | nil => intro at' V kept pl pw pd bl _ _ _; rfl
  | cons b l ih =>
    intro at' V kept pl pw pd bl hl hp ha
    obtain ⟨d1, d2⟩ := hl b (List.mem_cons_self ..)
    rw [List.length_cons] at hp
    have t : takeS b.toNat (at', V, kept, 0, false, pl, pw, pd, bl) = ((6, V, kept, 0, false, pl, pw * 10 + (b.toNat - 48), pd + 1, bl), true) := by
      unfold takeS
      simp only []
      rw [if_pos ⟨d1, d2⟩, if_neg (by omega), if_neg (by omega), decide_eq_true (by omega)]
    show (if (takeS b.toNat (at', V, kept, 0, false, pl, pw, pd, bl)).2 = true then runS l (takeS b.toNat (at', V, kept, 0, false, pl, pw, pd, bl)).1 else none) = _
    rw [t, if_pos rfl]
    show runS l _ = _
    rw [ih 6 V kept pl (pw * 10 + (b.toNat - 48)) (pd + 1) bl (fun c hc => hl c (List.mem_cons_of_mem _ hc)) (by omega) (by decide)]
    have q1 : (if l = [] then 6 else 6) = 6 := by split <;> rfl
    rw [q1, if_neg (List.cons_ne_nil b l), List.length_cons]
    have : pd + 1 + l.length = pd + (l.length + 1) := by omega
    rw [this]
    rfl
theorem KI.zero : KI 0 0 := ⟨by decide, by decide⟩

/-- The exponent that was read. -/
def expS : RdT → Int
  | (_, _, _, dr, _, pl, pw, _, bl) => (if bl then -(pw : Int) else (pw : Int)) - (pl : Int) + (dr : Int)
/-- What a text is read as. -/
def readL (l : List UInt8) : Option (Bool × Nat × Int) := match runS l rd0 with
  | none => none
  | some t => if endS t then fitF 1 false t.2.1 t.2.2.2.2.1 (expS t) else none
theorem readL_of {l : List UInt8} {a V kept pl pw pd : Nat} {bl : Bool} {x : Int} (h : runS l rd0 = some (a, V, kept, 0, false, pl, pw, pd, bl)) (ha : a = 1 ∨ a = 3 ∨ a = 6) (hx : (if bl then -(pw : Int) else (pw : Int)) - (pl : Int) = x) (hn : NumD V x) : readL l = some (false, V, x) := by
  unfold readL
  rw [h]
  show (if endS _ = true then fitF 1 false V false (expS _) else none) = _
  rw [if_pos (show endS (a, V, kept, 0, false, pl, pw, pd, bl) = true from decide_eq_true ha)]
  have : expS (a, V, kept, 0, false, pl, pw, pd, bl) = x := by
    show (if bl = true then -(pw : Int) else (pw : Int)) - (pl : Int) + ((0 : Nat) : Int) = x
    omega
  rw [this]
  exact fitF_self hn (fun _ => rfl)
theorem takeS_point (V kept pl pw pd : Nat) (bl : Bool) : takeS (46 : UInt8).toNat (1, V, kept, 0, false, pl, pw, pd, bl) = ((2, V, kept, 0, false, pl, pw, pd, bl), true) := rfl
theorem takeS_E (V kept pl pw pd : Nat) (bl : Bool) : takeS (69 : UInt8).toNat (1, V, kept, 0, false, pl, pw, pd, bl) = ((4, V, kept, 0, false, pl, pw, pd, bl), true) := rfl
theorem takeS_minus (V kept pl pw pd : Nat) (bl : Bool) : takeS (45 : UInt8).toNat (4, V, kept, 0, false, pl, pw, pd, bl) = ((5, V, kept, 0, false, pl, pw, pd, true), true) := rfl
theorem runS_cons {b : UInt8} {l : List UInt8} {s s' : RdT} (h : takeS b.toNat s = (s', true)) : runS (b :: l) s = runS l s' := by
  show (if (takeS b.toNat s).2 = true then runS l (takeS b.toNat s).1 else none) = _
  rw [h, if_pos rfl]
theorem small_38 {c : Nat} (h : c < 10 ^ 34) : c < 10 ^ 38 := Nat.lt_trans h (by decide)
/-- The text of a number that is not below 0 is read as it. -/
theorem read_size {c : Nat} {x : Int} (h : NumD c x) : readL (sizeL c x) = some (false, c, x) := by
  obtain ⟨da, db, dc⟩ := dec_all c
  have hx := h.2
  unfold sizeL
  by_cases x0 : x = 0
  · rw [if_pos x0]
    obtain ⟨k, _, e⟩ := run_digits (.inl rfl) (Lib.decDigits c) 0 0 0 0 0 0 false da KI.zero (by rw [db]; exact small_38 h.1) (.inl ⟨rfl, by decide⟩)
    rw [db, if_neg dc] at e
    exact readL_of e (.inl rfl) (by simp; omega) h
  · rw [if_neg x0]
    by_cases x1 : -40 ≤ x ∧ x < 0
    · rw [if_pos x1]
      obtain ⟨k, hk⟩ : ∃ k : Nat, k = (-x).toNat := ⟨_, rfl⟩
      rw [← hk]
      unfold ptL
      obtain ⟨P, hP⟩ : ∃ P, P = ptD (Lib.decDigits c) k := ⟨_, rfl⟩
      have pa : ∀ b ∈ P, DigB b := by
        rw [hP]
        intro b hb
        rcases List.mem_append.1 hb with q | q
        · rw [(List.mem_replicate.1 q).2]; exact ⟨by decide, by decide⟩
        · exact da b q
      have pv : dvl P 0 = c := by rw [hP]; unfold ptD; rw [dvl_append, dvl_noughts, db]
      have pl : k < P.length := by rw [hP]; unfold ptD; rw [List.length_append, List.length_replicate]; omega
      rw [← hP]
      have sp : P.take (P.length - k) ++ P.drop (P.length - k) = P := List.take_append_drop _ _
      have l1 : (P.take (P.length - k)).length = P.length - k := by rw [List.length_take]; omega
      have l2 : (P.drop (P.length - k)).length = k := by rw [List.length_drop]; omega
      have m1 : ∀ b ∈ P.take (P.length - k), DigB b := fun b hb => pa b (List.mem_of_mem_take hb)
      have m2 : ∀ b ∈ P.drop (P.length - k), DigB b := fun b hb => pa b (List.mem_of_mem_drop hb)
      generalize P.take (P.length - k) = A at *
      generalize P.drop (P.length - k) = B at *
      have e0 : dvl B (dvl A 0) = c := by rw [← dvl_append, sp, pv]
      have ge := dvl_ge B (dvl A 0)
      have c38 := small_38 h.1
      obtain ⟨k1, K1, e1⟩ := run_digits (.inl rfl) A 0 0 0 0 0 0 false m1 KI.zero (by omega) (.inl ⟨rfl, by decide⟩)
      rw [if_neg (by rintro rfl; simp at l1; omega)] at e1
      obtain ⟨k2, K2, e2⟩ := run_digits (.inr rfl) B 2 (dvl A 0) k1 0 0 0 false m2 K1 (by omega) (.inr ⟨rfl, by decide, by decide⟩)
      rw [if_neg (by rintro rfl; simp at l2; omega), e0, if_pos rfl, l2] at e2
      refine readL_of (l := A ++ 46 :: B) (a := 3) (V := c) (kept := k2) (pl := 0 + k) (pw := 0) (pd := 0) (bl := false) ?_ (.inr (.inl rfl)) (by simp; omega) h
      refine (runS_append A (46 :: B) (s := rd0) e1).trans ?_
      exact (runS_cons (takeS_point _ _ _ _ _ _)).trans e2
    · rw [if_neg x1]
      obtain ⟨k, K, e⟩ := run_digits (.inl rfl) (Lib.decDigits c) 0 0 0 0 0 0 false da KI.zero (by rw [db]; exact small_38 h.1) (.inl ⟨rfl, by decide⟩)
      rw [db, if_neg dc] at e
      unfold Lib.itoa
      by_cases x2 : x < 0
      · rw [if_pos x2]
        obtain ⟨ea, eb, ec⟩ := dec_all x.natAbs
        have el : (Lib.decDigits x.natAbs).length ≤ 4 := by rw [Lib.decDigits_length]; exact Dx.nDigits_le (k := 3) (by omega)
        refine readL_of (l := Lib.decDigits c ++ 69 :: 45 :: Lib.decDigits x.natAbs) (a := 6) (V := c) (kept := k) (pl := 0 + (if 1 = 3 then (Lib.decDigits c).length else 0)) (pw := x.natAbs) (pd := 0 + (Lib.decDigits x.natAbs).length) (bl := true) ?_ (.inr (.inr rfl)) (by simp; omega) h
        refine (runS_append _ _ (s := rd0) e).trans ?_
        refine (runS_cons (takeS_E _ _ _ _ _ _)).trans ((runS_cons (takeS_minus _ _ _ _ _ _)).trans ?_)
        rw [run_power _ _ _ _ _ _ _ _ ea (by omega) (by decide), eb, if_neg ec]
      · rw [if_neg x2]
        obtain ⟨ea, eb, ec⟩ := dec_all x.toNat
        have el : (Lib.decDigits x.toNat).length ≤ 4 := by rw [Lib.decDigits_length]; exact Dx.nDigits_le (k := 3) (by omega)
        refine readL_of (l := Lib.decDigits c ++ 69 :: Lib.decDigits x.toNat) (a := 6) (V := c) (kept := k) (pl := 0 + (if 1 = 3 then (Lib.decDigits c).length else 0)) (pw := x.toNat) (pd := 0 + (Lib.decDigits x.toNat).length) (bl := false) ?_ (.inr (.inr rfl)) (by simp; omega) h
        refine (runS_append _ _ (s := rd0) e).trans ?_
        refine (runS_cons (takeS_E _ _ _ _ _ _)).trans ?_
        rw [run_power _ _ _ _ _ _ _ _ ea (by omega) (by decide), eb, if_neg ec]

/-- What a text with a sign, or none, is read as. -/
def signL : List UInt8 → Option (Bool × Nat × Int)
  | [] => none
  | b :: t => if b = 45 then (readL t).map (fun r => (!r.1 && !decide (r.2.1 = 0), r.2.1, r.2.2)) else readL (b :: t)
theorem signL_cons (b : UInt8) (t : List UInt8) : signL (b :: t) = if b = 45 then (readL t).map (fun r => (!r.1 && !decide (r.2.1 = 0), r.2.1, r.2.2)) else readL (b :: t) := rfl
theorem size_head {c : Nat} {x : Int} : ∃ b t, sizeL c x = b :: t ∧ DigB b := by
  obtain ⟨da, -, dc⟩ := dec_all c
  obtain ⟨b, t, e⟩ : ∃ b t, Lib.decDigits c = b :: t := by
    cases h : Lib.decDigits c with
    | nil => exact (dc h).elim
    | cons b t => exact ⟨b, t, rfl⟩
  have hb : DigB b := da b (by rw [e]; exact List.mem_cons_self ..)
  unfold sizeL
  split
  · exact ⟨b, t, e, hb⟩
  · split
    · rename_i h
      obtain ⟨k, hk⟩ : ∃ k : Nat, k = (-x).toNat := ⟨_, rfl⟩
      rw [← hk]
      unfold ptL
      have pl : k < (ptD (Lib.decDigits c) k).length := by unfold ptD; rw [List.length_append, List.length_replicate]; omega
      have pa : ∀ b ∈ ptD (Lib.decDigits c) k, DigB b := by
        intro b hb
        rcases List.mem_append.1 hb with q | q
        · rw [(List.mem_replicate.1 q).2]; exact ⟨by decide, by decide⟩
        · exact da b q
      generalize ptD (Lib.decDigits c) k = P at *
      cases P with
      | nil => simp at pl
      | cons p q =>
        obtain ⟨j, hj⟩ : ∃ j, (p :: q).length - k = j + 1 := ⟨(p :: q).length - k - 1, by omega⟩
        rw [hj, List.take_succ_cons, List.cons_append]
        exact ⟨p, _, rfl, pa p (List.mem_cons_self ..)⟩
    · rw [e, List.cons_append]
      exact ⟨b, _, rfl, hb⟩
/-- A number's text is read as that number. -/
theorem sign_text {n : Bool} {c : Nat} {x : Int} (h : NumD c x) (hz : c = 0 → n = false) : signL (textL n c x) = some (n, c, x) := by
  unfold textL sgn
  by_cases z : c = 0
  · rw [if_pos z, if_neg (by decide), hz z]
    obtain ⟨b, t, e, d⟩ := @size_head c x
    have r := read_size h
    rw [e] at r ⊢
    rw [signL_cons, if_neg (by rintro rfl; exact absurd d.1 (by decide))]
    exact r
  · rw [if_neg z]
    cases n
    · rw [if_neg (by decide)]
      obtain ⟨b, t, e, d⟩ := @size_head c x
      have r := read_size h
      rw [e] at r ⊢
      rw [signL_cons, if_neg (by rintro rfl; exact absurd d.1 (by decide))]
      exact r
    · rw [if_pos (by decide), signL_cons, if_pos rfl, read_size h]
      show some (!false && !decide (c = 0), c, x) = _
      rw [decide_eq_false z]
      rfl
/-- Two numbers with one text are one. -/
theorem text_one {n m : Bool} {c d : Nat} {x y : Int} (h : NumD c x) (hz : c = 0 → n = false) (h' : NumD d y) (hz' : d = 0 → m = false) (e : textL n c x = textL m d y) : n = m ∧ c = d ∧ x = y := by
  have a := sign_text h hz
  rw [e, sign_text h' hz'] at a
  have := Option.some.inj a
  simp only [Prod.mk.injEq] at this
  exact ⟨this.1.symm, this.2.1.symm, this.2.2.symm⟩
theorem run_inv (l : List UInt8) : ∀ {n : Nat} {s t : RdT}, InvT n s → runS l s = some t → InvT (n + l.length) t := by
  induction l with
  | nil => intro n s t I h; obtain rfl : s = t := Option.some.inj h; exact I
  | cons b l ih =>
    intro n s t I h
    have h2 : (if (takeS b.toNat s).2 = true then runS l (takeS b.toNat s).1 else none) = some t := h
    split at h2
    · rename_i q
      have := ih (takeS_inv I q) h2
      rw [List.length_cons, show n + (l.length + 1) = n + 1 + l.length from by omega]
      exact this
    · cases h2
theorem inv_rd0 : InvT 0 rd0 := ⟨by decide, by decide, by decide, by decide, by decide, by decide, by decide⟩
/-- What has been read of a text: its bounds. -/
theorem run_low {l : List UInt8} {t : RdT} (h : runS l rd0 = some t) (hl : l.length ≤ 200000000000000) : t.2.1 < 10 ^ 38 ∧ -300000000000000 ≤ expS t ∧ expS t ≤ 300000000000000 := by
  have I := run_inv l inv_rd0 h
  obtain ⟨a, V, kept, dr, more, pl, pw, pd, bl⟩ := t
  obtain ⟨i1, i2, i3, i4, i5, i6, i7⟩ := I
  have p7 : pw < 10 ^ 7 := Nat.lt_of_lt_of_le i7 (p10_mono i6)
  refine ⟨Nat.lt_of_lt_of_le i3 (p10_mono i2), ?_⟩
  show -300000000000000 ≤ (if bl = true then -(pw : Int) else (pw : Int)) - (pl : Int) + (dr : Int) ∧ (if bl = true then -(pw : Int) else (pw : Int)) - (pl : Int) + (dr : Int) ≤ 300000000000000
  cases bl
  · rw [if_neg (by decide)]; omega
  · rw [if_pos rfl]; omega
/-- What is read may be a number, and is not below 0. -/
theorem readL_may {l : List UInt8} {n : Bool} {c : Nat} {x : Int} (h : readL l = some (n, c, x)) (hl : l.length ≤ 200000000000000) : n = false ∧ NumD c x := by
  unfold readL at h
  cases e : runS l rd0 with
  | none => rw [e] at h; cases h
  | some t =>
    rw [e] at h
    have L := (run_low e hl).1
    have h2 : (if endS t = true then fitF 1 false t.2.1 t.2.2.2.2.1 (expS t) else none) = some (n, c, x) := h
    have B : t.2.1 < B128 * B128 := Nat.lt_of_lt_of_le L (by unfold B128; decide)
    split at h2
    · rcases fitF_some h2 B with ⟨-, a, -, b⟩ | ⟨-, a, -, b, -⟩
      · exact ⟨a, b⟩
      · exact ⟨a, b⟩
    · cases h2
end Go.Proofs.YtmelblnfjcbmjaaDoor

/-
  Which texts are numbers', and whose (size, Shape, Read, Signed, Plain of package numeral), each as a contract of its call.
-/
namespace Go.Proofs.YtmelblnfjcbmjaaDoor
open Go.RowKit

theorem i64_in {x : Int} (h1 : -9223372036854775808 ≤ x) (h2 : x ≤ 9223372036854775807) : IntKind.i64.wrap x = x ∧ wrap64 x = x := by
  constructor
  · rw [IntKind.wrap_i64]; omega
  · unfold wrap64; omega
set_option linter.unusedSimpArgs false in
set_option maxRecDepth 100000 in
set_option maxHeartbeats 4000000 in
/-- The number that was read, as the program lays it. -/
theorem sizeG_any (g at' h l kept dr : Nat) (more : Bool) (pl pw pd : Nat) (bl : Bool) (hdr : dr ≤ 200000000000000) (hpl : pl ≤ 200000000000000) (hpw : pw ≤ 10000000) (w : World) (H : HoldsG w g at' h l kept dr more pl pw pd bl) :
    Calls Tryd.prog 76 #[.pointer (some ⟨g, 0, none⟩)] w fun e w' => e = .returned (Wv false 0 0 h l ((if bl then -(pw : Int) else (pw : Int)) - (pl : Int) + (dr : Int)) more) ∧ Below w.heap.size w w' := by
  have HH := Lib.hid H
  clear H
  have u1 := i64_in (x := (pw : Int)) (by omega) (by omega)
  have key : ∀ y : Int, -10000000 ≤ y → y ≤ 10000000 → (IntKind.i64.wrap (y - (pl : Int)) = y - (pl : Int) ∧ wrap64 (y - (pl : Int)) = y - (pl : Int)) ∧ (IntKind.i64.wrap (y - (pl : Int) + (dr : Int)) = y - (pl : Int) + (dr : Int) ∧ wrap64 (y - (pl : Int) + (dr : Int)) = y - (pl : Int) + (dr : Int)) :=
    fun y h1 h2 => ⟨i64_in (by omega) (by omega), i64_in (by omega) (by omega)⟩
  obtain ⟨y, hy⟩ : ∃ y : Int, y = if bl then -(pw : Int) else (pw : Int) := ⟨_, rfl⟩
  have y1 : -10000000 ≤ y ∧ y ≤ 10000000 := by rw [hy]; cases bl <;> simp <;> omega
  have K := key y y1.1 y1.2
  rw [← hy]
  have n1 : IntKind.i64.wrap (-(pw : Int)) = -(pw : Int) := (i64_in (by omega) (by omega)).1
  have n2 : wrap64 (-(pw : Int)) = -(pw : Int) := (i64_in (by omega) (by omega)).2
  obtain ⟨⟨k1, k2⟩, k3, k4⟩ := K
  obtain ⟨E, hE⟩ : ∃ E : Int, E = y - (pl : Int) + (dr : Int) := ⟨_, rfl⟩
  rw [← hE] at k3 k4 ⊢
  have k5 : y - (pl : Int) + (dr : Int) = E := hE.symm
  clear key hE hdr hpl hpw u1 y1
  obtain ⟨⟨a0, a1, a2, a3, a4, a5, a6, a7, a8, a9⟩, -, s⟩ := HH.out
  cases bl
  · obtain rfl : y = (pw : Int) := hy
    go_enter Tryd.func76, Tryd.ntmps76
    go_wp2
    go_region
    all_goals
      go_wp2
      clear a0 a1 a2 a3 a4 a5 a6 a7 a8 a9 s
      refine ret_via (fun VF => HoldsW VF w.heap.size false 0 0 h l E more) (fun VF hq => ?_) (by simp [HoldsW, go_sem]) rfl ⟨rfl, by go_grown⟩
      obtain ⟨⟨d0, d1, d2, d3, d4, d5, d6⟩, -, -⟩ := hq
      simp [results, Tryd.results76, go_sem, d0, d1, d2, d3, d4, d5, d6]
  · obtain rfl : y = -(pw : Int) := hy
    go_enter Tryd.func76, Tryd.ntmps76
    go_wp2
    go_region
    all_goals
      go_wp2
      clear a0 a1 a2 a3 a4 a5 a6 a7 a8 a9 s
      refine ret_via (fun VF => HoldsW VF w.heap.size false 0 0 h l E more) (fun VF hq => ?_) (by simp [HoldsW, go_sem]) rfl ⟨rfl, by go_grown⟩
      obtain ⟨⟨d0, d1, d2, d3, d4, d5, d6⟩, -, -⟩ := hq
      simp [results, Tryd.results76, go_sem, d0, d1, d2, d3, d4, d5, d6]

theorem HoldsG.new10' {W : World} {g t at' h l kept dr : Nat} {more : Bool} {pl pw pd : Nat} {bl : Bool} (hg : g = W.heap.size) : HoldsG (W.alloc (.cells #[.int .i64 (at' : Int), .int .u64 (h : Int), .int .u64 (l : Int), .int .i64 (kept : Int), .int .i64 (dr : Int), .bool more, .int .i64 (pl : Int), .int .i64 (pw : Int), .int .i64 (pd : Int), .bool bl] t)) g at' h l kept dr more pl pw pd bl := by
  subst hg
  refine ⟨by simp [go_sem], fun i hi => by simp [go_sem], by simp⟩
/-- Whether a text has a number's form. -/
def shapeL (l : List UInt8) : Bool := match runS l rd0 with
  | none => false
  | some t => endS t
theorem shapeL_none {l : List UInt8} (h : none = runS l rd0) : shapeL l = false := by unfold shapeL; rw [← h]
theorem shapeL_some {l : List UInt8} {t : RdT} (h : some t = runS l rd0) : shapeL l = endS t := by unfold shapeL; rw [← h]
theorem readL_none {l : List UInt8} (h : none = runS l rd0) : readL l = none := by unfold readL; rw [← h]
theorem readL_some {l : List UInt8} {t : RdT} (h : some t = runS l rd0) : readL l = if endS t then fitF 1 false t.2.1 t.2.2.2.2.1 (expS t) else none := by unfold readL; rw [← h]
set_option linter.unusedSimpArgs false in
set_option maxRecDepth 100000 in
set_option maxHeartbeats 4000000 in
theorem shape_any (s : ByteArray) (hs : s.size ≤ 200000000000000) (w : World) : Calls Tryd.prog 32 #[.string s] w (RetB (shapeL s.data.toList) w) := by
  have RT := Lib.hid (readThrough_any s hs)
  obtain ⟨r, hr⟩ : ∃ r, r = shapeL s.data.toList := ⟨_, rfl⟩
  obtain ⟨o, ho⟩ : ∃ o, o = runS s.data.toList rd0 := ⟨_, rfl⟩
  rw [← hr]
  rw [← ho] at RT
  have HR := Lib.hid hr
  clear hs hr
  go_enter Tryd.func32, Tryd.ntmps32
  go_wp2_with fail
  refine (RT.out _).mono ?_
  rintro e w1 ⟨R, hb⟩
  have B : Below w.heap.size w w1 := bstep (by go_grown) hb
  clear hb RT
  cases o with
  | none =>
    obtain rfl : e = _ := R
    obtain rfl : r = false := HR.out.trans (shapeL_none ho)
    clear HR ho
    go_wp2
    go_ret
    exact ⟨rfl, ballD1 B _⟩
  | some t =>
    have HE := Lib.hid (HR.out.trans (shapeL_some ho))
    obtain ⟨at', V, kept, dr, more, pl, pw, pd, bl⟩ := t
    obtain ⟨h, l, -, -, rfl⟩ := R
    rw [← HE.out]
    clear HR ho HE
    go_wp2
    go_ret
    exact ⟨rfl, ballD1 B _⟩

/-- A number of so many words' cells. -/
theorem zeroD_new {w : World} : HoldsD (w.alloc (.cells #[.bool false, .int .u64 0, .int .u64 0, .int .i64 0] 28)) w.heap.size false 0 0 0 := HoldsD.zero4 rfl
theorem HoldsD.putZ {W : World} {g : Nat} {a : Bool} {b c : Nat} {d : Int} (H : HoldsD W g a b c d) : HoldsD ((((W.setCell ⟨g, 0, none⟩ (.bool false)).setCell ⟨g, 1, none⟩ (.int .u64 0)).setCell ⟨g, 2, none⟩ (.int .u64 0)).setCell ⟨g, 3, none⟩ (.int .i64 0)) g false 0 0 0 := HoldsD.put4 (neg := false) (h := 0) (l := 0) (e := 0) H
theorem numO_none : NumO none false 0 0 0 false := ⟨ww0, rfl, rfl, rfl, rfl, rfl⟩
set_option linter.unusedSimpArgs false in
set_option maxRecDepth 100000 in
set_option maxHeartbeats 4000000 in
theorem read_any (s : ByteArray) (hs : s.size ≤ 200000000000000) (w : World) (ht : Tab w) : Calls Tryd.prog 30 #[.string s] w (RetDO (readL s.data.toList) w) := by
  have HT := Lib.hid ht
  have RT := Lib.hid (readThrough_any s hs)
  obtain ⟨r, hr⟩ : ∃ r, r = readL s.data.toList := ⟨_, rfl⟩
  obtain ⟨o, ho⟩ : ∃ o, o = runS s.data.toList rd0 := ⟨_, rfl⟩
  rw [← hr]
  rw [← ho] at RT
  have HR := Lib.hid hr
  have HS := Lib.hid hs
  clear hs hr ht
  go_enter Tryd.func30, Tryd.ntmps30
  go_wp2_with fail
  refine (RT.out _).mono ?_
  rintro e w1 ⟨R, hb⟩
  have P := Lib.hid ((zeroD_new (w := w)).below hb)
  have B : Below w.heap.size w w1 := bstep (by go_grown) hb
  clear hb RT
  cases o with
  | none =>
    obtain rfl : e = _ := R
    obtain rfl : r = none := HR.out.trans (readL_none ho)
    clear HR ho
    obtain ⟨⟨a1, a2, a3, a4⟩, ⟨a5, a6, a7, a8⟩, a9⟩ := P.out
    go_wp2
    refine ret_via (fun VF => HoldsD VF w.heap.size false 0 0 0) (fun VF hq => ?_) (HoldsD.alloc (HoldsD.putZ P.out) _) rfl ⟨false, 0, 0, 0, false, numO_none, rfl, ballD1 (Below.set4 B _ _ _ _ _ (Nat.le_refl _) _ _ _ _) _⟩
    obtain ⟨⟨d1, d2, d3, d4⟩, -, -⟩ := hq
    simp [results, Tryd.results30, go_sem, d1, d2, d3, d4]
  | some t =>
    have I := run_inv _ inv_rd0 ho.symm
    have RS := HR.out.trans (readL_some ho)
    have LO := run_low ho.symm HS.out
    obtain ⟨at', V, kept, dr, more, pl, pw, pd, bl⟩ := t
    obtain ⟨h, l, wh, rfl, rfl⟩ := R
    obtain ⟨i1, i2, i3, i4, i5, i6, i7⟩ := I
    have hdr : dr ≤ 200000000000000 := Nat.le_trans i4 (by have := HS.out; show 0 + s.size ≤ _; omega)
    have hpl : pl ≤ 200000000000000 := Nat.le_trans i5 (by have := HS.out; show 0 + s.size ≤ _; omega)
    have hpw : pw ≤ 10000000 := Nat.le_of_lt (Nat.lt_of_lt_of_le i7 (p10_mono i6))
    obtain ⟨eb, heb⟩ : ∃ b : Bool, b = endS (at', nv h l, kept, dr, more, pl, pw, pd, bl) := ⟨_, rfl⟩
    rw [← heb] at RS ⊢
    have G0 := Lib.hid (fun (W : World) (g : Nat) (H : HoldsG W g at' h l kept dr more pl pw pd bl) => sizeG_any g at' h l kept dr more pl pw pd bl hdr hpl hpw W H)
    obtain ⟨E, hE⟩ : ∃ E : Int, E = (if bl then -(pw : Int) else (pw : Int)) - (pl : Int) + (dr : Int) := ⟨_, rfl⟩
    have eE : expS (at', nv h l, kept, dr, more, pl, pw, pd, bl) = E := hE.symm
    rw [eE] at RS LO
    rw [← hE] at G0
    have FT0 := fit_any 1 (.inl rfl) false 0 0 h l E more ww0 wh LO.2.1 LO.2.2
    rw [nv2_low] at FT0
    have RS2 : r = if eb = true then fitF 1 false (nv h l) more E else none := RS
    have FT := Lib.hid FT0
    clear HR RS LO i1 i2 i3 i4 i5 i6 i7 ho heb hE eE hdr hpl hpw HS FT0 wh
    cases eb
    · obtain rfl : r = none := RS2
      clear G0 FT
      obtain ⟨⟨a1, a2, a3, a4⟩, ⟨a5, a6, a7, a8⟩, a9⟩ := P.out
      go_wp2
      refine ret_via (fun VF => HoldsD VF w.heap.size false 0 0 0) (fun VF hq => ?_) (HoldsD.alloc (HoldsD.putZ P.out) _) rfl ⟨false, 0, 0, 0, false, numO_none, rfl, ballD1 (Below.set4 B _ _ _ _ _ (Nat.le_refl _) _ _ _ _) _⟩
      obtain ⟨⟨d1, d2, d3, d4⟩, -, -⟩ := hq
      simp [results, Tryd.results30, go_sem, d1, d2, d3, d4]
    · rw [if_pos rfl] at RS2
      rw [← RS2] at FT
      clear RS2
      have PG := Lib.hid (HoldsG.new10' rfl : HoldsG (w1.alloc (.cells #[.int .i64 (at' : Int), .int .u64 (h : Int), .int .u64 (l : Int), .int .i64 (kept : Int), .int .i64 (dr : Int), .bool more, .int .i64 (pl : Int), .int .i64 (pw : Int), .int .i64 (pd : Int), .bool bl] 93)) w1.heap.size at' h l kept dr more pl pw pd bl)
      replace P := Lib.hid (P.out.alloc (.cells #[.int .i64 (at' : Int), .int .u64 (h : Int), .int .u64 (l : Int), .int .i64 (kept : Int), .int .i64 (dr : Int), .bool more, .int .i64 (pl : Int), .int .i64 (pw : Int), .int .i64 (pd : Int), .bool bl] 93))
      replace B := ballD1 B (.cells #[.int .i64 (at' : Int), .int .u64 (h : Int), .int .u64 (l : Int), .int .i64 (kept : Int), .int .i64 (dr : Int), .bool more, .int .i64 (pl : Int), .int .i64 (pw : Int), .int .i64 (pd : Int), .bool bl] 93)
      go_wp2_with fail
      refine (G0.out _ _ PG.out).mono ?_
      rintro e v1 ⟨rfl, hb⟩
      replace P := Lib.hid (P.out.below hb)
      replace B := bstep B hb
      clear hb G0 PG
      go_wp2_with fail
      refine (FT.out _ (HT.out.below B)).mono ?_
      rintro e v2 ⟨neg, h', l', x, ok, NO, rfl, hb⟩
      replace P := Lib.hid (P.out.below hb)
      replace B := bstep B hb
      have HN := Lib.hid NO
      clear hb FT NO
      obtain ⟨⟨a1, a2, a3, a4⟩, ⟨a5, a6, a7, a8⟩, a9⟩ := P.out
      go_wp2
      refine ret_via (fun VF => HoldsD VF w.heap.size neg h' l' x) (fun VF hq => ?_) (HoldsD.put4 P.out) rfl ⟨neg, h', l', x, ok, HN.out, rfl, Below.set4 B _ _ _ _ _ (Nat.le_refl _) _ _ _ _⟩
      obtain ⟨⟨d1, d2, d3, d4⟩, -, -⟩ := hq
      simp [results, Tryd.results30, go_sem, d1, d2, d3, d4]

/-- Negated, as the program does. -/
def negO (o : Option (Bool × Nat × Int)) : Option (Bool × Nat × Int) := o.map (fun r => (!r.1 && !decide (r.2.1 = 0), r.2.1, r.2.2))
theorem sign_cut (s : ByteArray) : ∃ (pf : Bool) (R : ByteArray), Lib.hasPrefix s.data.toList [45] = pf ∧ (⟨(Lib.trimPrefix s.data.toList [45]).toArray⟩ : ByteArray) = R ∧ R.size ≤ s.size ∧ signL s.data.toList = if pf then negO (readL R.data.toList) else readL R.data.toList := by
  obtain ⟨l, hl⟩ : ∃ l, l = s.data.toList := ⟨_, rfl⟩
  have hsz : s.size = l.length := by rw [hl]; rfl
  rw [← hl, hsz]
  refine ⟨_, _, rfl, rfl, ?_, ?_⟩
  · show (Lib.trimPrefix l [45]).toArray.size ≤ l.length
    unfold Lib.trimPrefix
    split
    · simp
    · simp
  · show signL l = if Lib.hasPrefix l [45] = true then negO (readL (Lib.trimPrefix l [45]).toArray.toList) else readL (Lib.trimPrefix l [45]).toArray.toList
    rw [List.toList_toArray]
    unfold Lib.trimPrefix
    cases l with
    | nil =>
      have : Lib.hasPrefix [] [45] = false := rfl
      rw [this, if_neg (by decide), if_neg (by decide)]
      rfl
    | cons b t =>
      by_cases h : b = 45
      · subst h
        have : Lib.hasPrefix (45 :: t) [45] = true := by unfold Lib.hasPrefix; simp [List.isPrefixOf]
        rw [this, if_pos rfl, if_pos rfl, signL_cons, if_pos rfl]
        rfl
      · have : Lib.hasPrefix (b :: t) [45] = false := by unfold Lib.hasPrefix; simp [List.isPrefixOf]; exact fun e => h e.symm
        rw [this, if_neg (by decide), if_neg (by decide), signL_cons, if_neg h]
theorem numO_neg {o : Option (Bool × Nat × Int)} {neg : Bool} {h l : Nat} {x : Int} {ok : Bool} (N : NumO o neg h l x ok) : NumO (negO o) (!neg && !decide (nv h l = 0)) h l x ok := by
  obtain ⟨w, k⟩ := N
  refine ⟨w, ?_⟩
  cases o with
  | none =>
    obtain ⟨k1, k2, k3, k4, k5⟩ := k
    subst k3 k4
    exact ⟨k1, by rw [decide_eq_true (show nv 0 0 = 0 from rfl)]; cases neg <;> rfl, rfl, rfl, k5⟩
  | some r =>
    obtain ⟨s, c, e⟩ := r
    obtain ⟨k1, k2, k3, k4⟩ := k
    exact ⟨k1, by rw [k2, k3], k3, k4⟩
set_option linter.unusedSimpArgs false in
set_option maxRecDepth 100000 in
set_option maxHeartbeats 4000000 in
theorem signed_any (s : ByteArray) (hs : s.size ≤ 200000000000000) (w : World) (ht : Tab w) : Calls Tryd.prog 27 #[.string s] w (RetDO (signL s.data.toList) w) := by
  have HT := Lib.hid ht
  obtain ⟨pf, R, h1, h2, h3, h4⟩ := sign_cut s
  have CP0 := fun w => Tryd.strings_CutPrefix s ⟨#[45]⟩ w
  rw [show ((⟨#[45]⟩ : ByteArray).data.toList) = [45] from rfl, h1, h2] at CP0
  have CP := Lib.hid CP0
  have RD := Lib.hid (read_any R (Nat.le_trans h3 hs))
  rw [h4]
  generalize readL R.data.toList = o at *
  clear hs ht h1 h2 h3 h4 CP0
  cases pf
  · rw [if_neg (by decide)]
    go_enter Tryd.func27, Tryd.ntmps27
    go_wp2_with fail
    refine (CP.out _).mono ?_
    rintro e w1 ⟨rfl, rfl⟩
    have P := Lib.hid (zeroD_new (w := w))
    have B : Below w.heap.size w (w.alloc (.cells #[.bool false, .int .u64 0, .int .u64 0, .int .i64 0] 28)) := by go_grown
    go_wp2_with fail
    refine (RD.out _ (HT.out.below B)).mono ?_
    rintro e v ⟨neg, h, l, x, ok, N, rfl, hb⟩
    have HN := Lib.hid N
    have PN := Lib.hid (HoldsD.new4 rfl : HoldsD (v.alloc (.cells #[.bool neg, .int .u64 (h : Int), .int .u64 (l : Int), .int .i64 x] 28)) v.heap.size neg h l x)
    replace P := Lib.hid ((P.out.below hb).alloc (.cells #[.bool neg, .int .u64 (h : Int), .int .u64 (l : Int), .int .i64 x] 28))
    replace B := ballD1 (bstep B hb) (.cells #[.bool neg, .int .u64 (h : Int), .int .u64 (l : Int), .int .i64 x] 28)
    clear hb N CP RD HT
    go_upto_region 3 with fail
    generalize v.alloc (.cells #[.bool neg, .int .u64 (h : Int), .int .u64 (l : Int), .int .i64 x] 28) = V at *
    obtain ⟨g, hg⟩ : ∃ g, g = v.heap.size := ⟨_, rfl⟩
    rw [← hg] at PN ⊢
    clear hg
    obtain ⟨⟨c1, c2, c3, c4⟩, -, c9⟩ := PN.out
    obtain ⟨⟨a1, a2, a3, a4⟩, ⟨a5, a6, a7, a8⟩, a9⟩ := P.out
    go_wp2
    refine ret_via (fun VF => HoldsD VF w.heap.size neg h l x) (fun VF hq => ?_) (HoldsD.put4 P.out) rfl ⟨neg, h, l, x, ok, HN.out, rfl, Below.set4 B _ _ _ _ _ (Nat.le_refl _) _ _ _ _⟩
    obtain ⟨⟨d1, d2, d3, d4⟩, -, -⟩ := hq
    simp [results, Tryd.results27, go_sem, d1, d2, d3, d4]
  · rw [if_pos rfl]
    go_enter Tryd.func27, Tryd.ntmps27
    go_wp2_with fail
    refine (CP.out _).mono ?_
    rintro e w1 ⟨rfl, rfl⟩
    have P := Lib.hid (zeroD_new (w := w))
    have B : Below w.heap.size w (w.alloc (.cells #[.bool false, .int .u64 0, .int .u64 0, .int .i64 0] 28)) := by go_grown
    go_wp2_with fail
    refine (RD.out _ (HT.out.below B)).mono ?_
    rintro e v ⟨neg, h, l, x, ok, N, rfl, hb⟩
    have HN := Lib.hid (numO_neg N)
    have NG := Lib.hid (neg_any neg h l x)
    obtain ⟨nn, hnn⟩ : ∃ b, b = (!neg && !decide (nv h l = 0)) := ⟨_, rfl⟩
    rw [← hnn] at HN NG
    have hv : w.heap.size ≠ v.heap.size := by have := (P.out.below hb).2.2; omega
    have PN := Lib.hid (HoldsD.new4 rfl : HoldsD (v.alloc (.cells #[.bool neg, .int .u64 (h : Int), .int .u64 (l : Int), .int .i64 x] 28)) v.heap.size neg h l x)
    replace P := Lib.hid ((P.out.below hb).alloc (.cells #[.bool neg, .int .u64 (h : Int), .int .u64 (l : Int), .int .i64 x] 28))
    have hB : w.heap.size ≤ v.heap.size := Nat.le_trans B.size hb.size
    replace B := ballD1 (bstep B hb) (.cells #[.bool neg, .int .u64 (h : Int), .int .u64 (l : Int), .int .i64 x] 28)
    clear hb N CP RD HT hnn
    go_upto_region 3 with fail
    generalize v.alloc (.cells #[.bool neg, .int .u64 (h : Int), .int .u64 (l : Int), .int .i64 x] 28) = V at *
    obtain ⟨g, hg⟩ : ∃ g, g = v.heap.size := ⟨_, rfl⟩
    rw [← hg] at PN hv hB ⊢
    clear hg
    obtain ⟨⟨c1, c2, c3, c4⟩, ⟨c5, c6, c7, c8⟩, c9⟩ := PN.out
    go_wp2_with fail
    refine (NG.out _).mono ?_
    rintro e v3 ⟨n', h', l', x', ⟨rfl, rfl, rfl, rfl⟩, rfl, hb⟩
    replace P := Lib.hid (P.out.below hb)
    replace PN := Lib.hid (PN.out.below hb)
    replace B := bstep B hb
    clear hb NG c1 c2 c3 c4 c5 c6 c7 c8 c9
    obtain ⟨⟨c1, c2, c3, c4⟩, ⟨c5, c6, c7, c8⟩, c9⟩ := PN.out
    obtain ⟨⟨a1, a2, a3, a4⟩, ⟨a5, a6, a7, a8⟩, a9⟩ := P.out
    go_wp2
    refine ret_via (fun VF => HoldsD VF w.heap.size n' h' l' x') (fun VF hq => ?_) (HoldsD.put4 (HoldsD.far (HoldsD.far (HoldsD.far (HoldsD.far P.out hv _) hv _) hv _) hv _)) rfl ⟨n', h', l', x', ok, HN.out, rfl, Below.set4 (Below.set4 B _ _ _ _ _ hB _ _ _ _) _ _ _ _ _ (Nat.le_refl _) _ _ _ _⟩
    obtain ⟨⟨d1, d2, d3, d4⟩, -, -⟩ := hq
    simp [results, Tryd.results27, go_sem, d1, d2, d3, d4]

theorem signL_may {l : List UInt8} {n : Bool} {c : Nat} {x : Int} (h : signL l = some (n, c, x)) (hl : l.length ≤ 200000000000000) : NumD c x ∧ (c = 0 → n = false) := by
  cases l with
  | nil => cases h
  | cons b t =>
    rw [signL_cons] at h
    split at h
    · cases e : readL t with
      | none => rw [e] at h; cases h
      | some r =>
        obtain ⟨m, d, y⟩ := r
        rw [e] at h
        have k := readL_may e (Nat.le_trans (by rw [List.length_cons]; omega) hl)
        have h2 : ((!m && !decide (d = 0), d, y) : Bool × Nat × Int) = (n, c, x) := Option.some.inj h
        simp only [Prod.mk.injEq] at h2
        obtain ⟨rfl, rfl, rfl⟩ := h2
        exact ⟨k.2, fun z => by rw [decide_eq_true z]; cases m <;> rfl⟩
    · have k := readL_may h hl
      exact ⟨k.2, fun _ => k.1⟩
/-- Whether a text is that of a number. -/
def plainL (l : List UInt8) : Bool := match signL l with
  | none => false
  | some (n, c, x) => decide (textL n c x = l)
theorem bytes_eq (l : List UInt8) (s : ByteArray) : ((⟨l.toArray⟩ : ByteArray) = s) ↔ l = s.data.toList := by
  constructor
  · rintro rfl; simp
  · intro h
    apply ByteArray.ext
    rw [h]
theorem str_ne {T s : ByteArray} (q : T ≠ s) : (T.toList == s.toList) = false := by
  rw [ByteArray.toList_eq, ByteArray.toList_eq]
  refine beq_eq_false_iff_ne.2 fun h => q ?_
  exact ByteArray.ext (Array.ext' h)
set_option linter.unusedSimpArgs false in
set_option maxRecDepth 100000 in
set_option maxHeartbeats 4000000 in
theorem plain_any (s : ByteArray) (hs : s.size ≤ 200000000000000) (w : World) (ht : Tab w) (ht2 : Tab2 w) : Calls Tryd.prog 29 #[.string s] w (RetB (plainL s.data.toList) w) := by
  have HT := Lib.hid (And.intro ht ht2)
  have SG := Lib.hid (signed_any s hs)
  obtain ⟨o, ho⟩ : ∃ o, o = signL s.data.toList := ⟨_, rfl⟩
  obtain ⟨r, hr⟩ : ∃ r, r = plainL s.data.toList := ⟨_, rfl⟩
  rw [← ho] at SG
  rw [← hr]
  have HO := Lib.hid ho
  have HR := Lib.hid hr
  have HS := Lib.hid hs
  clear ho hr hs ht ht2
  go_enter Tryd.func29, Tryd.ntmps29
  go_wp2_with fail
  refine (SG.out _ HT.out.1).mono ?_
  rintro e v ⟨neg, h, l, x, ok, N, rfl, hb⟩
  have P := Lib.hid (HoldsD.new4 rfl : HoldsD (v.alloc (.cells #[.bool neg, .int .u64 (h : Int), .int .u64 (l : Int), .int .i64 x] 28)) v.heap.size neg h l x)
  have B : Below w.heap.size w v := hb
  replace B := ballD1 B (.cells #[.bool neg, .int .u64 (h : Int), .int .u64 (l : Int), .int .i64 x] 28)
  clear hb SG
  obtain ⟨hw, N2⟩ := N
  cases o with
  | none =>
    obtain ⟨rfl, -, -, -, -⟩ := N2
    obtain rfl : r = false := by rw [HR.out]; unfold plainL; rw [← HO.out]
    clear HO HR HT HS hw P
    go_wp2
    go_ret
    exact ⟨rfl, B⟩
  | some q =>
    obtain ⟨n, c, y⟩ := q
    obtain ⟨rfl, rfl, rfl, rfl⟩ := N2
    have M := signL_may HO.out.symm HS.out
    have TX := Lib.hid (textN_any neg h l x hw M.1)
    have RE : r = decide (textL neg (nv h l) x = s.data.toList) := by rw [HR.out]; unfold plainL; rw [← HO.out]
    obtain ⟨T, hT⟩ : ∃ T : ByteArray, T = ⟨(textL neg (nv h l) x).toArray⟩ := ⟨_, rfl⟩
    have RT : r = decide (T = s) := by
      rw [RE, decide_eq_decide, hT]
      exact (bytes_eq _ s).symm
    have TX2 := Lib.hid (show ∀ w : World, Tab w → Tab2 w → Calls Tryd.prog 26 #[Dv neg h l x] w (fun e w' => e = .returned (.string T) ∧ Below w.heap.size w w') from fun w a b => by rw [hT]; exact TX.out w a b)
    clear HO HR HS hw M TX RE hT
    obtain ⟨⟨a1, a2, a3, a4⟩, -, a9⟩ := P.out
    by_cases q : T = s
    · subst q
      obtain rfl : r = true := by rw [RT]; exact decide_eq_true rfl
      clear RT
      go_wp2_with fail
      refine (TX2.out _ (HT.out.1.below B) (HT.out.2.below B)).mono ?_
      rintro e v2 ⟨rfl, hb⟩
      replace B := bstep B hb
      clear hb TX2 HT a1 a2 a3 a4 a9 P
      go_wp2
      go_ret
      exact ⟨rfl, B⟩
    · have sn := str_ne q
      obtain rfl : r = false := by rw [RT]; exact decide_eq_false q
      clear RT
      go_wp2_with fail
      refine (TX2.out _ (HT.out.1.below B) (HT.out.2.below B)).mono ?_
      rintro e v2 ⟨rfl, hb⟩
      replace B := bstep B hb
      clear hb TX2 HT a1 a2 a3 a4 a9 P
      go_wp2
      go_ret
      exact ⟨rfl, B⟩
end Go.Proofs.YtmelblnfjcbmjaaDoor

/-
  The document's examples of layer 5, plainly.
-/
namespace Go.Proofs.YtmelblnfjcbmjaaDoor

theorem ex_text1 : textL false 250 (-2) = [50, 46, 53, 48] := by
  have d : Lib.decDigits 250 = [50, 53, 48] := by simp [Lib.decDigits]
  unfold textL sizeL sgn
  rw [d]
  decide
theorem ex_text2 : textL false 5 (-3) = [48, 46, 48, 48, 53] := by
  have d : Lib.decDigits 5 = [53] := by simp [Lib.decDigits]
  unfold textL sizeL sgn
  rw [d]
  decide
theorem ex_text3 : textL false 12 3 = [49, 50, 69, 51] := by
  have d : Lib.decDigits 12 = [49, 50] := by simp [Lib.decDigits]
  have e : Lib.decDigits 3 = [51] := by simp [Lib.decDigits]
  unfold textL sizeL sgn Lib.itoa
  rw [d, show (3 : Int).toNat = 3 from rfl, e]
  decide
theorem ex_text4 : textL false 1 0 = [49] := by
  have d : Lib.decDigits 1 = [49] := by simp [Lib.decDigits]
  unfold textL sizeL sgn
  rw [d]
  decide
theorem ex_read1 : readL [49, 46, 50, 48, 69, 43, 51] = some (false, 120, 1) :=
  readL_of (a := 6) (kept := 3) (pl := 2) (pw := 3) (pd := 1) (bl := false) rfl (.inr (.inr rfl)) (by decide) (by unfold NumD; decide)
theorem ex_read2 : readL [46, 53] = some (false, 5, -1) :=
  readL_of (a := 3) (kept := 1) (pl := 1) (pw := 0) (pd := 0) (bl := false) rfl (.inr (.inl rfl)) (by decide) (by unfold NumD; decide)
theorem ex_read3 : signL [45, 48] = some (false, 0, 0) := by
  rw [signL_cons, if_pos rfl, readL_of (a := 1) (V := 0) (kept := 0) (pl := 0) (pw := 0) (pd := 0) (bl := false) (x := 0) rfl (.inl rfl) (by decide) (by unfold NumD; decide)]
  rfl
theorem ex_read4 : signL [49, 69, 48] = some (false, 1, 0) := by
  rw [signL_cons, if_neg (by decide)]
  exact readL_of (a := 6) (kept := 1) (pl := 0) (pw := 0) (pd := 1) (bl := false) rfl (.inr (.inr rfl)) (by decide) (by unfold NumD; decide)
theorem ex_read5 : signL [50, 46, 53, 48] = some (false, 250, -2) := by
  rw [← ex_text1]
  exact sign_text (by unfold NumD; decide) (fun _ => rfl)
end Go.Proofs.YtmelblnfjcbmjaaDoor

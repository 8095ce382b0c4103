/-
  Several texts in one: each one's own remark stands ahead of it.
-/
import Derived.Test.YtmelblnfjcbmjaaDoorRn
import Derived.Test.YtmelblnfjcbmjaaDoorNall
import Derived.Test.YtmelblnfjcbmjaaDoorEm
/-
  The document's text of a number (the reference's Itoa, Text), as contracts of their calls.
-/
namespace Go.Proofs.YtmelblnfjcbmjaaDoor
open Go.RowKit

theorem dg_20000 {c : Nat} (h : c < 10 ^ 200) : (Dg.dg c).length ≤ 20000 := Nat.le_trans (dg_small h) (by decide)
theorem itoa_len {x : Int} (h1 : -100000 ≤ x) (h2 : x ≤ 100000) : (Lib.itoa x).length ≤ 35 := by
  unfold Lib.itoa
  split
  · have := dec_len (c := x.natAbs) (Nat.lt_of_le_of_lt (show x.natAbs ≤ 100000 by omega) (by decide))
    rw [List.length_cons]; omega
  · have := dec_len (c := x.toNat) (Nat.lt_of_le_of_lt (show x.toNat ≤ 100000 by omega) (by decide))
    omega
set_option linter.unusedSimpArgs false in
set_option maxRecDepth 100000 in
set_option maxHeartbeats 4000000 in
theorem itoaR_any (x : Int) (h1 : -100000 ≤ x) (h2 : x ≤ 100000) (w : World) : Calls Tryd.prog 73 #[.int .i64 x] w (RetS (Lib.itoa x) w) := by
  obtain ⟨c, hc⟩ : ∃ c : Nat, c = x.natAbs := ⟨_, rfl⟩
  have c5 : c ≤ 100000 := by omega
  have C0 := words_any w.heap.size [c] 1 (Nat.le_of_ble_eq_true rfl) (by intro y hy; rw [List.mem_singleton.1 hy]; omega) (w.alloc (.cells #[.int .u64 (c : Int)] 22)) (by simp) (by
    intro k hk
    have : k = 0 := by simp at hk; omega
    subst this
    simp [go_sem])
  rw [wv1] at C0
  have C := Lib.hid C0
  have TX := Lib.hid (fun (v : Value) (w : World) (R : Row w v (Dg.dg c)) => rtext_any v c (dg_20000 (Nat.lt_of_le_of_lt c5 (by decide))) w R)
  obtain ⟨D, hD⟩ : ∃ D : ByteArray, D = ⟨(Lib.decDigits c).toArray⟩ := ⟨_, rfl⟩
  have TX2 := Lib.hid (show ∀ (v : Value) (w : World), Row w v (Dg.dg c) → Calls Tryd.prog 72 #[v] w (fun e w' => e = .returned (.string D) ∧ Below w.heap.size w w') from fun v w R => by rw [hD]; exact TX.out v w R)
  have sD : D.size ≤ 34 := by rw [hD]; exact Nat.le_trans (Nat.le_of_eq (by simp [ByteArray.size])) (dec_len (Nat.lt_of_le_of_lt c5 (by decide)))
  by_cases k : x < 0
  · have t1 : decide (x < 0) = true := decide_eq_true k
    have e1 : wrap64 (-x) = (c : Int) := by unfold wrap64; omega
    have e1' : IntKind.i64.wrap (-x) = (c : Int) := by rw [IntKind.wrap_i64]; omega
    have e2 : IntKind.u64.wrap (c : Int) = (c : Int) := by rw [IntKind.wrap_u64]; omega
    have e3 : -x = (c : Int) := by omega
    have e4 : wrap64 (c : Int) = (c : Int) := by unfold wrap64; omega
    have RES := Lib.hid (show ({ data := #[45] } : ByteArray) ++ D = ⟨(Lib.itoa x).toArray⟩ from by
      unfold Lib.itoa
      rw [if_pos k, ← hc, hD]
      exact str_append [45] _)
    clear k hc c5 C0 TX hD h1 h2
    go_enter Tryd.func73, Tryd.ntmps73
    go_wp2_with fail
    refine (C.out).mono ?_
    rintro e w1 ⟨v, rfl, R, hb1⟩
    obtain ⟨A, cap, rfl⟩ := slice_of R
    have HR := Lib.hid R
    have B : Below w.heap.size w w1 := bstep (by go_grown) hb1
    clear R hb1 C
    go_wp2_with fail
    refine (TX2.out _ _ HR.out).mono ?_
    rintro e w2 ⟨rfl, hb⟩
    replace B := bstep B hb
    clear hb TX2 HR
    go_wp2
    go_ret
    exact ⟨by rw [← RES.out]; rfl, B⟩
  · have t1 : decide (x < 0) = false := decide_eq_false k
    have e2 : IntKind.u64.wrap x = (c : Int) := by rw [IntKind.wrap_u64]; omega
    have RES := Lib.hid (show D = ⟨(Lib.itoa x).toArray⟩ from by
      unfold Lib.itoa
      rw [if_neg k, hD, show c = x.toNat by omega])
    clear k hc c5 C0 TX hD h1 h2
    go_enter Tryd.func73, Tryd.ntmps73
    go_wp2_with fail
    refine (C.out).mono ?_
    rintro e w1 ⟨v, rfl, R, hb1⟩
    obtain ⟨A, cap, rfl⟩ := slice_of R
    have HR := Lib.hid R
    have B : Below w.heap.size w w1 := bstep (by go_grown) hb1
    clear R hb1 C
    go_wp2_with fail
    refine (TX2.out _ _ HR.out).mono ?_
    rintro e w2 ⟨rfl, hb⟩
    replace B := bstep B hb
    clear hb TX2 HR
    go_wp2
    go_ret
    exact ⟨by rw [← RES.out]; rfl, B⟩

theorem size_add' (S T : ByteArray) : (S ++ T).size = S.size + T.size := by
  show (S ++ T).data.size = _
  rw [ByteArray.data_append, Array.size_append]
  rfl
theorem size_list (l : List UInt8) : (⟨l.toArray⟩ : ByteArray).size = l.length := by simp [ByteArray.size]
/-- A - ahead, if it is below 0. -/
def sgL (n : Bool) (l : List UInt8) : List UInt8 := if n then 45 :: l else l
theorem sgL_str (Z : ByteArray) (l : List UInt8) (h : Z = ⟨l.toArray⟩) : ({ data := #[45] } : ByteArray) ++ Z = ⟨(sgL true l).toArray⟩ := by rw [h]; exact str_append [45] l
set_option linter.unusedSimpArgs false in
set_option maxRecDepth 100000 in
set_option maxHeartbeats 8000000 in
theorem textR_any (n : Bool) (v : Value) (c : Nat) (x : Int) (hn : NumD c x) (w : World) (R : Row w v (Dg.dg c)) : Calls Tryd.prog 28 #[Fv n v x] w (RetS (sgL n (sizeL c x)) w) := by
  obtain ⟨D, hD⟩ : ∃ D : ByteArray, D = ⟨(Lib.decDigits c).toArray⟩ := ⟨_, rfl⟩
  have TX2 := Lib.hid (show ∀ (v : Value) (w : World), Row w v (Dg.dg c) → Calls Tryd.prog 72 #[v] w (fun e w' => e = .returned (.string D) ∧ Below w.heap.size w w') from fun v w R => by rw [hD]; exact rtext_any v c (dg_20000 (Nat.lt_of_lt_of_le hn.1 (by decide))) w R)
  have lD : D.data.toList = Lib.decDigits c := by rw [hD]
  have sD : D.size ≤ 34 := by rw [hD, size_list]; exact dec_len hn.1
  have eL : D.size = (Lib.decDigits c).length := by rw [hD, size_list]
  have xb := hn.2
  obtain ⟨Z, hZ⟩ : ∃ Z : ByteArray, Z = ⟨(sizeL c x).toArray⟩ := ⟨_, rfl⟩
  have HZ := Lib.hid hZ
  have sZ : Z.size ≤ 200 := by rw [hZ, size_list]; exact size_len hn
  have HR := Lib.hid R
  clear hn R
  obtain ⟨A, cap, rfl⟩ := slice_of HR.out
  go_enter Tryd.func28, Tryd.ntmps28
  go_wp2_with fail
  refine (TX2.out _ _ (Row.alloc' HR.out _)).mono ?_
  rintro e w1 ⟨rfl, hb⟩
  have P := Lib.hid (HoldsF.below (show HoldsF (w.alloc (.cells #[.bool n, .slice A (Dg.dg c).length cap, .int .i64 x] 36)) w.heap.size n (.slice A (Dg.dg c).length cap) x from by simp [HoldsF, go_sem]) hb)
  have B : Below w.heap.size w w1 := bstep (by go_grown) hb
  clear hb TX2 HR
  by_cases x0 : x = 0
  · have t1 : decide (x < 0) = false := decide_eq_false (by omega)
    have t2 : (x != 0) = false := by rw [x0]; rfl
    have RES : D = Z := by rw [hZ, hD]; unfold sizeL; rw [if_pos x0]
    have HRES := Lib.hid RES
    clear hZ hD lD eL x0 xb RES
    obtain ⟨⟨a1, a2, a3⟩, -, a9⟩ := P.out
    cases n
    · go_wp2
      go_ret
      exact ⟨by rw [show sgL false (sizeL c x) = sizeL c x from rfl, ← HZ.out, ← HRES.out]; rfl, B⟩
    · go_wp2
      go_ret
      exact ⟨by rw [← sgL_str Z _ HZ.out, ← HRES.out]; rfl, B⟩
  · by_cases x1 : -40 ≤ x ∧ x < 0
    · have t1 : decide (x < 0) = true := decide_eq_true x1.2
      have t2 : decide (-40 ≤ x) = true := decide_eq_true x1.1
      obtain ⟨k, hk⟩ : ∃ k : Nat, k = (-x).toNat := ⟨_, rfl⟩
      have e1 : wrap64 (-x) = (k : Int) := by unfold wrap64; omega
      have e1' : IntKind.i64.wrap (-x) = (k : Int) := by rw [IntKind.wrap_i64]; omega
      have e3 : -x = (k : Int) := by omega
      have k40 : k ≤ 40 := by omega
      have ZE : sizeL c x = ptL (Lib.decDigits c) k := by unfold sizeL; rw [if_neg x0, if_pos x1, hk]
      have HZE := Lib.hid ZE
      obtain ⟨L, hL⟩ : ∃ L, L = D.size := ⟨_, rfl⟩
      rw [← hL] at sD eL
      have HE := Lib.hid eL
      have HLD := Lib.hid lD
      have xk : x = -(k : Int) := by omega
      obtain ⟨xi, hxi⟩ : ∃ i : Int, i = -(k : Int) := ⟨_, rfl⟩
      rw [← hxi] at xk
      subst xk
      have HX := Lib.hid hxi
      have HSL := Lib.hid hL
      clear hZ hD lD eL x0 x1 xb ZE hk hL hxi
      obtain ⟨⟨a1, a2, a3⟩, -, a9⟩ := P.out
      go_wp2
      go_loopg [3] (k + 1) (fun gk sv W => ∃ (j : Nat) (T : ByteArray), gk = k + 1 - j ∧ sv = .string T ∧ T.data.toList = List.replicate j 48 ++ Lib.decDigits c ∧ T.size = j + L ∧ j ≤ k + 1 - L ∧ HoldsF W w.heap.size n (.slice A (Dg.dg c).length cap) x ∧ Below w.heap.size w W)
      case atStart => exact ⟨0, D, rfl, rfl, by rw [HLD.out]; rfl, by rw [HSL.out, Nat.zero_add], Nat.zero_le _, P.out, B⟩
      case round =>
        clear a1 a2 a3 a9 P B
        obtain ⟨j, T, hg, rfl, hT, sT, hj, P0, B⟩ := hrel
        have P := Lib.hid P0
        have HT := Lib.hid hT
        have HG := Lib.hid hg
        clear P0 hT hg
        obtain ⟨⟨a1, a2, a3⟩, -, a9⟩ := P.out
        have T300 : T.size ≤ 300 := by omega
        by_cases q : T.size ≤ k
        · have t3 : decide (T.size ≤ k) = true := decide_eq_true q
          have s2 : (({ data := #[48] } : ByteArray) ++ T).size = 1 + T.size := by rw [size_add']; rfl
          have l2 := Lib.hid (show (({ data := #[48] } : ByteArray) ++ T).data.toList = List.replicate (j + 1) 48 ++ Lib.decDigits c by rw [ByteArray.data_append, Array.toList_append, HT.out, List.replicate_succ]; rfl)
          obtain ⟨T2, hT2⟩ : ∃ T2, T2 = ({ data := #[48] } : ByteArray) ++ T := ⟨_, rfl⟩
          rw [← hT2] at s2 l2
          have e5 : ({ data := #[48] } : ByteArray) ++ T = T2 := hT2.symm
          have HQ := Lib.hid (And.intro q (And.intro sT s2))
          clear hT2 s2 q sT
          go_wp2
          go_roundg (k + 1 - (j + 1))
          case measure => rw [HG.out]; have := HQ.out; omega
          case rel => exact ⟨j + 1, T2, rfl, rfl, l2.out, by have := HQ.out; omega, by have := HQ.out; omega, P.out, B⟩
        · have t3 : decide (T.size ≤ k) = false := decide_eq_false q
          have jk : j = k + 1 - L := by omega
          obtain ⟨a, ha⟩ : ∃ a : Nat, a = T.size - k := ⟨_, rfl⟩
          have e5 : wrap64 ((T.size : Int) + x) = (a : Int) := by have := HX.out; unfold wrap64; omega
          have e6 : IntKind.i64.wrap ((T.size : Int) + x) = (a : Int) := by have := HX.out; rw [IntKind.wrap_i64]; omega
          have e7 : (T.size : Int) + x = (a : Int) := by have := HX.out; omega
          have a0 : a ≤ T.size := by omega
          have RES := Lib.hid (show T.extract 0 a ++ { data := #[46] } ++ T.extract a T.size = Z from by
            rw [cutL T a, HZ.out, HZE.out]
            have e : T.data.toList = ptD (Lib.decDigits c) k := by rw [HT.out]; unfold ptD; rw [← HE.out, jk]
            unfold ptL
            rw [← e, show T.data.toList.length - k = a by rw [ha]; rfl])
          have sx : (T.extract 0 a).size ≤ 300 := by rw [ByteArray.size_extract]; omega
          have sx2 : (T.extract 0 a ++ { data := #[46] }).size ≤ 301 := by rw [size_add']; exact Nat.add_le_add_right sx 1
          clear HG HT HE HLD HSL HX HZE q jk ha sT hj sD k40
          cases n
          · go_wp2
            go_region
            all_goals
              go_wp2
              go_ret
              exact ⟨by rw [show sgL false (sizeL c x) = sizeL c x from rfl, ← HZ.out, ← RES.out]; rfl, Below.drew B⟩
          · have R2 := RES.out
            go_wp2
            go_region
            all_goals
              go_wp2
              go_ret
              exact ⟨by rw [← sgL_str Z _ HZ.out]; rfl, Below.drew B⟩
    · obtain ⟨I, hI⟩ : ∃ I : ByteArray, I = ⟨(Lib.itoa x).toArray⟩ := ⟨_, rfl⟩
      have IT := Lib.hid (show ∀ w : World, Calls Tryd.prog 73 #[.int .i64 x] w (fun e w' => e = .returned (.string I) ∧ Below w.heap.size w w') from fun w => by rw [hI]; exact itoaR_any x (by omega) (by omega) w)
      have sI : I.size ≤ 35 := by rw [hI, size_list]; exact itoa_len (by omega) (by omega)
      have RES : D ++ { data := #[69] } ++ I = Z := by
        rw [hZ]
        unfold sizeL
        rw [if_neg x0, if_neg x1, hD, hI]
        apply ByteArray.ext
        rw [ByteArray.data_append, ByteArray.data_append]
        apply Array.ext'
        simp only [Array.toList_append]
        rw [List.append_assoc]
        rfl
      have sE : (D ++ { data := #[69] }).size ≤ 40 := by
        have : (D ++ ({ data := #[69] } : ByteArray)).size = D.size + 1 := by rw [size_add']; rfl
        omega
      obtain ⟨E, hE⟩ : ∃ E : ByteArray, E = D ++ { data := #[69] } := ⟨_, rfl⟩
      rw [← hE] at RES sE
      have e5 : D ++ { data := #[69] } = E := hE.symm
      have t0 : (x != 0) = true := by simpa using x0
      have t2 : (decide (x < 0) = true ∧ decide (-40 ≤ x) = false) ∨ (decide (x < 0) = false) := by
        by_cases q : x < 0
        · exact .inl ⟨decide_eq_true q, decide_eq_false (fun r => x1 ⟨r, q⟩)⟩
        · exact .inr (decide_eq_false q)
      clear hZ hD lD eL x0 x1 xb hI hE
      obtain ⟨⟨a1, a2, a3⟩, -, a9⟩ := P.out
      rcases t2 with ⟨t2, t3⟩ | t2
      all_goals
        go_wp2_with fail
        refine (IT.out _).mono ?_
        rintro e w2 ⟨rfl, hb⟩
        have P2 := Lib.hid (P.out.below hb)
        replace B := bstep B hb
        clear hb IT a1 a2 a3 a9 P
        obtain ⟨⟨a1, a2, a3⟩, -, a9⟩ := P2.out
        cases n
        · go_wp2
          go_ret
          exact ⟨by rw [show sgL false (sizeL c x) = sizeL c x from rfl, ← HZ.out]; rfl, B⟩
        · go_wp2
          go_ret
          exact ⟨by rw [← sgL_str Z _ HZ.out]; rfl, B⟩
end Go.Proofs.YtmelblnfjcbmjaaDoor

/-
  The statement NumeralTells, walked: it answers true, where the document's examples do.
-/
namespace Go.Proofs.YtmelblnfjcbmjaaDoor
open Go.RowKit

/-- What is asked of the document's examples. -/
def Aw5D : Prop := ∀ w : World, Tab w → Tab2 w → Calls Tryd.prog 25 #[] w (RetB true w)
theorem text_sgL {n : Bool} {c : Nat} {x : Int} (hz : c = 0 → n = false) : textL n c x = sgL n (sizeL c x) := by
  unfold textL sgn sgL
  by_cases z : c = 0
  · rw [if_pos z, if_neg (by decide), hz z]; rfl
  · rw [if_neg z]
    cases n <;> rfl
theorem text_len {n : Bool} {c : Nat} {x : Int} (h : NumD c x) : (textL n c x).length ≤ 201 := by
  have := size_len h
  unfold textL
  split
  · rw [List.length_cons]; omega
  · omega
theorem plain_some {l : List UInt8} {n : Bool} {c : Nat} {x : Int} (e : signL l = some (n, c, x)) (t : textL n c x = l) : plainL l = true := by
  unfold plainL
  rw [e]
  exact decide_eq_true t
theorem plain_text {n : Bool} {c : Nat} {x : Int} (h : NumD c x) (hz : c = 0 → n = false) : plainL (textL n c x) = true := by
  have e := sign_text h hz
  generalize hl : textL n c x = l at e
  exact plain_some e hl
set_option linter.unusedSimpArgs false in
set_option maxRecDepth 100000 in
set_option maxHeartbeats 8000000 in
theorem numeralTells_walk (AW : Aw5D) (n : Bool) (h l : Nat) (x : Int) (h0 : WW h l) (x1 : -9223372036854775808 ≤ x) (x2 : x ≤ 9223372036854775807) (w : World) (ht : Tab w) (ht2 : Tab2 w) :
    Calls Tryd.prog 6 #[Dv n h l x] w (RetB true w) := by
  have HT := Lib.hid (And.intro ht ht2)
  have AWH := Lib.hid AW
  have MK := Lib.hid (make_any n h l x h0 x1 x2)
  clear ht ht2 AW h0 x1 x2
  go_enter Tryd.func6, Tryd.ntmps6
  go_wp2_with fail
  refine (AWH.out _ (HT.out.1.below (by go_grown)) (HT.out.2.below (by go_grown))).mono ?_
  rintro e w1 ⟨rfl, hb⟩
  have P0 := Lib.hid ((show HoldsD _ w.heap.size n h l x from by simp [HoldsD, go_sem]).below hb)
  have B : Below w.heap.size w w1 := bstep (by go_grown) hb
  clear hb AWH
  obtain ⟨⟨a1, a2, a3, a4⟩, -, a9⟩ := P0.out
  go_wp2_with fail
  refine (MK.out _ (HT.out.1.below B)).mono ?_
  rintro e y1 ⟨na, ah, al, ea, N, rfl, hb⟩
  obtain ⟨hw, hn, hz⟩ := N
  obtain ⟨T, hT⟩ : ∃ T : ByteArray, T = ⟨(textL na (nv ah al) ea).toArray⟩ := ⟨_, rfl⟩
  have lT : T.data.toList = textL na (nv ah al) ea := by rw [hT]
  have sT : T.size ≤ 200000000000000 := by rw [hT, size_list]; exact Nat.le_trans (text_len hn) (by decide)
  have TX := Lib.hid (show ∀ w : World, Tab w → Tab2 w → Calls Tryd.prog 26 #[Dv na ah al ea] w (fun e w' => e = .returned (.string T) ∧ Below w.heap.size w w') from fun w a b => by rw [hT]; exact textN_any na ah al ea hw hn w a b)
  have SG0 := signed_any T sT
  rw [lT, sign_text hn hz] at SG0
  have SG := Lib.hid SG0
  have PL0 := plain_any T sT
  rw [lT, plain_text hn hz] at PL0
  have PL := Lib.hid PL0
  have RF := Lib.hid (ref_any na ah al ea hw)
  have RT := Lib.hid (show ∀ (v : Value) (w : World), Row w v (Dg.dg (nv ah al)) → Calls Tryd.prog 28 #[Fv na v ea] w (fun e w' => e = .returned (.string T) ∧ Below w.heap.size w w') from fun v w R => by rw [hT, text_sgL hz]; exact textR_any na v (nv ah al) ea hn w R)
  have HW := Lib.hid hw
  have P := Lib.hid (HoldsD.new4 rfl : HoldsD (y1.alloc (.cells #[.bool na, .int .u64 (ah : Int), .int .u64 (al : Int), .int .i64 ea] 28)) y1.heap.size na ah al ea)
  replace B := ballD1 (bstep B hb) (.cells #[.bool na, .int .u64 (ah : Int), .int .u64 (al : Int), .int .i64 ea] 28)
  clear hb MK a1 a2 a3 a4 a9 P0 hw hn hz hT lT sT SG0 PL0
  go_upto_region 4 with fail
  change Code.wp _ _ _ _ (y1.alloc (.cells #[.bool na, .int .u64 (ah : Int), .int .u64 (al : Int), .int .i64 ea] 28))
  generalize y1.alloc (.cells #[.bool na, .int .u64 (ah : Int), .int .u64 (al : Int), .int .i64 ea] 28) = V1 at *
  obtain ⟨g1, hg⟩ : ∃ g, g = y1.heap.size := ⟨_, rfl⟩
  rw [← hg] at P ⊢
  clear hg
  obtain ⟨⟨a1, a2, a3, a4⟩, -, a9⟩ := P.out
  go_wp2_with fail
  refine (TX.out _ (HT.out.1.below B) (HT.out.2.below B)).mono ?_
  rintro e y2 ⟨rfl, hb⟩
  replace P := Lib.hid (P.out.below hb)
  replace B := bstep B hb
  clear hb TX a1 a2 a3 a4 a9
  go_wp2_with fail
  refine (SG.out _ (HT.out.1.below B)).mono ?_
  rintro e y3 ⟨nb, bh, bl, eb, ok, N, rfl, hb⟩
  obtain ⟨hw', rfl, rfl, e3, rfl⟩ := N
  obtain ⟨rfl, rfl⟩ := nv_inj HW.out hw' e3.symm
  replace P := Lib.hid ((P.out.below hb).alloc (.cells #[.bool nb, .int .u64 (ah : Int), .int .u64 (al : Int), .int .i64 eb] 28))
  have P2 := Lib.hid (HoldsD.new4 rfl : HoldsD (y3.alloc (.cells #[.bool nb, .int .u64 (ah : Int), .int .u64 (al : Int), .int .i64 eb] 28)) y3.heap.size nb ah al eb)
  replace B := ballD1 (bstep B hb) (.cells #[.bool nb, .int .u64 (ah : Int), .int .u64 (al : Int), .int .i64 eb] 28)
  clear hb SG hw' e3 HW
  go_upto_region 6 with fail
  change Code.wp _ _ _ _ (y3.alloc (.cells #[.bool nb, .int .u64 (ah : Int), .int .u64 (al : Int), .int .i64 eb] 28))
  generalize y3.alloc (.cells #[.bool nb, .int .u64 (ah : Int), .int .u64 (al : Int), .int .i64 eb] 28) = V2 at *
  obtain ⟨g2, hg⟩ : ∃ g, g = y3.heap.size := ⟨_, rfl⟩
  rw [← hg] at P2 ⊢
  clear hg
  obtain ⟨⟨a1, a2, a3, a4⟩, -, a9⟩ := P.out
  go_wp2_with fail
  refine (RF.out _).mono ?_
  rintro e y4 ⟨n', v', x', ⟨rfl, rfl, R⟩, rfl, hb⟩
  obtain ⟨A, cap, rfl⟩ := slice_of R
  have HR := Lib.hid R
  replace P := Lib.hid (P.out.below hb)
  replace P2 := Lib.hid (P2.out.below hb)
  replace B := bstep B hb
  clear hb RF R a1 a2 a3 a4 a9
  go_wp2_with fail
  refine (RT.out _ _ HR.out).mono ?_
  rintro e y5 ⟨rfl, hb⟩
  replace P := Lib.hid (P.out.below hb)
  replace P2 := Lib.hid (P2.out.below hb)
  replace B := bstep B hb
  clear hb RT HR
  obtain ⟨⟨a1, a2, a3, a4⟩, -, a9⟩ := P.out
  obtain ⟨⟨b1, b2, b3, b4⟩, -, b9⟩ := P2.out
  go_wp2_with fail
  refine (PL.out _ (HT.out.1.below B) (HT.out.2.below B)).mono ?_
  rintro e y6 ⟨rfl, hb⟩
  replace B := bstep B hb
  clear hb PL a1 a2 a3 a4 a9 b1 b2 b3 b4 b9 P P2
  go_wp2
  go_ret
  exact ⟨rfl, B⟩
end Go.Proofs.YtmelblnfjcbmjaaDoor

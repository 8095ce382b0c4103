/-
  The document's texts of layer 9 (the reference's Itoa; wide, date, zone, time, some of the statements), each as a contract of its call.
-/
import Derived.Test.YthgondbiddncpaaDoorYb
import Derived.Test.YthgondbiddncpaaDoorYr
namespace Go.Proofs.YthgondbiddncpaaDoor
open Go.RowKit

theorem dg_20000 {c : Nat} (h : c < 10 ^ 200) : (Dg.dg c).length ≤ 20000 := Nat.le_trans (dg_small h) (by decide)
set_option linter.unusedSimpArgs false in
set_option linter.unusedVariables false in
set_option maxRecDepth 100000 in
set_option maxHeartbeats 4000000 in
theorem itoaR_any (x : Int) (h1 : -4611686018427387904 ≤ x) (h2 : x ≤ 4611686018427387904) (w : World) : Calls Tryd.prog 41 #[.int .i64 x] w (Ret (.string (itS x)) w) := by
  obtain ⟨c, hc⟩ : ∃ c : Nat, c = x.natAbs := ⟨_, rfl⟩
  have c5 : c < 18446744073709551616 := by omega
  have C0 := words_any w.heap.size [c] 1 (Nat.le_of_ble_eq_true rfl) (by intro y hy; rw [List.mem_singleton.1 hy]; omega) (w.alloc (.cells #[.int .u64 (c : Int)] 80)) (by simp) (by
    intro k hk
    have : k = 0 := by simp at hk; omega
    subst this
    simp [go_sem])
  rw [wv1] at C0
  have C := Lib.hid C0
  have TX := Lib.hid (fun (v : Value) (w : World) (R : Row w v (Dg.dg c)) => rtext_any v c (dg_20000 (Nat.lt_trans c5 (by decide))) w R)
  obtain ⟨D, hD⟩ : ∃ D : ByteArray, D = ⟨(Lib.decDigits c).toArray⟩ := ⟨_, rfl⟩
  have TX2 := Lib.hid (show ∀ (v : Value) (w : World), Row w v (Dg.dg c) → Calls Tryd.prog 61 #[v] w (fun e w' => e = .returned (.string D) ∧ Below w.heap.size w w') from fun v w R => by rw [hD]; exact TX.out v w R)
  have sD : D.size ≤ 34 := by rw [hD]; exact Nat.le_trans (Nat.le_of_eq (by simp [ByteArray.size])) (dec_len (Nat.lt_trans c5 (by decide)))
  obtain ⟨ci, hci⟩ : ∃ i : Int, i = (c : Int) := ⟨_, rfl⟩
  rw [← hci] at C
  by_cases k : x < 0
  · have t1 : decide (x < 0) = true := decide_eq_true k
    have e1 : wrap64 (-x) = ci := by unfold wrap64; omega
    have e1' : IntKind.i64.wrap (-x) = ci := by rw [IntKind.wrap_i64]; omega
    have e2 : IntKind.u64.wrap ci = ci := by rw [IntKind.wrap_u64]; omega
    have e3 : -x = ci := by omega
    have e4 : wrap64 ci = ci := by unfold wrap64; omega
    have RES := Lib.hid (show ({ data := #[45] } : ByteArray) ++ D = itS x from by
      unfold itS Lib.itoa
      rw [if_pos k, ← hc, hD]
      exact str_append [45] _)
    clear k hc c5 C0 TX hD h1 h2 hci
    go_enter Tryd.func41, Tryd.ntmps41
    go_wp2_with fail
    refine (C.out).mono ?_
    rintro e w1 ⟨v, rfl, R, hb1⟩
    obtain ⟨A, cap, rfl⟩ := slice_of R
    have HR := Lib.hid R
    have B : Below w.heap.size w w1 := bstep (by go_grown) hb1
    clear R hb1 C
    go_wp2_with fail
    refine (TX2.out _ _ HR.out).mono ?_
    rintro e w2 ⟨rfl, hb⟩
    replace B := bstep B hb
    clear hb TX2 HR
    go_wp2
    go_ret
    exact ⟨by rw [← RES.out]; rfl, B⟩
  · have t1 : decide (x < 0) = false := decide_eq_false k
    have e2 : IntKind.u64.wrap x = ci := by rw [IntKind.wrap_u64]; omega
    have RES := Lib.hid (show D = itS x from by
      unfold itS Lib.itoa
      rw [if_neg k, hD, show c = x.toNat by omega])
    clear k hc c5 C0 TX hD h1 h2 hci
    go_enter Tryd.func41, Tryd.ntmps41
    go_wp2_with fail
    refine (C.out).mono ?_
    rintro e w1 ⟨v, rfl, R, hb1⟩
    obtain ⟨A, cap, rfl⟩ := slice_of R
    have HR := Lib.hid R
    have B : Below w.heap.size w w1 := bstep (by go_grown) hb1
    clear R hb1 C
    go_wp2_with fail
    refine (TX2.out _ _ HR.out).mono ?_
    rintro e w2 ⟨rfl, hb⟩
    replace B := bstep B hb
    clear hb TX2 HR
    go_wp2
    go_ret
    exact ⟨by rw [← RES.out]; rfl, B⟩

set_option linter.unusedSimpArgs false in
set_option linter.unusedVariables false in
set_option maxRecDepth 100000 in
set_option maxHeartbeats 4000000 in
theorem wide_any (x : Int) (h1 : -4611686018427387904 ≤ x) (h2 : x ≤ 4611686018427387904) (k : Nat) (ki : Int) (hk : ki = (k : Int)) (k6 : k ≤ 65) (w : World) : Calls Tryd.prog 34 #[.int .i64 x, .int .i64 ki] w (Ret (.string (padS x k)) w) := by
  have IT0 := itoaR_any x h1 h2
  obtain ⟨D, hD⟩ : ∃ D, D = itS x := ⟨_, rfl⟩
  rw [← hD] at IT0
  have sD : D.size ≤ 35 := by rw [hD]; exact it_size (by unfold I64; omega)
  have lD : D.data.toList = Lib.itoa x := by rw [hD]; rfl
  have IT := Lib.hid IT0
  obtain ⟨n, hn⟩ : ∃ n, n = D.size := ⟨_, rfl⟩
  have HL := Lib.hid lD
  have HN := Lib.hid hn
  have RES := Lib.hid (show ∀ T : ByteArray, T.data.toList = List.replicate (k - n) 48 ++ Lib.itoa x → T = padS x k from fun T h => by
    apply ByteArray.ext
    apply Array.ext'
    rw [h]
    unfold padS padL
    rw [hn, hD]
    unfold itS
    rw [size_list])
  rw [← hn] at sD
  clear IT0 hD lD hn h1 h2
  go_enter Tryd.func34, Tryd.ntmps34
  go_wp2_with fail
  refine (IT.out _).mono ?_
  rintro e w1 ⟨rfl, hb⟩
  have B : Below w.heap.size w w1 := bstep (by go_grown) hb
  clear hb IT
  go_wp2
  go_loopg [5] (k + 1) (fun gk sv W => ∃ (j : Nat) (T : ByteArray), gk = k + 1 - j ∧ sv = .string T ∧ T.data.toList = List.replicate j 48 ++ Lib.itoa x ∧ T.size = j + n ∧ j ≤ k - n ∧ Below w.heap.size w W)
  case atStart => exact ⟨0, D, rfl, rfl, by rw [HL.out]; rfl, by rw [HN.out, Nat.zero_add], Nat.zero_le _, B⟩
  case round =>
    clear B
    obtain ⟨j, T, hg, rfl, hT, sT, hj, B⟩ := hrel
    have HT := Lib.hid hT
    have HG := Lib.hid hg
    clear hT hg
    have T300 : T.size ≤ 300 := by omega
    by_cases q : T.size < k
    · have t3 : decide ((T.size : Int) < ki) = true := decide_eq_true (by omega)
      have t3' : decide (T.size < k) = true := decide_eq_true q
      have s2 : (({ data := #[48] } : ByteArray) ++ T).size = 1 + T.size := by rw [size_add']; rfl
      have l2 := Lib.hid (show (({ data := #[48] } : ByteArray) ++ T).data.toList = List.replicate (j + 1) 48 ++ Lib.itoa x by rw [ByteArray.data_append, Array.toList_append, HT.out, List.replicate_succ]; rfl)
      obtain ⟨T2, hT2⟩ : ∃ T2, T2 = ({ data := #[48] } : ByteArray) ++ T := ⟨_, rfl⟩
      rw [← hT2] at s2 l2
      have e5 : ({ data := #[48] } : ByteArray) ++ T = T2 := hT2.symm
      have HQ := Lib.hid (And.intro q (And.intro sT (And.intro s2 k6)))
      clear hT2 s2 q sT
      go_wp2
      go_roundg (k + 1 - (j + 1))
      case measure => rw [HG.out]; have := HQ.out; omega
      case rel => exact ⟨j + 1, T2, rfl, rfl, l2.out, by have := HQ.out; omega, by have := HQ.out; omega, B⟩
    · have t3 : decide ((T.size : Int) < ki) = false := decide_eq_false (by omega)
      have t3' : decide (T.size < k) = false := decide_eq_false q
      have R2 := Lib.hid (RES.out T (by rw [HT.out, show j = k - n by omega]))
      clear HT HG RES q sT hj
      go_wp2
      go_ret
      exact ⟨congrArg (fun z => Ending.returned (.string z)) R2.out, B⟩
set_option linter.unusedSimpArgs false in
set_option linter.unusedVariables false in
set_option maxRecDepth 100000 in
set_option maxHeartbeats 4000000 in
theorem dateR_any (y m d : Int) (h : mayT y m d = true) (w : World) : Calls Tryd.prog 11 #[Dt y m d] w (Ret (.string (dateS y m d)) w) := by
  obtain ⟨y1, y2, m1, m2, d1, d2⟩ := day_lims h
  have a0 := abs_nonneg y
  have a1 := abs_le (m := 999999999) y1 y2
  obtain ⟨G, hG⟩ : ∃ zz : ByteArray, zz = sgS y := ⟨_, rfl⟩
  have sG : G.size ≤ 1 := by rw [hG]; exact sg_size y
  obtain ⟨P, hP⟩ : ∃ zz : ByteArray, zz = padS (absI y) 4 := ⟨_, rfl⟩
  have sP : P.size ≤ 100 := by rw [hP]; exact pad_size (by unfold I64; omega) (by decide)
  obtain ⟨Q, hQ⟩ : ∃ zz : ByteArray, zz = padS (m) 2 := ⟨_, rfl⟩
  have sQ : Q.size ≤ 100 := by rw [hQ]; exact pad_size (by unfold I64; omega) (by decide)
  obtain ⟨R, hR⟩ : ∃ zz : ByteArray, zz = padS (d) 2 := ⟨_, rfl⟩
  have sR : R.size ≤ 100 := by rw [hR]; exact pad_size (by unfold I64; omega) (by decide)
  have CP := Lib.hid (show ∀ w, Calls Tryd.prog 34 #[.int .i64 (absI y), .int .i64 4] w (Ret (.string P) w) from fun w => by rw [hP]; exact wide_any (absI y) (by omega) (by omega) 4 4 rfl (by decide) w)
  have CQ := Lib.hid (show ∀ w, Calls Tryd.prog 34 #[.int .i64 m, .int .i64 2] w (Ret (.string Q) w) from fun w => by rw [hQ]; exact wide_any (m) (by omega) (by omega) 2 2 rfl (by decide) w)
  have CR := Lib.hid (show ∀ w, Calls Tryd.prog 34 #[.int .i64 d, .int .i64 2] w (Ret (.string R) w) from fun w => by rw [hR]; exact wide_any (d) (by omega) (by omega) 2 2 rfl (by decide) w)
  obtain ⟨u1, eu1⟩ : ∃ zz : ByteArray, G ++ P = zz := ⟨_, rfl⟩
  have su1 : u1.size ≤ 101 := by rw [← eu1]; exact size_le (a := 1) (b := 100) sG sP (by decide)
  obtain ⟨u2, eu2⟩ : ∃ zz : ByteArray, u1 ++ ({ data := #[45] } : ByteArray) = zz := ⟨_, rfl⟩
  have su2 : u2.size ≤ 102 := by rw [← eu2]; exact size_le (a := 101) (b := 1) su1 (by decide) (by decide)
  obtain ⟨u3, eu3⟩ : ∃ zz : ByteArray, u2 ++ Q = zz := ⟨_, rfl⟩
  have su3 : u3.size ≤ 202 := by rw [← eu3]; exact size_le (a := 102) (b := 100) su2 sQ (by decide)
  obtain ⟨u4, eu4⟩ : ∃ zz : ByteArray, u3 ++ ({ data := #[45] } : ByteArray) = zz := ⟨_, rfl⟩
  have su4 : u4.size ≤ 203 := by rw [← eu4]; exact size_le (a := 202) (b := 1) su3 (by decide) (by decide)
  obtain ⟨u5, eu5⟩ : ∃ zz : ByteArray, u4 ++ R = zz := ⟨_, rfl⟩
  have su5 : u5.size ≤ 303 := by rw [← eu5]; exact size_le (a := 203) (b := 100) su4 sR (by decide)
  have RES := Lib.hid (show u5 = dateS y m d from by rw [← eu5, ← eu4, ← eu3, ← eu2, ← eu1, hG, hP, hQ, hR]; rfl)
  have SG : (decide (y < 0) = true ∧ wrap64 (-y) = absI y ∧ IntKind.i64.wrap (-y) = absI y ∧ G = { data := #[45] }) ∨ (decide (y < 0) = false ∧ y = absI y ∧ G = { data := #[] }) := by
    rw [hG]
    unfold sgS absI
    by_cases k : y < 0
    · rw [if_pos k, if_pos k]; exact .inl ⟨decide_eq_true k, by unfold wrap64; omega, by rw [IntKind.wrap_i64]; omega, rfl⟩
    · rw [if_neg k, if_neg k]; exact .inr ⟨decide_eq_false k, rfl, rfl⟩
  clear hG hP hQ hR h y1 y2 m1 m2 d1 d2 a0 a1
  generalize hx : absI y = x at *
  clear hx
  rcases SG with ⟨t1, f1, f2, rfl⟩ | ⟨t1, rfl, rfl⟩
  · go_enter Tryd.func11, Tryd.ntmps11
    go_upto_region 1 with fail
    have PT := Lib.hid (HoldsT.new rfl : HoldsT (w.alloc (DtC y m d)) w.heap.size y m d)
    have B := ballD1 (Below.refl w.heap.size w) (DtC y m d)
    change Code.wp _ _ _ _ (w.alloc (DtC y m d))
    generalize (w.alloc (DtC y m d)) = w0 at *
    obtain ⟨⟨c0_0, c0_1, c0_2⟩, -, c0z⟩ := PT.out
    go_upto_region 6 with fail
    clear c0_0 c0_1 c0_2 c0z
    generalize w0 = V at *
    refine wp_region_held_drew (S := fun w' => w'.cell? ⟨w.heap.size, 0, none⟩ = some (.int .i64 y) ∧ w'.cell? ⟨w.heap.size, 1, none⟩ = some (.int .i64 m) ∧ w'.cell? ⟨w.heap.size, 2, none⟩ = some (.int .i64 d) ∧ Below V.heap.size V w') (by kernel_rfl) ?_ (fun hHeld => ?_)
    · exact keepT9 PT.out (Below.refl _ _).drew
    refine wpAnyH_take (i := 0) (oi := { dst := some 11, op := Go.Op.move (Go.Operand.tmp 3), type := 9, pos := "law.go:40", after := #[], guard := none }) (v := ?_) rfl (by kernel_rfl) (by kernel_rfl) (by kernel_rfl) (fun _ _ _ h => h) (Or.inl ⟨by rfl, ?_⟩) (by assumption) ?_
    rotate_left
    · intro w hSw
      try dsimp only at hSw
      go_simp
      try (rw [if_neg (by omega)])
      try with_reducible rfl
    try simp only [Act.put, List.setIfInBounds_toArray, List.set_cons_zero, List.set_cons_succ]
    refine wpAnyH_take (i := 1) (oi := { dst := some 12, op := Go.Op.move (Go.Operand.tmp 4), type := 3, pos := "law.go:40", after := #[], guard := none }) (v := ?_) rfl (by kernel_rfl) (by kernel_rfl) (by kernel_rfl) (fun _ _ _ h => h) (Or.inl ⟨by rfl, ?_⟩) (by assumption) ?_
    rotate_left
    · intro w hSw
      try dsimp only at hSw
      go_simp
      try (rw [if_neg (by omega)])
      try with_reducible rfl
    try simp only [Act.put, List.setIfInBounds_toArray, List.set_cons_zero, List.set_cons_succ]
    refine wpAnyH_take (i := 5) (oi := { dst := some 16, op := Go.Op.fieldAddr 26 (Go.Operand.tmp 1) 1, type := 0, pos := "law.go:40", after := #[], guard := none }) (v := ?_) rfl (by kernel_rfl) (by kernel_rfl) (by kernel_rfl) (fun _ _ _ h => h) (Or.inl ⟨by rfl, ?_⟩) (by assumption) ?_
    rotate_left
    · intro w hSw
      try dsimp only at hSw
      go_simp
      try (rw [if_neg (by omega)])
      try with_reducible rfl
    try simp only [Act.put, List.setIfInBounds_toArray, List.set_cons_zero, List.set_cons_succ]
    refine wpAnyH_take (i := 10) (oi := { dst := some 21, op := Go.Op.fieldAddr 26 (Go.Operand.tmp 1) 2, type := 0, pos := "law.go:40", after := #[], guard := none }) (v := ?_) rfl (by kernel_rfl) (by kernel_rfl) (by kernel_rfl) (fun _ _ _ h => h) (Or.inl ⟨by rfl, ?_⟩) (by assumption) ?_
    rotate_left
    · intro w hSw
      try dsimp only at hSw
      go_simp
      try (rw [if_neg (by omega)])
      try with_reducible rfl
    try simp only [Act.put, List.setIfInBounds_toArray, List.set_cons_zero, List.set_cons_succ]
    refine wpAnyH_take (i := 6) (oi := { dst := some 17, op := Go.Op.load 3 (Go.Operand.tmp 16), type := 3, pos := "law.go:40", after := #[{ on := 5, ground := Go.Ground.data }], guard := none }) (v := ?_) rfl (by kernel_rfl) (by kernel_rfl) (by kernel_rfl) (fun _ _ _ h => h) (Or.inl ⟨by rfl, ?_⟩) (by assumption) ?_
    rotate_left
    · intro w hSw
      try dsimp only at hSw
      go_simp
      try (rw [if_neg (by omega)])
      try with_reducible rfl
    try simp only [Act.put, List.setIfInBounds_toArray, List.set_cons_zero, List.set_cons_succ]
    refine wpAnyH_take (i := 11) (oi := { dst := some 22, op := Go.Op.load 3 (Go.Operand.tmp 21), type := 3, pos := "law.go:40", after := #[{ on := 10, ground := Go.Ground.data }], guard := none }) (v := ?_) rfl (by kernel_rfl) (by kernel_rfl) (by kernel_rfl) (fun _ _ _ h => h) (Or.inl ⟨by rfl, ?_⟩) (by assumption) ?_
    rotate_left
    · intro w hSw
      try dsimp only at hSw
      go_simp
      try (rw [if_neg (by omega)])
      try with_reducible rfl
    try simp only [Act.put, List.setIfInBounds_toArray, List.set_cons_zero, List.set_cons_succ]
    refine wpAnyH_ready (rs := [2]) (by kernel_rfl) (by simp) ?_
    refine AllReadyH.cons (o := { dst := some 13, op := Go.Op.call { callee := Go.Callee.value (Go.Operand.func 34), args := #[Go.Operand.tmp 12, Go.Operand.const (Go.Value.int Go.IntKind.i64 4)], argTypes := #[3, 3] }, type := 9, pos := "law.go:40", after := #[{ on := 1, ground := Go.Ground.data }], guard := none }) rfl (fun K hK => ?_) AllReadyH.nil
    go_simp
    refine (CP.out _).mono ?_
    rintro e v1 ⟨rfl, hb1⟩
    have HBx := Lib.hid (bstep hHeld.2.2.2 hb1)
    clear hHeld hb1
    refine hK.out _ _ ?_ (fun hHeld => ?_)
    · exact keepT9 PT.out HBx.out
    clear hK K HBx
    try simp only [Act.put, List.setIfInBounds_toArray, List.set_cons_zero, List.set_cons_succ]
    refine wpAnyH_take (i := 3) (oi := { dst := some 14, op := Go.Op.binOp Go.BinOp.add 9 (Go.Operand.tmp 11) (Go.Operand.tmp 13) 9, type := 9, pos := "law.go:40", after := #[{ on := 0, ground := Go.Ground.data }, { on := 2, ground := Go.Ground.data }], guard := none }) (v := ?_) rfl (by kernel_rfl) (by kernel_rfl) (by kernel_rfl) (fun _ _ _ h => h) (Or.inl ⟨by rfl, ?_⟩) (by assumption) ?_
    rotate_left
    · intro w hSw
      try dsimp only at hSw
      go_simp
      try (rw [if_neg (by omega)])
      try with_reducible rfl
    try simp only [Act.put, List.setIfInBounds_toArray, List.set_cons_zero, List.set_cons_succ]
    refine wpAnyH_take (i := 4) (oi := { dst := some 15, op := Go.Op.binOp Go.BinOp.add 9 (Go.Operand.tmp 14) (Go.Operand.const (Go.Value.string { data := #[45] })) 9, type := 9, pos := "law.go:40", after := #[{ on := 3, ground := Go.Ground.data }], guard := none }) (v := ?_) rfl (by kernel_rfl) (by kernel_rfl) (by kernel_rfl) (fun _ _ _ h => h) (Or.inl ⟨by rfl, ?_⟩) (by assumption) ?_
    rotate_left
    · intro w hSw
      try dsimp only at hSw
      go_simp
      try (rw [if_neg (by omega)])
      try with_reducible rfl
    try simp only [Act.put, List.setIfInBounds_toArray, List.set_cons_zero, List.set_cons_succ]
    refine wpAnyH_ready (rs := [7]) (by kernel_rfl) (by simp) ?_
    refine AllReadyH.cons (o := { dst := some 18, op := Go.Op.call { callee := Go.Callee.value (Go.Operand.func 34), args := #[Go.Operand.tmp 17, Go.Operand.const (Go.Value.int Go.IntKind.i64 2)], argTypes := #[3, 3] }, type := 9, pos := "law.go:40", after := #[{ on := 6, ground := Go.Ground.data }, { on := 2, ground := Go.Ground.chain }], guard := none }) rfl (fun K hK => ?_) AllReadyH.nil
    go_simp
    refine (CQ.out _).mono ?_
    rintro e v2 ⟨rfl, hb2⟩
    have HBx := Lib.hid (bstep hHeld.2.2.2 hb2)
    clear hHeld hb2
    refine hK.out _ _ ?_ (fun hHeld => ?_)
    · exact keepT9 PT.out HBx.out
    clear hK K HBx
    try simp only [Act.put, List.setIfInBounds_toArray, List.set_cons_zero, List.set_cons_succ]
    refine wpAnyH_take (i := 8) (oi := { dst := some 19, op := Go.Op.binOp Go.BinOp.add 9 (Go.Operand.tmp 15) (Go.Operand.tmp 18) 9, type := 9, pos := "law.go:40", after := #[{ on := 4, ground := Go.Ground.data }, { on := 7, ground := Go.Ground.data }], guard := none }) (v := ?_) rfl (by kernel_rfl) (by kernel_rfl) (by kernel_rfl) (fun _ _ _ h => h) (Or.inl ⟨by rfl, ?_⟩) (by assumption) ?_
    rotate_left
    · intro w hSw
      try dsimp only at hSw
      go_simp
      try (rw [if_neg (by omega)])
      try with_reducible rfl
    try simp only [Act.put, List.setIfInBounds_toArray, List.set_cons_zero, List.set_cons_succ]
    refine wpAnyH_take (i := 9) (oi := { dst := some 20, op := Go.Op.binOp Go.BinOp.add 9 (Go.Operand.tmp 19) (Go.Operand.const (Go.Value.string { data := #[45] })) 9, type := 9, pos := "law.go:40", after := #[{ on := 8, ground := Go.Ground.data }], guard := none }) (v := ?_) rfl (by kernel_rfl) (by kernel_rfl) (by kernel_rfl) (fun _ _ _ h => h) (Or.inl ⟨by rfl, ?_⟩) (by assumption) ?_
    rotate_left
    · intro w hSw
      try dsimp only at hSw
      go_simp
      try (rw [if_neg (by omega)])
      try with_reducible rfl
    try simp only [Act.put, List.setIfInBounds_toArray, List.set_cons_zero, List.set_cons_succ]
    refine wpAnyH_ready (rs := [12]) (by kernel_rfl) (by simp) ?_
    refine AllReadyH.cons (o := { dst := some 23, op := Go.Op.call { callee := Go.Callee.value (Go.Operand.func 34), args := #[Go.Operand.tmp 22, Go.Operand.const (Go.Value.int Go.IntKind.i64 2)], argTypes := #[3, 3] }, type := 9, pos := "law.go:40", after := #[{ on := 11, ground := Go.Ground.data }, { on := 7, ground := Go.Ground.chain }], guard := none }) rfl (fun K hK => ?_) AllReadyH.nil
    go_simp
    refine (CR.out _).mono ?_
    rintro e v3 ⟨rfl, hb3⟩
    have HBx := Lib.hid (bstep hHeld.2.2.2 hb3)
    clear hHeld hb3
    refine hK.out _ _ ?_ (fun hHeld => ?_)
    · exact keepT9 PT.out HBx.out
    clear hK K HBx
    try simp only [Act.put, List.setIfInBounds_toArray, List.set_cons_zero, List.set_cons_succ]
    refine wpAnyH_take (i := 13) (oi := { dst := some 24, op := Go.Op.binOp Go.BinOp.add 9 (Go.Operand.tmp 20) (Go.Operand.tmp 23) 9, type := 9, pos := "law.go:40", after := #[{ on := 9, ground := Go.Ground.data }, { on := 12, ground := Go.Ground.data }], guard := none }) (v := ?_) rfl (by kernel_rfl) (by kernel_rfl) (by kernel_rfl) (fun _ _ _ h => h) (Or.inl ⟨by rfl, ?_⟩) (by assumption) ?_
    rotate_left
    · intro w hSw
      try dsimp only at hSw
      go_simp
      try (rw [if_neg (by omega)])
      try with_reducible rfl
    try simp only [Act.put, List.setIfInBounds_toArray, List.set_cons_zero, List.set_cons_succ]
    refine wpAnyH_take (i := 14) (oi := { dst := some 2, op := Go.Op.assign (Go.Operand.tmp 24), type := 9, pos := "law.go:40", after := #[{ on := 13, ground := Go.Ground.data }, { on := 12, ground := Go.Ground.chain }, { on := 0, ground := Go.Ground.phase }, { on := 1, ground := Go.Ground.phase }, { on := 2, ground := Go.Ground.phase }, { on := 3, ground := Go.Ground.phase }, { on := 4, ground := Go.Ground.phase }, { on := 5, ground := Go.Ground.phase }, { on := 6, ground := Go.Ground.phase }, { on := 7, ground := Go.Ground.phase }, { on := 8, ground := Go.Ground.phase }, { on := 9, ground := Go.Ground.phase }, { on := 10, ground := Go.Ground.phase }, { on := 11, ground := Go.Ground.phase }, { on := 12, ground := Go.Ground.phase }, { on := 13, ground := Go.Ground.phase }], guard := none }) (v := ?_) rfl (by kernel_rfl) (by kernel_rfl) (by kernel_rfl) (fun _ _ _ h => h) (Or.inl ⟨by rfl, ?_⟩) (by assumption) ?_
    rotate_left
    · intro w hSw
      try dsimp only at hSw
      go_simp
      try (rw [if_neg (by omega)])
      try with_reducible rfl
    try simp only [Act.put, List.setIfInBounds_toArray, List.set_cons_zero, List.set_cons_succ]
    refine wpAnyH_done (by kernel_rfl) ?_ _
    replace B := bstep B hHeld.2.2.2
    go_wp2
    go_ret
    exact ⟨congrArg (fun z => Ending.returned (.string z)) RES.out, B⟩
  · go_enter Tryd.func11, Tryd.ntmps11
    go_upto_region 1 with fail
    have PT := Lib.hid (HoldsT.new rfl : HoldsT (w.alloc (DtC y m d)) w.heap.size y m d)
    have B := ballD1 (Below.refl w.heap.size w) (DtC y m d)
    change Code.wp _ _ _ _ (w.alloc (DtC y m d))
    generalize (w.alloc (DtC y m d)) = w0 at *
    obtain ⟨⟨c0_0, c0_1, c0_2⟩, -, c0z⟩ := PT.out
    go_upto_region 6 with fail
    clear c0_0 c0_1 c0_2 c0z
    generalize w0 = V at *
    refine wp_region_held_drew (S := fun w' => w'.cell? ⟨w.heap.size, 0, none⟩ = some (.int .i64 y) ∧ w'.cell? ⟨w.heap.size, 1, none⟩ = some (.int .i64 m) ∧ w'.cell? ⟨w.heap.size, 2, none⟩ = some (.int .i64 d) ∧ Below V.heap.size V w') (by kernel_rfl) ?_ (fun hHeld => ?_)
    · exact keepT9 PT.out (Below.refl _ _).drew
    refine wpAnyH_take (i := 0) (oi := { dst := some 11, op := Go.Op.move (Go.Operand.tmp 3), type := 9, pos := "law.go:40", after := #[], guard := none }) (v := ?_) rfl (by kernel_rfl) (by kernel_rfl) (by kernel_rfl) (fun _ _ _ h => h) (Or.inl ⟨by rfl, ?_⟩) (by assumption) ?_
    rotate_left
    · intro w hSw
      try dsimp only at hSw
      go_simp
      try (rw [if_neg (by omega)])
      try with_reducible rfl
    try simp only [Act.put, List.setIfInBounds_toArray, List.set_cons_zero, List.set_cons_succ]
    refine wpAnyH_take (i := 1) (oi := { dst := some 12, op := Go.Op.move (Go.Operand.tmp 4), type := 3, pos := "law.go:40", after := #[], guard := none }) (v := ?_) rfl (by kernel_rfl) (by kernel_rfl) (by kernel_rfl) (fun _ _ _ h => h) (Or.inl ⟨by rfl, ?_⟩) (by assumption) ?_
    rotate_left
    · intro w hSw
      try dsimp only at hSw
      go_simp
      try (rw [if_neg (by omega)])
      try with_reducible rfl
    try simp only [Act.put, List.setIfInBounds_toArray, List.set_cons_zero, List.set_cons_succ]
    refine wpAnyH_take (i := 5) (oi := { dst := some 16, op := Go.Op.fieldAddr 26 (Go.Operand.tmp 1) 1, type := 0, pos := "law.go:40", after := #[], guard := none }) (v := ?_) rfl (by kernel_rfl) (by kernel_rfl) (by kernel_rfl) (fun _ _ _ h => h) (Or.inl ⟨by rfl, ?_⟩) (by assumption) ?_
    rotate_left
    · intro w hSw
      try dsimp only at hSw
      go_simp
      try (rw [if_neg (by omega)])
      try with_reducible rfl
    try simp only [Act.put, List.setIfInBounds_toArray, List.set_cons_zero, List.set_cons_succ]
    refine wpAnyH_take (i := 10) (oi := { dst := some 21, op := Go.Op.fieldAddr 26 (Go.Operand.tmp 1) 2, type := 0, pos := "law.go:40", after := #[], guard := none }) (v := ?_) rfl (by kernel_rfl) (by kernel_rfl) (by kernel_rfl) (fun _ _ _ h => h) (Or.inl ⟨by rfl, ?_⟩) (by assumption) ?_
    rotate_left
    · intro w hSw
      try dsimp only at hSw
      go_simp
      try (rw [if_neg (by omega)])
      try with_reducible rfl
    try simp only [Act.put, List.setIfInBounds_toArray, List.set_cons_zero, List.set_cons_succ]
    refine wpAnyH_take (i := 6) (oi := { dst := some 17, op := Go.Op.load 3 (Go.Operand.tmp 16), type := 3, pos := "law.go:40", after := #[{ on := 5, ground := Go.Ground.data }], guard := none }) (v := ?_) rfl (by kernel_rfl) (by kernel_rfl) (by kernel_rfl) (fun _ _ _ h => h) (Or.inl ⟨by rfl, ?_⟩) (by assumption) ?_
    rotate_left
    · intro w hSw
      try dsimp only at hSw
      go_simp
      try (rw [if_neg (by omega)])
      try with_reducible rfl
    try simp only [Act.put, List.setIfInBounds_toArray, List.set_cons_zero, List.set_cons_succ]
    refine wpAnyH_take (i := 11) (oi := { dst := some 22, op := Go.Op.load 3 (Go.Operand.tmp 21), type := 3, pos := "law.go:40", after := #[{ on := 10, ground := Go.Ground.data }], guard := none }) (v := ?_) rfl (by kernel_rfl) (by kernel_rfl) (by kernel_rfl) (fun _ _ _ h => h) (Or.inl ⟨by rfl, ?_⟩) (by assumption) ?_
    rotate_left
    · intro w hSw
      try dsimp only at hSw
      go_simp
      try (rw [if_neg (by omega)])
      try with_reducible rfl
    try simp only [Act.put, List.setIfInBounds_toArray, List.set_cons_zero, List.set_cons_succ]
    refine wpAnyH_ready (rs := [2]) (by kernel_rfl) (by simp) ?_
    refine AllReadyH.cons (o := { dst := some 13, op := Go.Op.call { callee := Go.Callee.value (Go.Operand.func 34), args := #[Go.Operand.tmp 12, Go.Operand.const (Go.Value.int Go.IntKind.i64 4)], argTypes := #[3, 3] }, type := 9, pos := "law.go:40", after := #[{ on := 1, ground := Go.Ground.data }], guard := none }) rfl (fun K hK => ?_) AllReadyH.nil
    go_simp
    refine (CP.out _).mono ?_
    rintro e v1 ⟨rfl, hb1⟩
    have HBx := Lib.hid (bstep hHeld.2.2.2 hb1)
    clear hHeld hb1
    refine hK.out _ _ ?_ (fun hHeld => ?_)
    · exact keepT9 PT.out HBx.out
    clear hK K HBx
    try simp only [Act.put, List.setIfInBounds_toArray, List.set_cons_zero, List.set_cons_succ]
    refine wpAnyH_take (i := 3) (oi := { dst := some 14, op := Go.Op.binOp Go.BinOp.add 9 (Go.Operand.tmp 11) (Go.Operand.tmp 13) 9, type := 9, pos := "law.go:40", after := #[{ on := 0, ground := Go.Ground.data }, { on := 2, ground := Go.Ground.data }], guard := none }) (v := ?_) rfl (by kernel_rfl) (by kernel_rfl) (by kernel_rfl) (fun _ _ _ h => h) (Or.inl ⟨by rfl, ?_⟩) (by assumption) ?_
    rotate_left
    · intro w hSw
      try dsimp only at hSw
      go_simp
      try (rw [if_neg (by omega)])
      try with_reducible rfl
    try simp only [Act.put, List.setIfInBounds_toArray, List.set_cons_zero, List.set_cons_succ]
    refine wpAnyH_take (i := 4) (oi := { dst := some 15, op := Go.Op.binOp Go.BinOp.add 9 (Go.Operand.tmp 14) (Go.Operand.const (Go.Value.string { data := #[45] })) 9, type := 9, pos := "law.go:40", after := #[{ on := 3, ground := Go.Ground.data }], guard := none }) (v := ?_) rfl (by kernel_rfl) (by kernel_rfl) (by kernel_rfl) (fun _ _ _ h => h) (Or.inl ⟨by rfl, ?_⟩) (by assumption) ?_
    rotate_left
    · intro w hSw
      try dsimp only at hSw
      go_simp
      try (rw [if_neg (by omega)])
      try with_reducible rfl
    try simp only [Act.put, List.setIfInBounds_toArray, List.set_cons_zero, List.set_cons_succ]
    refine wpAnyH_ready (rs := [7]) (by kernel_rfl) (by simp) ?_
    refine AllReadyH.cons (o := { dst := some 18, op := Go.Op.call { callee := Go.Callee.value (Go.Operand.func 34), args := #[Go.Operand.tmp 17, Go.Operand.const (Go.Value.int Go.IntKind.i64 2)], argTypes := #[3, 3] }, type := 9, pos := "law.go:40", after := #[{ on := 6, ground := Go.Ground.data }, { on := 2, ground := Go.Ground.chain }], guard := none }) rfl (fun K hK => ?_) AllReadyH.nil
    go_simp
    refine (CQ.out _).mono ?_
    rintro e v2 ⟨rfl, hb2⟩
    have HBx := Lib.hid (bstep hHeld.2.2.2 hb2)
    clear hHeld hb2
    refine hK.out _ _ ?_ (fun hHeld => ?_)
    · exact keepT9 PT.out HBx.out
    clear hK K HBx
    try simp only [Act.put, List.setIfInBounds_toArray, List.set_cons_zero, List.set_cons_succ]
    refine wpAnyH_take (i := 8) (oi := { dst := some 19, op := Go.Op.binOp Go.BinOp.add 9 (Go.Operand.tmp 15) (Go.Operand.tmp 18) 9, type := 9, pos := "law.go:40", after := #[{ on := 4, ground := Go.Ground.data }, { on := 7, ground := Go.Ground.data }], guard := none }) (v := ?_) rfl (by kernel_rfl) (by kernel_rfl) (by kernel_rfl) (fun _ _ _ h => h) (Or.inl ⟨by rfl, ?_⟩) (by assumption) ?_
    rotate_left
    · intro w hSw
      try dsimp only at hSw
      go_simp
      try (rw [if_neg (by omega)])
      try with_reducible rfl
    try simp only [Act.put, List.setIfInBounds_toArray, List.set_cons_zero, List.set_cons_succ]
    refine wpAnyH_take (i := 9) (oi := { dst := some 20, op := Go.Op.binOp Go.BinOp.add 9 (Go.Operand.tmp 19) (Go.Operand.const (Go.Value.string { data := #[45] })) 9, type := 9, pos := "law.go:40", after := #[{ on := 8, ground := Go.Ground.data }], guard := none }) (v := ?_) rfl (by kernel_rfl) (by kernel_rfl) (by kernel_rfl) (fun _ _ _ h => h) (Or.inl ⟨by rfl, ?_⟩) (by assumption) ?_
    rotate_left
    · intro w hSw
      try dsimp only at hSw
      go_simp
      try (rw [if_neg (by omega)])
      try with_reducible rfl
    try simp only [Act.put, List.setIfInBounds_toArray, List.set_cons_zero, List.set_cons_succ]
    refine wpAnyH_ready (rs := [12]) (by kernel_rfl) (by simp) ?_
    refine AllReadyH.cons (o := { dst := some 23, op := Go.Op.call { callee := Go.Callee.value (Go.Operand.func 34), args := #[Go.Operand.tmp 22, Go.Operand.const (Go.Value.int Go.IntKind.i64 2)], argTypes := #[3, 3] }, type := 9, pos := "law.go:40", after := #[{ on := 11, ground := Go.Ground.data }, { on := 7, ground := Go.Ground.chain }], guard := none }) rfl (fun K hK => ?_) AllReadyH.nil
    go_simp
    refine (CR.out _).mono ?_
    rintro e v3 ⟨rfl, hb3⟩
    have HBx := Lib.hid (bstep hHeld.2.2.2 hb3)
    clear hHeld hb3
    refine hK.out _ _ ?_ (fun hHeld => ?_)
    · exact keepT9 PT.out HBx.out
    clear hK K HBx
    try simp only [Act.put, List.setIfInBounds_toArray, List.set_cons_zero, List.set_cons_succ]
    refine wpAnyH_take (i := 13) (oi := { dst := some 24, op := Go.Op.binOp Go.BinOp.add 9 (Go.Operand.tmp 20) (Go.Operand.tmp 23) 9, type := 9, pos := "law.go:40", after := #[{ on := 9, ground := Go.Ground.data }, { on := 12, ground := Go.Ground.data }], guard := none }) (v := ?_) rfl (by kernel_rfl) (by kernel_rfl) (by kernel_rfl) (fun _ _ _ h => h) (Or.inl ⟨by rfl, ?_⟩) (by assumption) ?_
    rotate_left
    · intro w hSw
      try dsimp only at hSw
      go_simp
      try (rw [if_neg (by omega)])
      try with_reducible rfl
    try simp only [Act.put, List.setIfInBounds_toArray, List.set_cons_zero, List.set_cons_succ]
    refine wpAnyH_take (i := 14) (oi := { dst := some 2, op := Go.Op.assign (Go.Operand.tmp 24), type := 9, pos := "law.go:40", after := #[{ on := 13, ground := Go.Ground.data }, { on := 12, ground := Go.Ground.chain }, { on := 0, ground := Go.Ground.phase }, { on := 1, ground := Go.Ground.phase }, { on := 2, ground := Go.Ground.phase }, { on := 3, ground := Go.Ground.phase }, { on := 4, ground := Go.Ground.phase }, { on := 5, ground := Go.Ground.phase }, { on := 6, ground := Go.Ground.phase }, { on := 7, ground := Go.Ground.phase }, { on := 8, ground := Go.Ground.phase }, { on := 9, ground := Go.Ground.phase }, { on := 10, ground := Go.Ground.phase }, { on := 11, ground := Go.Ground.phase }, { on := 12, ground := Go.Ground.phase }, { on := 13, ground := Go.Ground.phase }], guard := none }) (v := ?_) rfl (by kernel_rfl) (by kernel_rfl) (by kernel_rfl) (fun _ _ _ h => h) (Or.inl ⟨by rfl, ?_⟩) (by assumption) ?_
    rotate_left
    · intro w hSw
      try dsimp only at hSw
      go_simp
      try (rw [if_neg (by omega)])
      try with_reducible rfl
    try simp only [Act.put, List.setIfInBounds_toArray, List.set_cons_zero, List.set_cons_succ]
    refine wpAnyH_done (by kernel_rfl) ?_ _
    replace B := bstep B hHeld.2.2.2
    go_wp2
    go_ret
    exact ⟨congrArg (fun z => Ending.returned (.string z)) RES.out, B⟩
/-- An offset's text, if there is one. -/
def zoneS (z : Bool) (o : Int) : ByteArray := if z then offS o else { data := #[] }
theorem zone_size {s : Int} {z : Bool} {o : Int} (h : mayM s z o = true) : (zoneS z o).size ≤ 330 := by
  obtain ⟨o1, o2⟩ := may_off h
  unfold zoneS
  split
  · exact off_size o1 o2
  · decide
set_option linter.unusedSimpArgs false in
set_option linter.unusedVariables false in
set_option maxRecDepth 100000 in
set_option maxHeartbeats 4000000 in
theorem zone_any (s : Int) (z : Bool) (o : Int) (h : mayM s z o = true) (w : World) : Calls Tryd.prog 38 #[Tm s z o] w (Ret (.string (zoneS z o)) w) := by
  obtain ⟨o1, o2⟩ := may_off h
  unfold zoneS
  cases z
  · clear h o1 o2
    rw [if_neg (by decide)]
    go_enter Tryd.func38, Tryd.ntmps38
    go_upto_region 1 with fail
    have PT := Lib.hid (HoldsM.new rfl : HoldsM (w.alloc (TmC s false o)) w.heap.size s false o)
    have B := ballD1 (Below.refl w.heap.size w) (TmC s false o)
    change Code.wp _ _ _ _ (w.alloc (TmC s false o))
    generalize (w.alloc (TmC s false o)) = w0 at *
    obtain ⟨⟨c0_0, c0_1, c0_2⟩, -, c0z⟩ := PT.out
    go_wp2
    go_ret
    exact ⟨rfl, B⟩
  · rw [if_pos rfl]
    by_cases k : o = 0
    · subst k
      have t0 : ((0 : Int) == 0) = true := rfl
      clear h o1 o2
      go_enter Tryd.func38, Tryd.ntmps38
      go_upto_region 1 with fail
      have PT := Lib.hid (HoldsM.new rfl : HoldsM (w.alloc (TmC s true 0)) w.heap.size s true 0)
      have B := ballD1 (Below.refl w.heap.size w) (TmC s true 0)
      change Code.wp _ _ _ _ (w.alloc (TmC s true 0))
      generalize (w.alloc (TmC s true 0)) = w0 at *
      obtain ⟨⟨c0_0, c0_1, c0_2⟩, -, c0z⟩ := PT.out
      go_wp2
      go_ret
      exact ⟨rfl, B⟩
    · have t0 : (o == 0) = false := by simpa using k
      have a0 := abs_nonneg o
      have a1 := abs_le o1 o2
      have HO : offS o = if absI o % 60 = 0 then sg2 o ++ minS (absI o) else sg2 o ++ minS (absI o) ++ secS (absI o) := by unfold offS; rw [if_neg k]
      rw [HO]
      clear HO
      obtain ⟨H, hH⟩ : ∃ zz : ByteArray, zz = sg2 o := ⟨_, rfl⟩
      have sH : H.size ≤ 1 := by rw [hH]; exact sg2_size o
      rw [← hH]
      have SG : (decide (o < 0) = true ∧ wrap64 (-o) = absI o ∧ IntKind.i64.wrap (-o) = absI o ∧ H = { data := #[45] }) ∨ (decide (o < 0) = false ∧ o = absI o ∧ H = { data := #[43] }) := by
        rw [hH]
        unfold sg2 absI
        by_cases k : o < 0
        · rw [if_pos k, if_pos k]; exact .inl ⟨decide_eq_true k, by unfold wrap64; omega, by rw [IntKind.wrap_i64]; omega, rfl⟩
        · rw [if_neg k, if_neg k]; exact .inr ⟨decide_eq_false k, rfl, rfl⟩
      clear hH h o1 o2 k
      generalize hx : absI o = x at *
      clear hx
      obtain ⟨P, hP⟩ : ∃ zz : ByteArray, zz = padS (x / 3600) 2 := ⟨_, rfl⟩
      have sP : P.size ≤ 100 := by rw [hP]; exact pad_size (by unfold I64; omega) (by decide)
      obtain ⟨Q, hQ⟩ : ∃ zz : ByteArray, zz = padS (x % 3600 / 60) 2 := ⟨_, rfl⟩
      have sQ : Q.size ≤ 100 := by rw [hQ]; exact pad_size (by unfold I64; omega) (by decide)
      obtain ⟨R, hR⟩ : ∃ zz : ByteArray, zz = padS (x % 60) 2 := ⟨_, rfl⟩
      have sR : R.size ≤ 100 := by rw [hR]; exact pad_size (by unfold I64; omega) (by decide)
      have CP := Lib.hid (show ∀ w, Calls Tryd.prog 34 #[.int .i64 (x / 3600), .int .i64 2] w (Ret (.string P) w) from fun w => by rw [hP]; exact wide_any (x / 3600) (by omega) (by omega) 2 2 rfl (by decide) w)
      have CQ := Lib.hid (show ∀ w, Calls Tryd.prog 34 #[.int .i64 (x % 3600 / 60), .int .i64 2] w (Ret (.string Q) w) from fun w => by rw [hQ]; exact wide_any (x % 3600 / 60) (by omega) (by omega) 2 2 rfl (by decide) w)
      have CR := Lib.hid (show ∀ w, Calls Tryd.prog 34 #[.int .i64 (x % 60), .int .i64 2] w (Ret (.string R) w) from fun w => by rw [hR]; exact wide_any (x % 60) (by omega) (by omega) 2 2 rfl (by decide) w)
      obtain ⟨u1, eu1⟩ : ∃ zz : ByteArray, H ++ P = zz := ⟨_, rfl⟩
      have su1 : u1.size ≤ 101 := by rw [← eu1]; exact size_le (a := 1) (b := 100) sH sP (by decide)
      obtain ⟨u2, eu2⟩ : ∃ zz : ByteArray, u1 ++ ({ data := #[58] } : ByteArray) = zz := ⟨_, rfl⟩
      have su2 : u2.size ≤ 102 := by rw [← eu2]; exact size_le (a := 101) (b := 1) su1 (by decide) (by decide)
      obtain ⟨u3, eu3⟩ : ∃ zz : ByteArray, u2 ++ Q = zz := ⟨_, rfl⟩
      have su3 : u3.size ≤ 202 := by rw [← eu3]; exact size_le (a := 102) (b := 100) su2 sQ (by decide)
      obtain ⟨u4, eu4⟩ : ∃ zz : ByteArray, u3 ++ ({ data := #[58] } : ByteArray) = zz := ⟨_, rfl⟩
      have su4 : u4.size ≤ 203 := by rw [← eu4]; exact size_le (a := 202) (b := 1) su3 (by decide) (by decide)
      obtain ⟨u5, eu5⟩ : ∃ zz : ByteArray, u4 ++ R = zz := ⟨_, rfl⟩
      have su5 : u5.size ≤ 303 := by rw [← eu5]; exact size_le (a := 203) (b := 100) su4 sR (by decide)
      have RESA := Lib.hid (show u3 = H ++ minS x from by rw [← eu3, ← eu2, ← eu1, hP, hQ]; unfold minS; simp only [str_assoc])
      have RESB := Lib.hid (show u5 = H ++ minS x ++ secS x from by rw [← eu5, ← eu4, RESA.out, hR]; unfold secS; simp only [str_assoc])
      have d1 : x.tdiv 3600 = x / 3600 := Int.tdiv_eq_ediv_of_nonneg a0
      have d2 : x.tmod 3600 = x % 3600 := Int.tmod_eq_emod_of_nonneg a0
      have d3 : (x % 3600).tdiv 60 = x % 3600 / 60 := Int.tdiv_eq_ediv_of_nonneg (by omega)
      have d4 : x.tmod 60 = x % 60 := Int.tmod_eq_emod_of_nonneg a0
      have p1 : wrap64 (x / 3600) = x / 3600 := by unfold wrap64; omega
      have r1 : IntKind.i64.wrap (x / 3600) = x / 3600 := by rw [IntKind.wrap_i64]; omega
      have p2 : wrap64 (x % 3600 / 60) = x % 3600 / 60 := by unfold wrap64; omega
      have r2 : IntKind.i64.wrap (x % 3600 / 60) = x % 3600 / 60 := by rw [IntKind.wrap_i64]; omega
      have SM : (0 < x % 60 ∧ ¬ x % 60 = 0) ∨ (¬ 0 < x % 60 ∧ x % 60 = 0) := by omega
      clear hP hQ hR a1 a0
      rcases SG with ⟨t1, f1, f2, rfl⟩ | ⟨t1, rfl, rfl⟩
      · rcases SM with ⟨q1, q2⟩ | ⟨q1, q2⟩
        · rw [if_neg (by assumption)]
          have RES := Lib.hid RESB.out
          clear RESA RESB
          have t2 : decide (0 < x % 60) = true := decide_eq_true q1
          clear q1 q2
          go_enter Tryd.func38, Tryd.ntmps38
          go_upto_region 1 with fail
          have PT := Lib.hid (HoldsM.new rfl : HoldsM (w.alloc (TmC s true o)) w.heap.size s true o)
          have B := ballD1 (Below.refl w.heap.size w) (TmC s true o)
          change Code.wp _ _ _ _ (w.alloc (TmC s true o))
          generalize (w.alloc (TmC s true o)) = w0 at *
          obtain ⟨⟨c0_0, c0_1, c0_2⟩, -, c0z⟩ := PT.out
          go_upto_region 5 with fail
          clear c0_0 c0_1 c0_2 c0z
          generalize w0 = V at *
          refine wp_region_held_drew (S := fun w' => w'.cell? ⟨w.heap.size, 0, none⟩ = some (.int .i64 s) ∧ w'.cell? ⟨w.heap.size, 1, none⟩ = some (.bool true) ∧ w'.cell? ⟨w.heap.size, 2, none⟩ = some (.int .i64 o) ∧ Below V.heap.size V w') (by kernel_rfl) ?_ (fun hHeld => ?_)
          · exact keepM9 PT.out (Below.refl _ _).drew
          refine wpAnyH_take (i := 0) (oi := { dst := some 11, op := Go.Op.fieldAddr 28 (Go.Operand.tmp 1) 2, type := 0, pos := "law.go:50", after := #[{ on := 2, ground := Go.Ground.gcOnly Go.Departure.lateStores }], guard := none }) (v := ?_) rfl (by kernel_rfl) (by kernel_rfl) (by kernel_rfl) (fun _ _ _ h => h) (Or.inl ⟨by rfl, ?_⟩) (by assumption) ?_
          rotate_left
          · intro w hSw
            try dsimp only at hSw
            go_simp
            try with_reducible rfl
          try simp only [Act.put, List.setIfInBounds_toArray, List.set_cons_zero, List.set_cons_succ]
          refine wpAnyH_take (i := 2) (oi := { dst := some 3, op := Go.Op.assign (Go.Operand.const (Go.Value.string { data := #[43] })), type := 9, pos := "law.go:50", after := #[{ on := 0, ground := Go.Ground.textOnly Go.Departure.lateStores }, { on := 1, ground := Go.Ground.textOnly Go.Departure.lateStores }], guard := none }) (v := ?_) rfl (by kernel_rfl) (by kernel_rfl) (by kernel_rfl) (fun _ _ _ h => h) (Or.inl ⟨by rfl, ?_⟩) (by assumption) ?_
          rotate_left
          · intro w hSw
            try dsimp only at hSw
            go_simp
            try with_reducible rfl
          try simp only [Act.put, List.setIfInBounds_toArray, List.set_cons_zero, List.set_cons_succ]
          refine wpAnyH_take (i := 1) (oi := { dst := some 12, op := Go.Op.load 3 (Go.Operand.tmp 11), type := 3, pos := "law.go:50", after := #[{ on := 0, ground := Go.Ground.data }, { on := 2, ground := Go.Ground.gcOnly Go.Departure.lateStores }], guard := none }) (v := ?_) rfl (by kernel_rfl) (by kernel_rfl) (by kernel_rfl) (fun _ _ _ h => h) (Or.inl ⟨by rfl, ?_⟩) (by assumption) ?_
          rotate_left
          · intro w hSw
            try dsimp only at hSw
            go_simp
            try with_reducible rfl
          try simp only [Act.put, List.setIfInBounds_toArray, List.set_cons_zero, List.set_cons_succ]
          refine wpAnyH_take (i := 3) (oi := { dst := some 4, op := Go.Op.assign (Go.Operand.tmp 12), type := 3, pos := "law.go:50", after := #[{ on := 1, ground := Go.Ground.data }, { on := 2, ground := Go.Ground.chain }, { on := 0, ground := Go.Ground.phase }, { on := 1, ground := Go.Ground.phase }, { on := 2, ground := Go.Ground.phase }], guard := none }) (v := ?_) rfl (by kernel_rfl) (by kernel_rfl) (by kernel_rfl) (fun _ _ _ h => h) (Or.inl ⟨by rfl, ?_⟩) (by assumption) ?_
          rotate_left
          · intro w hSw
            try dsimp only at hSw
            go_simp
            try with_reducible rfl
          try simp only [Act.put, List.setIfInBounds_toArray, List.set_cons_zero, List.set_cons_succ]
          refine wpAnyH_done (by kernel_rfl) ?_ _
          replace PT := Lib.hid (PT.out.below hHeld.2.2.2)
          replace B := bstep B hHeld.2.2.2
          clear hHeld
          obtain ⟨⟨c0_0, c0_1, c0_2⟩, -, c0z⟩ := PT.out
          go_wp2_with fail
          refine (CP.out _).mono ?_
          rintro e w1 ⟨rfl, hb⟩
          replace PT := Lib.hid (PT.out.below hb)
          replace B := bstep B hb
          clear hb CP
          clear c0_0 c0_1 c0_2 c0z
          obtain ⟨⟨c0_0, c0_1, c0_2⟩, -, c0z⟩ := PT.out
          go_wp2_with fail
          refine (CQ.out _).mono ?_
          rintro e w2 ⟨rfl, hb⟩
          replace PT := Lib.hid (PT.out.below hb)
          replace B := bstep B hb
          clear hb CQ
          clear c0_0 c0_1 c0_2 c0z
          obtain ⟨⟨c0_0, c0_1, c0_2⟩, -, c0z⟩ := PT.out
          go_wp2_with fail
          refine (CR.out _).mono ?_
          rintro e w3 ⟨rfl, hb⟩
          replace PT := Lib.hid (PT.out.below hb)
          replace B := bstep B hb
          clear hb CR
          clear c0_0 c0_1 c0_2 c0z
          go_wp2
          go_ret
          exact ⟨congrArg (fun z => Ending.returned (.string z)) RES.out, B⟩
        · rw [if_pos (by assumption)]
          have RES := Lib.hid RESA.out
          clear RESA RESB
          have t2 : decide (0 < x % 60) = false := decide_eq_false q1
          clear q1 q2
          go_enter Tryd.func38, Tryd.ntmps38
          go_upto_region 1 with fail
          have PT := Lib.hid (HoldsM.new rfl : HoldsM (w.alloc (TmC s true o)) w.heap.size s true o)
          have B := ballD1 (Below.refl w.heap.size w) (TmC s true o)
          change Code.wp _ _ _ _ (w.alloc (TmC s true o))
          generalize (w.alloc (TmC s true o)) = w0 at *
          obtain ⟨⟨c0_0, c0_1, c0_2⟩, -, c0z⟩ := PT.out
          go_upto_region 5 with fail
          clear c0_0 c0_1 c0_2 c0z
          generalize w0 = V at *
          refine wp_region_held_drew (S := fun w' => w'.cell? ⟨w.heap.size, 0, none⟩ = some (.int .i64 s) ∧ w'.cell? ⟨w.heap.size, 1, none⟩ = some (.bool true) ∧ w'.cell? ⟨w.heap.size, 2, none⟩ = some (.int .i64 o) ∧ Below V.heap.size V w') (by kernel_rfl) ?_ (fun hHeld => ?_)
          · exact keepM9 PT.out (Below.refl _ _).drew
          refine wpAnyH_take (i := 0) (oi := { dst := some 11, op := Go.Op.fieldAddr 28 (Go.Operand.tmp 1) 2, type := 0, pos := "law.go:50", after := #[{ on := 2, ground := Go.Ground.gcOnly Go.Departure.lateStores }], guard := none }) (v := ?_) rfl (by kernel_rfl) (by kernel_rfl) (by kernel_rfl) (fun _ _ _ h => h) (Or.inl ⟨by rfl, ?_⟩) (by assumption) ?_
          rotate_left
          · intro w hSw
            try dsimp only at hSw
            go_simp
            try with_reducible rfl
          try simp only [Act.put, List.setIfInBounds_toArray, List.set_cons_zero, List.set_cons_succ]
          refine wpAnyH_take (i := 2) (oi := { dst := some 3, op := Go.Op.assign (Go.Operand.const (Go.Value.string { data := #[43] })), type := 9, pos := "law.go:50", after := #[{ on := 0, ground := Go.Ground.textOnly Go.Departure.lateStores }, { on := 1, ground := Go.Ground.textOnly Go.Departure.lateStores }], guard := none }) (v := ?_) rfl (by kernel_rfl) (by kernel_rfl) (by kernel_rfl) (fun _ _ _ h => h) (Or.inl ⟨by rfl, ?_⟩) (by assumption) ?_
          rotate_left
          · intro w hSw
            try dsimp only at hSw
            go_simp
            try with_reducible rfl
          try simp only [Act.put, List.setIfInBounds_toArray, List.set_cons_zero, List.set_cons_succ]
          refine wpAnyH_take (i := 1) (oi := { dst := some 12, op := Go.Op.load 3 (Go.Operand.tmp 11), type := 3, pos := "law.go:50", after := #[{ on := 0, ground := Go.Ground.data }, { on := 2, ground := Go.Ground.gcOnly Go.Departure.lateStores }], guard := none }) (v := ?_) rfl (by kernel_rfl) (by kernel_rfl) (by kernel_rfl) (fun _ _ _ h => h) (Or.inl ⟨by rfl, ?_⟩) (by assumption) ?_
          rotate_left
          · intro w hSw
            try dsimp only at hSw
            go_simp
            try with_reducible rfl
          try simp only [Act.put, List.setIfInBounds_toArray, List.set_cons_zero, List.set_cons_succ]
          refine wpAnyH_take (i := 3) (oi := { dst := some 4, op := Go.Op.assign (Go.Operand.tmp 12), type := 3, pos := "law.go:50", after := #[{ on := 1, ground := Go.Ground.data }, { on := 2, ground := Go.Ground.chain }, { on := 0, ground := Go.Ground.phase }, { on := 1, ground := Go.Ground.phase }, { on := 2, ground := Go.Ground.phase }], guard := none }) (v := ?_) rfl (by kernel_rfl) (by kernel_rfl) (by kernel_rfl) (fun _ _ _ h => h) (Or.inl ⟨by rfl, ?_⟩) (by assumption) ?_
          rotate_left
          · intro w hSw
            try dsimp only at hSw
            go_simp
            try with_reducible rfl
          try simp only [Act.put, List.setIfInBounds_toArray, List.set_cons_zero, List.set_cons_succ]
          refine wpAnyH_done (by kernel_rfl) ?_ _
          replace PT := Lib.hid (PT.out.below hHeld.2.2.2)
          replace B := bstep B hHeld.2.2.2
          clear hHeld
          obtain ⟨⟨c0_0, c0_1, c0_2⟩, -, c0z⟩ := PT.out
          go_wp2_with fail
          refine (CP.out _).mono ?_
          rintro e w1 ⟨rfl, hb⟩
          replace PT := Lib.hid (PT.out.below hb)
          replace B := bstep B hb
          clear hb CP
          clear c0_0 c0_1 c0_2 c0z
          obtain ⟨⟨c0_0, c0_1, c0_2⟩, -, c0z⟩ := PT.out
          go_wp2_with fail
          refine (CQ.out _).mono ?_
          rintro e w2 ⟨rfl, hb⟩
          replace PT := Lib.hid (PT.out.below hb)
          replace B := bstep B hb
          clear hb CQ
          clear c0_0 c0_1 c0_2 c0z
          obtain ⟨⟨c0_0, c0_1, c0_2⟩, -, c0z⟩ := PT.out
          go_wp2
          go_ret
          exact ⟨congrArg (fun z => Ending.returned (.string z)) RES.out, B⟩
      · rcases SM with ⟨q1, q2⟩ | ⟨q1, q2⟩
        · rw [if_neg (by assumption)]
          have RES := Lib.hid RESB.out
          clear RESA RESB
          have t2 : decide (0 < o % 60) = true := decide_eq_true q1
          clear q1 q2
          go_enter Tryd.func38, Tryd.ntmps38
          go_upto_region 1 with fail
          have PT := Lib.hid (HoldsM.new rfl : HoldsM (w.alloc (TmC s true o)) w.heap.size s true o)
          have B := ballD1 (Below.refl w.heap.size w) (TmC s true o)
          change Code.wp _ _ _ _ (w.alloc (TmC s true o))
          generalize (w.alloc (TmC s true o)) = w0 at *
          obtain ⟨⟨c0_0, c0_1, c0_2⟩, -, c0z⟩ := PT.out
          go_upto_region 5 with fail
          clear c0_0 c0_1 c0_2 c0z
          generalize w0 = V at *
          refine wp_region_held_drew (S := fun w' => w'.cell? ⟨w.heap.size, 0, none⟩ = some (.int .i64 s) ∧ w'.cell? ⟨w.heap.size, 1, none⟩ = some (.bool true) ∧ w'.cell? ⟨w.heap.size, 2, none⟩ = some (.int .i64 o) ∧ Below V.heap.size V w') (by kernel_rfl) ?_ (fun hHeld => ?_)
          · exact keepM9 PT.out (Below.refl _ _).drew
          refine wpAnyH_take (i := 0) (oi := { dst := some 11, op := Go.Op.fieldAddr 28 (Go.Operand.tmp 1) 2, type := 0, pos := "law.go:50", after := #[{ on := 2, ground := Go.Ground.gcOnly Go.Departure.lateStores }], guard := none }) (v := ?_) rfl (by kernel_rfl) (by kernel_rfl) (by kernel_rfl) (fun _ _ _ h => h) (Or.inl ⟨by rfl, ?_⟩) (by assumption) ?_
          rotate_left
          · intro w hSw
            try dsimp only at hSw
            go_simp
            try with_reducible rfl
          try simp only [Act.put, List.setIfInBounds_toArray, List.set_cons_zero, List.set_cons_succ]
          refine wpAnyH_take (i := 2) (oi := { dst := some 3, op := Go.Op.assign (Go.Operand.const (Go.Value.string { data := #[43] })), type := 9, pos := "law.go:50", after := #[{ on := 0, ground := Go.Ground.textOnly Go.Departure.lateStores }, { on := 1, ground := Go.Ground.textOnly Go.Departure.lateStores }], guard := none }) (v := ?_) rfl (by kernel_rfl) (by kernel_rfl) (by kernel_rfl) (fun _ _ _ h => h) (Or.inl ⟨by rfl, ?_⟩) (by assumption) ?_
          rotate_left
          · intro w hSw
            try dsimp only at hSw
            go_simp
            try with_reducible rfl
          try simp only [Act.put, List.setIfInBounds_toArray, List.set_cons_zero, List.set_cons_succ]
          refine wpAnyH_take (i := 1) (oi := { dst := some 12, op := Go.Op.load 3 (Go.Operand.tmp 11), type := 3, pos := "law.go:50", after := #[{ on := 0, ground := Go.Ground.data }, { on := 2, ground := Go.Ground.gcOnly Go.Departure.lateStores }], guard := none }) (v := ?_) rfl (by kernel_rfl) (by kernel_rfl) (by kernel_rfl) (fun _ _ _ h => h) (Or.inl ⟨by rfl, ?_⟩) (by assumption) ?_
          rotate_left
          · intro w hSw
            try dsimp only at hSw
            go_simp
            try with_reducible rfl
          try simp only [Act.put, List.setIfInBounds_toArray, List.set_cons_zero, List.set_cons_succ]
          refine wpAnyH_take (i := 3) (oi := { dst := some 4, op := Go.Op.assign (Go.Operand.tmp 12), type := 3, pos := "law.go:50", after := #[{ on := 1, ground := Go.Ground.data }, { on := 2, ground := Go.Ground.chain }, { on := 0, ground := Go.Ground.phase }, { on := 1, ground := Go.Ground.phase }, { on := 2, ground := Go.Ground.phase }], guard := none }) (v := ?_) rfl (by kernel_rfl) (by kernel_rfl) (by kernel_rfl) (fun _ _ _ h => h) (Or.inl ⟨by rfl, ?_⟩) (by assumption) ?_
          rotate_left
          · intro w hSw
            try dsimp only at hSw
            go_simp
            try with_reducible rfl
          try simp only [Act.put, List.setIfInBounds_toArray, List.set_cons_zero, List.set_cons_succ]
          refine wpAnyH_done (by kernel_rfl) ?_ _
          replace PT := Lib.hid (PT.out.below hHeld.2.2.2)
          replace B := bstep B hHeld.2.2.2
          clear hHeld
          obtain ⟨⟨c0_0, c0_1, c0_2⟩, -, c0z⟩ := PT.out
          go_wp2_with fail
          refine (CP.out _).mono ?_
          rintro e w1 ⟨rfl, hb⟩
          replace PT := Lib.hid (PT.out.below hb)
          replace B := bstep B hb
          clear hb CP
          clear c0_0 c0_1 c0_2 c0z
          obtain ⟨⟨c0_0, c0_1, c0_2⟩, -, c0z⟩ := PT.out
          go_wp2_with fail
          refine (CQ.out _).mono ?_
          rintro e w2 ⟨rfl, hb⟩
          replace PT := Lib.hid (PT.out.below hb)
          replace B := bstep B hb
          clear hb CQ
          clear c0_0 c0_1 c0_2 c0z
          obtain ⟨⟨c0_0, c0_1, c0_2⟩, -, c0z⟩ := PT.out
          go_wp2_with fail
          refine (CR.out _).mono ?_
          rintro e w3 ⟨rfl, hb⟩
          replace PT := Lib.hid (PT.out.below hb)
          replace B := bstep B hb
          clear hb CR
          clear c0_0 c0_1 c0_2 c0z
          go_wp2
          go_ret
          exact ⟨congrArg (fun z => Ending.returned (.string z)) RES.out, B⟩
        · rw [if_pos (by assumption)]
          have RES := Lib.hid RESA.out
          clear RESA RESB
          have t2 : decide (0 < o % 60) = false := decide_eq_false q1
          clear q1 q2
          go_enter Tryd.func38, Tryd.ntmps38
          go_upto_region 1 with fail
          have PT := Lib.hid (HoldsM.new rfl : HoldsM (w.alloc (TmC s true o)) w.heap.size s true o)
          have B := ballD1 (Below.refl w.heap.size w) (TmC s true o)
          change Code.wp _ _ _ _ (w.alloc (TmC s true o))
          generalize (w.alloc (TmC s true o)) = w0 at *
          obtain ⟨⟨c0_0, c0_1, c0_2⟩, -, c0z⟩ := PT.out
          go_upto_region 5 with fail
          clear c0_0 c0_1 c0_2 c0z
          generalize w0 = V at *
          refine wp_region_held_drew (S := fun w' => w'.cell? ⟨w.heap.size, 0, none⟩ = some (.int .i64 s) ∧ w'.cell? ⟨w.heap.size, 1, none⟩ = some (.bool true) ∧ w'.cell? ⟨w.heap.size, 2, none⟩ = some (.int .i64 o) ∧ Below V.heap.size V w') (by kernel_rfl) ?_ (fun hHeld => ?_)
          · exact keepM9 PT.out (Below.refl _ _).drew
          refine wpAnyH_take (i := 0) (oi := { dst := some 11, op := Go.Op.fieldAddr 28 (Go.Operand.tmp 1) 2, type := 0, pos := "law.go:50", after := #[{ on := 2, ground := Go.Ground.gcOnly Go.Departure.lateStores }], guard := none }) (v := ?_) rfl (by kernel_rfl) (by kernel_rfl) (by kernel_rfl) (fun _ _ _ h => h) (Or.inl ⟨by rfl, ?_⟩) (by assumption) ?_
          rotate_left
          · intro w hSw
            try dsimp only at hSw
            go_simp
            try with_reducible rfl
          try simp only [Act.put, List.setIfInBounds_toArray, List.set_cons_zero, List.set_cons_succ]
          refine wpAnyH_take (i := 2) (oi := { dst := some 3, op := Go.Op.assign (Go.Operand.const (Go.Value.string { data := #[43] })), type := 9, pos := "law.go:50", after := #[{ on := 0, ground := Go.Ground.textOnly Go.Departure.lateStores }, { on := 1, ground := Go.Ground.textOnly Go.Departure.lateStores }], guard := none }) (v := ?_) rfl (by kernel_rfl) (by kernel_rfl) (by kernel_rfl) (fun _ _ _ h => h) (Or.inl ⟨by rfl, ?_⟩) (by assumption) ?_
          rotate_left
          · intro w hSw
            try dsimp only at hSw
            go_simp
            try with_reducible rfl
          try simp only [Act.put, List.setIfInBounds_toArray, List.set_cons_zero, List.set_cons_succ]
          refine wpAnyH_take (i := 1) (oi := { dst := some 12, op := Go.Op.load 3 (Go.Operand.tmp 11), type := 3, pos := "law.go:50", after := #[{ on := 0, ground := Go.Ground.data }, { on := 2, ground := Go.Ground.gcOnly Go.Departure.lateStores }], guard := none }) (v := ?_) rfl (by kernel_rfl) (by kernel_rfl) (by kernel_rfl) (fun _ _ _ h => h) (Or.inl ⟨by rfl, ?_⟩) (by assumption) ?_
          rotate_left
          · intro w hSw
            try dsimp only at hSw
            go_simp
            try with_reducible rfl
          try simp only [Act.put, List.setIfInBounds_toArray, List.set_cons_zero, List.set_cons_succ]
          refine wpAnyH_take (i := 3) (oi := { dst := some 4, op := Go.Op.assign (Go.Operand.tmp 12), type := 3, pos := "law.go:50", after := #[{ on := 1, ground := Go.Ground.data }, { on := 2, ground := Go.Ground.chain }, { on := 0, ground := Go.Ground.phase }, { on := 1, ground := Go.Ground.phase }, { on := 2, ground := Go.Ground.phase }], guard := none }) (v := ?_) rfl (by kernel_rfl) (by kernel_rfl) (by kernel_rfl) (fun _ _ _ h => h) (Or.inl ⟨by rfl, ?_⟩) (by assumption) ?_
          rotate_left
          · intro w hSw
            try dsimp only at hSw
            go_simp
            try with_reducible rfl
          try simp only [Act.put, List.setIfInBounds_toArray, List.set_cons_zero, List.set_cons_succ]
          refine wpAnyH_done (by kernel_rfl) ?_ _
          replace PT := Lib.hid (PT.out.below hHeld.2.2.2)
          replace B := bstep B hHeld.2.2.2
          clear hHeld
          obtain ⟨⟨c0_0, c0_1, c0_2⟩, -, c0z⟩ := PT.out
          go_wp2_with fail
          refine (CP.out _).mono ?_
          rintro e w1 ⟨rfl, hb⟩
          replace PT := Lib.hid (PT.out.below hb)
          replace B := bstep B hb
          clear hb CP
          clear c0_0 c0_1 c0_2 c0z
          obtain ⟨⟨c0_0, c0_1, c0_2⟩, -, c0z⟩ := PT.out
          go_wp2_with fail
          refine (CQ.out _).mono ?_
          rintro e w2 ⟨rfl, hb⟩
          replace PT := Lib.hid (PT.out.below hb)
          replace B := bstep B hb
          clear hb CQ
          clear c0_0 c0_1 c0_2 c0z
          obtain ⟨⟨c0_0, c0_1, c0_2⟩, -, c0z⟩ := PT.out
          go_wp2
          go_ret
          exact ⟨congrArg (fun z => Ending.returned (.string z)) RES.out, B⟩
set_option linter.unusedSimpArgs false in
set_option linter.unusedVariables false in
set_option maxRecDepth 100000 in
set_option maxHeartbeats 4000000 in
theorem timeR_any (s : Int) (z : Bool) (o : Int) (h : mayM s z o = true) (w : World) : Calls Tryd.prog 13 #[Tm s z o] w (Ret (.string (timeS s z o)) w) := by
  obtain ⟨s1, s2⟩ := may_sec h
  obtain ⟨P, hP⟩ : ∃ zz : ByteArray, zz = padS (s / 3600) 2 := ⟨_, rfl⟩
  have sP : P.size ≤ 100 := by rw [hP]; exact pad_size (by unfold I64; omega) (by decide)
  obtain ⟨Q, hQ⟩ : ∃ zz : ByteArray, zz = padS (s % 3600 / 60) 2 := ⟨_, rfl⟩
  have sQ : Q.size ≤ 100 := by rw [hQ]; exact pad_size (by unfold I64; omega) (by decide)
  obtain ⟨R, hR⟩ : ∃ zz : ByteArray, zz = padS (s % 60) 2 := ⟨_, rfl⟩
  have sR : R.size ≤ 100 := by rw [hR]; exact pad_size (by unfold I64; omega) (by decide)
  obtain ⟨O, hO⟩ : ∃ zz : ByteArray, zz = zoneS z o := ⟨_, rfl⟩
  have sO : O.size ≤ 330 := by rw [hO]; exact zone_size h
  have CP := Lib.hid (show ∀ w, Calls Tryd.prog 34 #[.int .i64 (s / 3600), .int .i64 2] w (Ret (.string P) w) from fun w => by rw [hP]; exact wide_any (s / 3600) (by omega) (by omega) 2 2 rfl (by decide) w)
  have CQ := Lib.hid (show ∀ w, Calls Tryd.prog 34 #[.int .i64 (s % 3600 / 60), .int .i64 2] w (Ret (.string Q) w) from fun w => by rw [hQ]; exact wide_any (s % 3600 / 60) (by omega) (by omega) 2 2 rfl (by decide) w)
  have CR := Lib.hid (show ∀ w, Calls Tryd.prog 34 #[.int .i64 (s % 60), .int .i64 2] w (Ret (.string R) w) from fun w => by rw [hR]; exact wide_any (s % 60) (by omega) (by omega) 2 2 rfl (by decide) w)
  have CO := Lib.hid (show ∀ w, Calls Tryd.prog 38 #[Tm s z o] w (Ret (.string O) w) from fun w => by rw [hO]; exact zone_any s z o h w)
  obtain ⟨u1, eu1⟩ : ∃ zz : ByteArray, P ++ ({ data := #[58] } : ByteArray) = zz := ⟨_, rfl⟩
  have su1 : u1.size ≤ 101 := by rw [← eu1]; exact size_le (a := 100) (b := 1) sP (by decide) (by decide)
  obtain ⟨u2, eu2⟩ : ∃ zz : ByteArray, u1 ++ Q = zz := ⟨_, rfl⟩
  have su2 : u2.size ≤ 201 := by rw [← eu2]; exact size_le (a := 101) (b := 100) su1 sQ (by decide)
  obtain ⟨u3, eu3⟩ : ∃ zz : ByteArray, u2 ++ ({ data := #[58] } : ByteArray) = zz := ⟨_, rfl⟩
  have su3 : u3.size ≤ 202 := by rw [← eu3]; exact size_le (a := 201) (b := 1) su2 (by decide) (by decide)
  obtain ⟨u4, eu4⟩ : ∃ zz : ByteArray, u3 ++ R = zz := ⟨_, rfl⟩
  have su4 : u4.size ≤ 302 := by rw [← eu4]; exact size_le (a := 202) (b := 100) su3 sR (by decide)
  obtain ⟨u5, eu5⟩ : ∃ zz : ByteArray, u4 ++ O = zz := ⟨_, rfl⟩
  have su5 : u5.size ≤ 632 := by rw [← eu5]; exact size_le (a := 302) (b := 330) su4 sO (by decide)
  have RES := Lib.hid (show u5 = timeS s z o from by
    rw [← eu5, ← eu4, ← eu3, ← eu2, ← eu1, hP, hQ, hR, hO]
    unfold timeS zoneS minS secS
    cases z
    · rw [if_neg (by decide), if_neg (by decide), str_nil']; simp only [str_assoc]
    · rw [if_pos rfl, if_pos rfl]; simp only [str_assoc])
  have d1 : s.tdiv 3600 = s / 3600 := Int.tdiv_eq_ediv_of_nonneg s1
  have d2 : s.tmod 3600 = s % 3600 := Int.tmod_eq_emod_of_nonneg s1
  have d3 : (s % 3600).tdiv 60 = s % 3600 / 60 := Int.tdiv_eq_ediv_of_nonneg (by omega)
  have d4 : s.tmod 60 = s % 60 := Int.tmod_eq_emod_of_nonneg s1
  have f1 : wrap64 (s / 3600) = s / 3600 := by unfold wrap64; omega
  have g1 : IntKind.i64.wrap (s / 3600) = s / 3600 := by rw [IntKind.wrap_i64]; omega
  have f2 : wrap64 (s % 3600 / 60) = s % 3600 / 60 := by unfold wrap64; omega
  have g2 : IntKind.i64.wrap (s % 3600 / 60) = s % 3600 / 60 := by rw [IntKind.wrap_i64]; omega
  clear hP hQ hR hO s1 s2 h
  go_enter Tryd.func13, Tryd.ntmps13
  go_upto_region 1 with fail
  have PT := Lib.hid (HoldsM.new rfl : HoldsM (w.alloc (TmC s z o)) w.heap.size s z o)
  have B := ballD1 (Below.refl w.heap.size w) (TmC s z o)
  change Code.wp _ _ _ _ (w.alloc (TmC s z o))
  generalize (w.alloc (TmC s z o)) = w0 at *
  go_upto_region 1 with fail
  generalize w0 = V at *
  refine wp_region_held_drew (S := fun w' => w'.cell? ⟨w.heap.size, 0, none⟩ = some (.int .i64 s) ∧ w'.cell? ⟨w.heap.size, 1, none⟩ = some (.bool z) ∧ w'.cell? ⟨w.heap.size, 2, none⟩ = some (.int .i64 o) ∧ Below V.heap.size V w') (by kernel_rfl) ?_ (fun hHeld => ?_)
  · exact keepM9 PT.out (Below.refl _ _).drew
  refine wpAnyH_take (i := 0) (oi := { dst := some 3, op := Go.Op.fieldAddr 28 (Go.Operand.tmp 1) 0, type := 0, pos := "law.go:63", after := #[], guard := none }) (v := ?_) rfl (by kernel_rfl) (by kernel_rfl) (by kernel_rfl) (fun _ _ _ h => h) (Or.inl ⟨by rfl, ?_⟩) (by assumption) ?_
  rotate_left
  · intro w hSw
    try dsimp only at hSw
    go_simp
    try (rw [if_neg (by omega)])
    try with_reducible rfl
  try simp only [Act.put, List.setIfInBounds_toArray, List.set_cons_zero, List.set_cons_succ]
  refine wpAnyH_take (i := 5) (oi := { dst := some 8, op := Go.Op.fieldAddr 28 (Go.Operand.tmp 1) 0, type := 0, pos := "law.go:63", after := #[], guard := none }) (v := ?_) rfl (by kernel_rfl) (by kernel_rfl) (by kernel_rfl) (fun _ _ _ h => h) (Or.inl ⟨by rfl, ?_⟩) (by assumption) ?_
  rotate_left
  · intro w hSw
    try dsimp only at hSw
    go_simp
    try (rw [if_neg (by omega)])
    try with_reducible rfl
  try simp only [Act.put, List.setIfInBounds_toArray, List.set_cons_zero, List.set_cons_succ]
  refine wpAnyH_take (i := 12) (oi := { dst := some 15, op := Go.Op.fieldAddr 28 (Go.Operand.tmp 1) 0, type := 0, pos := "law.go:63", after := #[], guard := none }) (v := ?_) rfl (by kernel_rfl) (by kernel_rfl) (by kernel_rfl) (fun _ _ _ h => h) (Or.inl ⟨by rfl, ?_⟩) (by assumption) ?_
  rotate_left
  · intro w hSw
    try dsimp only at hSw
    go_simp
    try (rw [if_neg (by omega)])
    try with_reducible rfl
  try simp only [Act.put, List.setIfInBounds_toArray, List.set_cons_zero, List.set_cons_succ]
  refine wpAnyH_take (i := 17) (oi := { dst := some 20, op := Go.Op.load 28 (Go.Operand.tmp 1), type := 28, pos := "law.go:63", after := #[], guard := none }) (v := ?_) rfl (by kernel_rfl) (by kernel_rfl) (by kernel_rfl) (fun _ _ _ h => h) (Or.inl ⟨by rfl, ?_⟩) (by assumption) ?_
  rotate_left
  · intro w hSw
    try dsimp only at hSw
    go_simp
    try (rw [if_neg (by omega)])
    try with_reducible rfl
  try simp only [Act.put, List.setIfInBounds_toArray, List.set_cons_zero, List.set_cons_succ]
  refine wpAnyH_take (i := 1) (oi := { dst := some 4, op := Go.Op.load 3 (Go.Operand.tmp 3), type := 3, pos := "law.go:63", after := #[{ on := 0, ground := Go.Ground.data }], guard := none }) (v := ?_) rfl (by kernel_rfl) (by kernel_rfl) (by kernel_rfl) (fun _ _ _ h => h) (Or.inl ⟨by rfl, ?_⟩) (by assumption) ?_
  rotate_left
  · intro w hSw
    try dsimp only at hSw
    go_simp
    try (rw [if_neg (by omega)])
    try with_reducible rfl
  try simp only [Act.put, List.setIfInBounds_toArray, List.set_cons_zero, List.set_cons_succ]
  refine wpAnyH_take (i := 6) (oi := { dst := some 9, op := Go.Op.load 3 (Go.Operand.tmp 8), type := 3, pos := "law.go:63", after := #[{ on := 5, ground := Go.Ground.data }], guard := none }) (v := ?_) rfl (by kernel_rfl) (by kernel_rfl) (by kernel_rfl) (fun _ _ _ h => h) (Or.inl ⟨by rfl, ?_⟩) (by assumption) ?_
  rotate_left
  · intro w hSw
    try dsimp only at hSw
    go_simp
    try (rw [if_neg (by omega)])
    try with_reducible rfl
  try simp only [Act.put, List.setIfInBounds_toArray, List.set_cons_zero, List.set_cons_succ]
  refine wpAnyH_take (i := 13) (oi := { dst := some 16, op := Go.Op.load 3 (Go.Operand.tmp 15), type := 3, pos := "law.go:63", after := #[{ on := 12, ground := Go.Ground.data }], guard := none }) (v := ?_) rfl (by kernel_rfl) (by kernel_rfl) (by kernel_rfl) (fun _ _ _ h => h) (Or.inl ⟨by rfl, ?_⟩) (by assumption) ?_
  rotate_left
  · intro w hSw
    try dsimp only at hSw
    go_simp
    try (rw [if_neg (by omega)])
    try with_reducible rfl
  try simp only [Act.put, List.setIfInBounds_toArray, List.set_cons_zero, List.set_cons_succ]
  refine wpAnyH_take (i := 2) (oi := { dst := some 5, op := Go.Op.binOp Go.BinOp.quo 3 (Go.Operand.tmp 4) (Go.Operand.const (Go.Value.int Go.IntKind.i64 3600)) 3, type := 3, pos := "law.go:63", after := #[{ on := 1, ground := Go.Ground.data }], guard := none }) (v := ?_) rfl (by kernel_rfl) (by kernel_rfl) (by kernel_rfl) (fun _ _ _ h => h) (Or.inl ⟨by rfl, ?_⟩) (by assumption) ?_
  rotate_left
  · intro w hSw
    try dsimp only at hSw
    go_simp
    try (rw [if_neg (by omega)])
    try with_reducible rfl
  try simp only [Act.put, List.setIfInBounds_toArray, List.set_cons_zero, List.set_cons_succ]
  refine wpAnyH_take (i := 7) (oi := { dst := some 10, op := Go.Op.binOp Go.BinOp.rem 3 (Go.Operand.tmp 9) (Go.Operand.const (Go.Value.int Go.IntKind.i64 3600)) 3, type := 3, pos := "law.go:63", after := #[{ on := 6, ground := Go.Ground.data }], guard := none }) (v := ?_) rfl (by kernel_rfl) (by kernel_rfl) (by kernel_rfl) (fun _ _ _ h => h) (Or.inl ⟨by rfl, ?_⟩) (by assumption) ?_
  rotate_left
  · intro w hSw
    try dsimp only at hSw
    go_simp
    try (rw [if_neg (by omega)])
    try with_reducible rfl
  try simp only [Act.put, List.setIfInBounds_toArray, List.set_cons_zero, List.set_cons_succ]
  refine wpAnyH_take (i := 14) (oi := { dst := some 17, op := Go.Op.binOp Go.BinOp.rem 3 (Go.Operand.tmp 16) (Go.Operand.const (Go.Value.int Go.IntKind.i64 60)) 3, type := 3, pos := "law.go:63", after := #[{ on := 13, ground := Go.Ground.data }], guard := none }) (v := ?_) rfl (by kernel_rfl) (by kernel_rfl) (by kernel_rfl) (fun _ _ _ h => h) (Or.inl ⟨by rfl, ?_⟩) (by assumption) ?_
  rotate_left
  · intro w hSw
    try dsimp only at hSw
    go_simp
    try (rw [if_neg (by omega)])
    try with_reducible rfl
  try simp only [Act.put, List.setIfInBounds_toArray, List.set_cons_zero, List.set_cons_succ]
  refine wpAnyH_take (i := 8) (oi := { dst := some 11, op := Go.Op.binOp Go.BinOp.quo 3 (Go.Operand.tmp 10) (Go.Operand.const (Go.Value.int Go.IntKind.i64 60)) 3, type := 3, pos := "law.go:63", after := #[{ on := 7, ground := Go.Ground.data }], guard := none }) (v := ?_) rfl (by kernel_rfl) (by kernel_rfl) (by kernel_rfl) (fun _ _ _ h => h) (Or.inl ⟨by rfl, ?_⟩) (by assumption) ?_
  rotate_left
  · intro w hSw
    try dsimp only at hSw
    go_simp
    try (rw [if_neg (by omega)])
    try with_reducible rfl
  try simp only [Act.put, List.setIfInBounds_toArray, List.set_cons_zero, List.set_cons_succ]
  refine wpAnyH_ready (rs := [3]) (by kernel_rfl) (by simp) ?_
  refine AllReadyH.cons (o := { dst := some 6, op := Go.Op.call { callee := Go.Callee.value (Go.Operand.func 34), args := #[Go.Operand.tmp 5, Go.Operand.const (Go.Value.int Go.IntKind.i64 2)], argTypes := #[3, 3] }, type := 9, pos := "law.go:63", after := #[{ on := 2, ground := Go.Ground.data }], guard := none }) rfl (fun K hK => ?_) AllReadyH.nil
  go_simp
  refine (CP.out _).mono ?_
  rintro e v1 ⟨rfl, hb1⟩
  have HBx := Lib.hid (bstep hHeld.2.2.2 hb1)
  clear hHeld hb1
  refine hK.out _ _ ?_ (fun hHeld => ?_)
  · exact keepM9 PT.out HBx.out
  clear hK K HBx
  try simp only [Act.put, List.setIfInBounds_toArray, List.set_cons_zero, List.set_cons_succ]
  refine wpAnyH_take (i := 4) (oi := { dst := some 7, op := Go.Op.binOp Go.BinOp.add 9 (Go.Operand.tmp 6) (Go.Operand.const (Go.Value.string { data := #[58] })) 9, type := 9, pos := "law.go:63", after := #[{ on := 3, ground := Go.Ground.data }], guard := none }) (v := ?_) rfl (by kernel_rfl) (by kernel_rfl) (by kernel_rfl) (fun _ _ _ h => h) (Or.inl ⟨by rfl, ?_⟩) (by assumption) ?_
  rotate_left
  · intro w hSw
    try dsimp only at hSw
    go_simp
    try (rw [if_neg (by omega)])
    try with_reducible rfl
  try simp only [Act.put, List.setIfInBounds_toArray, List.set_cons_zero, List.set_cons_succ]
  refine wpAnyH_ready (rs := [9]) (by kernel_rfl) (by simp) ?_
  refine AllReadyH.cons (o := { dst := some 12, op := Go.Op.call { callee := Go.Callee.value (Go.Operand.func 34), args := #[Go.Operand.tmp 11, Go.Operand.const (Go.Value.int Go.IntKind.i64 2)], argTypes := #[3, 3] }, type := 9, pos := "law.go:63", after := #[{ on := 8, ground := Go.Ground.data }, { on := 3, ground := Go.Ground.chain }], guard := none }) rfl (fun K hK => ?_) AllReadyH.nil
  go_simp
  refine (CQ.out _).mono ?_
  rintro e v2 ⟨rfl, hb2⟩
  have HBx := Lib.hid (bstep hHeld.2.2.2 hb2)
  clear hHeld hb2
  refine hK.out _ _ ?_ (fun hHeld => ?_)
  · exact keepM9 PT.out HBx.out
  clear hK K HBx
  try simp only [Act.put, List.setIfInBounds_toArray, List.set_cons_zero, List.set_cons_succ]
  refine wpAnyH_take (i := 10) (oi := { dst := some 13, op := Go.Op.binOp Go.BinOp.add 9 (Go.Operand.tmp 7) (Go.Operand.tmp 12) 9, type := 9, pos := "law.go:63", after := #[{ on := 4, ground := Go.Ground.data }, { on := 9, ground := Go.Ground.data }], guard := none }) (v := ?_) rfl (by kernel_rfl) (by kernel_rfl) (by kernel_rfl) (fun _ _ _ h => h) (Or.inl ⟨by rfl, ?_⟩) (by assumption) ?_
  rotate_left
  · intro w hSw
    try dsimp only at hSw
    go_simp
    try (rw [if_neg (by omega)])
    try with_reducible rfl
  try simp only [Act.put, List.setIfInBounds_toArray, List.set_cons_zero, List.set_cons_succ]
  refine wpAnyH_take (i := 11) (oi := { dst := some 14, op := Go.Op.binOp Go.BinOp.add 9 (Go.Operand.tmp 13) (Go.Operand.const (Go.Value.string { data := #[58] })) 9, type := 9, pos := "law.go:63", after := #[{ on := 10, ground := Go.Ground.data }], guard := none }) (v := ?_) rfl (by kernel_rfl) (by kernel_rfl) (by kernel_rfl) (fun _ _ _ h => h) (Or.inl ⟨by rfl, ?_⟩) (by assumption) ?_
  rotate_left
  · intro w hSw
    try dsimp only at hSw
    go_simp
    try (rw [if_neg (by omega)])
    try with_reducible rfl
  try simp only [Act.put, List.setIfInBounds_toArray, List.set_cons_zero, List.set_cons_succ]
  refine wpAnyH_ready (rs := [15]) (by kernel_rfl) (by simp) ?_
  refine AllReadyH.cons (o := { dst := some 18, op := Go.Op.call { callee := Go.Callee.value (Go.Operand.func 34), args := #[Go.Operand.tmp 17, Go.Operand.const (Go.Value.int Go.IntKind.i64 2)], argTypes := #[3, 3] }, type := 9, pos := "law.go:63", after := #[{ on := 14, ground := Go.Ground.data }, { on := 9, ground := Go.Ground.chain }], guard := none }) rfl (fun K hK => ?_) AllReadyH.nil
  go_simp
  refine (CR.out _).mono ?_
  rintro e v3 ⟨rfl, hb3⟩
  have HBx := Lib.hid (bstep hHeld.2.2.2 hb3)
  clear hHeld hb3
  refine hK.out _ _ ?_ (fun hHeld => ?_)
  · exact keepM9 PT.out HBx.out
  clear hK K HBx
  try simp only [Act.put, List.setIfInBounds_toArray, List.set_cons_zero, List.set_cons_succ]
  refine wpAnyH_take (i := 16) (oi := { dst := some 19, op := Go.Op.binOp Go.BinOp.add 9 (Go.Operand.tmp 14) (Go.Operand.tmp 18) 9, type := 9, pos := "law.go:63", after := #[{ on := 11, ground := Go.Ground.data }, { on := 15, ground := Go.Ground.data }], guard := none }) (v := ?_) rfl (by kernel_rfl) (by kernel_rfl) (by kernel_rfl) (fun _ _ _ h => h) (Or.inl ⟨by rfl, ?_⟩) (by assumption) ?_
  rotate_left
  · intro w hSw
    try dsimp only at hSw
    go_simp
    try (rw [if_neg (by omega)])
    try with_reducible rfl
  try simp only [Act.put, List.setIfInBounds_toArray, List.set_cons_zero, List.set_cons_succ]
  refine wpAnyH_ready (rs := [18]) (by kernel_rfl) (by simp) ?_
  refine AllReadyH.cons (o := { dst := some 21, op := Go.Op.call { callee := Go.Callee.value (Go.Operand.func 38), args := #[Go.Operand.tmp 20], argTypes := #[28] }, type := 9, pos := "law.go:63", after := #[{ on := 17, ground := Go.Ground.data }, { on := 15, ground := Go.Ground.chain }], guard := none }) rfl (fun K hK => ?_) AllReadyH.nil
  go_simp
  refine (CO.out _).mono ?_
  rintro e v4 ⟨rfl, hb4⟩
  have HBx := Lib.hid (bstep hHeld.2.2.2 hb4)
  clear hHeld hb4
  refine hK.out _ _ ?_ (fun hHeld => ?_)
  · exact keepM9 PT.out HBx.out
  clear hK K HBx
  try simp only [Act.put, List.setIfInBounds_toArray, List.set_cons_zero, List.set_cons_succ]
  refine wpAnyH_take (i := 19) (oi := { dst := some 22, op := Go.Op.binOp Go.BinOp.add 9 (Go.Operand.tmp 19) (Go.Operand.tmp 21) 9, type := 9, pos := "law.go:63", after := #[{ on := 16, ground := Go.Ground.data }, { on := 18, ground := Go.Ground.data }], guard := none }) (v := ?_) rfl (by kernel_rfl) (by kernel_rfl) (by kernel_rfl) (fun _ _ _ h => h) (Or.inl ⟨by rfl, ?_⟩) (by assumption) ?_
  rotate_left
  · intro w hSw
    try dsimp only at hSw
    go_simp
    try (rw [if_neg (by omega)])
    try with_reducible rfl
  try simp only [Act.put, List.setIfInBounds_toArray, List.set_cons_zero, List.set_cons_succ]
  refine wpAnyH_take (i := 20) (oi := { dst := some 2, op := Go.Op.assign (Go.Operand.tmp 22), type := 9, pos := "law.go:63", after := #[{ on := 19, ground := Go.Ground.data }, { on := 18, ground := Go.Ground.chain }, { on := 0, ground := Go.Ground.phase }, { on := 1, ground := Go.Ground.phase }, { on := 2, ground := Go.Ground.phase }, { on := 3, ground := Go.Ground.phase }, { on := 4, ground := Go.Ground.phase }, { on := 5, ground := Go.Ground.phase }, { on := 6, ground := Go.Ground.phase }, { on := 7, ground := Go.Ground.phase }, { on := 8, ground := Go.Ground.phase }, { on := 9, ground := Go.Ground.phase }, { on := 10, ground := Go.Ground.phase }, { on := 11, ground := Go.Ground.phase }, { on := 12, ground := Go.Ground.phase }, { on := 13, ground := Go.Ground.phase }, { on := 14, ground := Go.Ground.phase }, { on := 15, ground := Go.Ground.phase }, { on := 16, ground := Go.Ground.phase }, { on := 17, ground := Go.Ground.phase }, { on := 18, ground := Go.Ground.phase }, { on := 19, ground := Go.Ground.phase }], guard := none }) (v := ?_) rfl (by kernel_rfl) (by kernel_rfl) (by kernel_rfl) (fun _ _ _ h => h) (Or.inl ⟨by rfl, ?_⟩) (by assumption) ?_
  rotate_left
  · intro w hSw
    try dsimp only at hSw
    go_simp
    try (rw [if_neg (by omega)])
    try with_reducible rfl
  try simp only [Act.put, List.setIfInBounds_toArray, List.set_cons_zero, List.set_cons_succ]
  refine wpAnyH_done (by kernel_rfl) ?_ _
  replace B := bstep B hHeld.2.2.2
  go_wp2
  go_ret
  exact ⟨congrArg (fun z => Ending.returned (.string z)) RES.out, B⟩
set_option linter.unusedSimpArgs false in
set_option linter.unusedVariables false in
set_option maxRecDepth 100000 in
set_option maxHeartbeats 4000000 in
theorem some_any (n : Int) (h1 : -4611686018427387904 ≤ n) (h2 : n ≤ 4611686018427387904) (L : ByteArray) (sL : L.size ≤ 5) (w : World) : Calls Tryd.prog 17 #[.int .i64 n, .string L] w (Ret (.string (partS n L)) w) := by
  unfold partS
  by_cases z : n = 0
  · subst z
    rw [if_pos rfl]
    have t0 : ((0 : Int) == 0) = true := rfl
    clear h1 h2
    go_enter Tryd.func17, Tryd.ntmps17
    go_wp2
    go_ret
    exact ⟨rfl, by go_grown⟩
  · rw [if_neg z]
    have t0 : (n == 0) = false := by simpa using z
    obtain ⟨D, hD⟩ : ∃ zz : ByteArray, zz = itS n := ⟨_, rfl⟩
    have sD : D.size ≤ 35 := by rw [hD]; exact it_size (by unfold I64; omega)
    have CD := Lib.hid (show ∀ w, Calls Tryd.prog 41 #[.int .i64 n] w (Ret (.string D) w) from fun w => by rw [hD]; exact itoaR_any n h1 h2 w)
    obtain ⟨u1, eu1⟩ : ∃ zz : ByteArray, D ++ L = zz := ⟨_, rfl⟩
    have su1 : u1.size ≤ 40 := by rw [← eu1]; exact size_le (a := 35) (b := 5) sD sL (by decide)
    have RES := Lib.hid (show u1 = itS n ++ L from by rw [← eu1, hD])
    clear hD h1 h2 z
    go_enter Tryd.func17, Tryd.ntmps17
    go_wp2_with fail
    refine (CD.out _).mono ?_
    rintro e w1 ⟨rfl, hb⟩
    have B : Below w.heap.size w w1 := bstep (by go_grown) hb
    clear hb CD
    go_wp2
    go_ret
    exact ⟨congrArg (fun z => Ending.returned (.string z)) RES.out, B⟩
end Go.Proofs.YthgondbiddncpaaDoor

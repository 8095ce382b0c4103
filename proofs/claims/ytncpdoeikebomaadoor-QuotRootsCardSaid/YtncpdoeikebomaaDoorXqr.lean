/-
  Several texts in one: each one's own remark stands ahead of it.
-/
import Derived.Test.YtncpdoeikebomaaDoorRma
import Derived.Test.YtncpdoeikebomaaDoorXsc
/-
  The document's root, digit by digit (Root of the reference's first layer), as a contract of its call.
-/
namespace Go.Proofs.YtncpdoeikebomaaDoor
open Go.RowKit

theorem row_newK (W : World) (d : Nat) : Row (W.alloc (.cells #[.int .i64 (d : Int)] 3)) (.slice (some ⟨W.heap.size, 0, none⟩) 1 1) [d] := by
  refine ⟨rfl, .inr ⟨W.heap.size, 1, #[.int .i64 (d : Int)], rfl, Nat.zero_le _, ?_, Nat.le_refl _, by decide, rfl, rfl⟩⟩
  exact heap_alloc_new W _
theorem trim_oneK {d : Nat} : trim [d] = Dg.dg d := by unfold trim; simp [Dg.val]
theorem ballK {w W : World} (h : Below w.heap.size w W) (o : Obj) : Below w.heap.size w (W.alloc o) := h.alloc h.size o
theorem bstepK {w W w1 : World} (h : Below w.heap.size w W) (k : Below W.heap.size W w1) : Below w.heap.size w w1 := h.trans (k.mono h.size)
theorem sq_lt {a b : Nat} (h : a * a < b * b) : a < b := by
  rcases Nat.lt_or_ge a b with x | x
  · exact x
  · have := Nat.mul_self_le_mul_self x; omega

/-- Where the digits' search stands. -/
def RootO (w : World) (a j : Nat) (q k : Value) (W : World) : Prop := ∃ Q : Nat, k = .int .i64 ((j : Int) - 1) ∧ j ≤ 97 ∧ Row W q (Dg.dg Q) ∧ Q * Q ≤ a ∧ a < (Q + 10 ^ j) * (Q + 10 ^ j) ∧ Below w.heap.size w W
def RootI (w1 : World) (a Q i : Nat) (u : Value) (m : Nat) (q d : Value) (W : World) : Prop := q = u ∧ d = .int .i64 (m : Int) ∧ m ≤ 9 ∧ a < (Q + (m + 1) * 10 ^ i) * (Q + (m + 1) * 10 ^ i) ∧ Below w1.heap.size w1 W
def RetSq (a : Nat) (w : World) (e : Ending) (w' : World) : Prop := ∃ r : Nat, r * r ≤ a ∧ a < (r + 1) * (r + 1) ∧ RetRow (Dg.dg r) w e w'

set_option maxRecDepth 100000 in
set_option maxHeartbeats 8000000 in
theorem rroot_any (v : Value) (a : Nat) (la : (Dg.dg a).length ≤ 190) (w : World) (h : Row w v (Dg.dg a)) : Calls Tryd.prog 39 #[v] w (RetSq a w) := by
  have H := Lib.hid h
  obtain ⟨A, ca, rfl⟩ := slice_of h
  have ab := (Dg.dg_bounds a).1
  have AB := Lib.hid (show a < 10 ^ 190 from Nat.lt_of_lt_of_le ab (Nat.pow_le_pow_right (by decide) la))
  obtain ⟨L, hL⟩ : ∃ L, L = (Dg.dg a).length := ⟨_, rfl⟩
  rw [← hL] at ab la H ⊢
  obtain ⟨K, hK⟩ : ∃ K, K = (L + 1) / 2 := ⟨_, rfl⟩
  have J0 := Lib.hid (show a < 10 ^ (K + 1) * 10 ^ (K + 1) by
    rw [← Nat.pow_add]
    exact Nat.lt_of_lt_of_le ab (Nat.pow_le_pow_right (by decide) (by omega)))
  clear ab
  have K95 : K ≤ 95 := by omega
  have f3 : ((L : Int) + 1).tdiv 2 = (K : Int) := by rw [Int.tdiv_eq_ediv_of_nonneg (by omega)]; omega
  have LA := Lib.hid la
  have HL := Lib.hid hL
  clear h hL hK
  go_enter Tryd.func39, Tryd.ntmps39
  go_wp2
  go_loopg [3, 4] (K + 1) (fun j q k W => RootO w a j q k W)
  case atStart => exact ⟨0, by go_num, by omega, by rw [Dg.dg_zero]; exact Row.nil, by omega, by rw [Nat.zero_add]; exact J0.out, Below.refl _ _⟩
  case round =>
    clear f3
    obtain ⟨Q, rfl, j97, RQ, q1, q2, HB⟩ := hrel
    have HQ := Lib.hid RQ
    have Q1 := Lib.hid q1
    have Q2 := Lib.hid q2
    clear RQ q1 q2
    rcases Nat.eq_zero_or_pos gk with g0 | g0
    · subst g0
      have ek : (((0 : Nat) : Int) - 1) = -1 := rfl
      rw [ek]
      clear ek
      go_wp2
      go_ret
      exact ⟨Q, Q1.out, by have := Q2.out; rw [Nat.pow_zero] at this; exact this, _, rfl, HQ.out, HB⟩
    · obtain ⟨i, rfl⟩ : ∃ i, gk = i + 1 := ⟨gk - 1, by omega⟩
      have ek : (((i + 1 : Nat) : Int) - 1) = (i : Int) := by omega
      rw [ek]
      have k0 : (0 : Int) ≤ (i : Int) := by omega
      have I96 := Lib.hid (show i ≤ 96 by omega)
      clear ek j97 K95 g0
      have fw : wrap64 ((i : Int) - 1) = (i : Int) - 1 := by have := I96.out; unfold wrap64; omega
      obtain ⟨wo, rfl⟩ : ∃ wo : World, wo = wr := ⟨_, rfl⟩
      obtain ⟨N9, h9⟩ : ∃ n, n = 9 := ⟨_, rfl⟩
      have H9 := Lib.hid h9
      clear h9
      go_wp2
      go_loopg [3, 5] N9 (fun m q d W => RootI wo a Q i u3 m q d W)
      case atStart => exact ⟨rfl, by rw [H9.out]; rfl, by rw [H9.out]; exact Nat.le_refl _, by have t := Q2.out; rw [Nat.pow_succ, Nat.mul_comm (10 ^ i) 10] at t; rw [H9.out]; exact t, Below.refl _ _⟩
      case round =>
        obtain ⟨rfl, rfl, m9, m2, HBi⟩ := hrel
        have M2 := Lib.hid m2
        clear m2
        rcases Nat.eq_zero_or_pos gk with g0 | g0
        · subst g0
          go_wp2
          go_roundg i
          case measure => omega
          case rel => exact ⟨Q, by first | rfl | (have := I96.out; go_num), by have := I96.out; omega, HQ.out.below HBi, Q1.out, by have := M2.out; rw [Nat.zero_add, Nat.one_mul] at this; exact this, bstepK HB HBi⟩
        · obtain ⟨m, rfl⟩ : ∃ m, gk = m + 1 := ⟨gk - 1, by omega⟩
          obtain ⟨d, hd⟩ : ∃ d, d = m + 1 := ⟨_, rfl⟩
          rw [← hd] at M2 ⊢
          have D9 := Lib.hid (show 0 < d ∧ d ≤ 9 by omega)
          have HD := Lib.hid hd
          have td : decide ((0 : Int) < (d : Int)) = true := decide_eq_true (by omega)
          have td' : decide (0 < d) = true := decide_eq_true (by omega)
          have fd : wrap64 ((d : Int) - 1) = (m : Int) := by unfold wrap64; omega
          clear m9 g0 hd
          obtain ⟨t, ht⟩ : ∃ t, t = Q + d * 10 ^ i := ⟨_, rfl⟩
          have QB := Lib.hid (show Q < 10 ^ 95 by
            apply sq_lt
            have := Q1.out
            have := AB.out
            rw [← Nat.pow_add]
            omega)
          have PB := Lib.hid (show d * 10 ^ i < 10 ^ 97 by
            have h1 : d * 10 ^ i ≤ 9 * 10 ^ i := Nat.mul_le_mul_right _ D9.out.2
            have h2 : 10 ^ i ≤ 10 ^ 96 := Nat.pow_le_pow_right (by decide) I96.out
            have h3 : 9 * 10 ^ i ≤ 9 * 10 ^ 96 := Nat.mul_le_mul_left _ h2
            have h4 : (9 : Nat) * 10 ^ 96 < 10 ^ 97 := by decide +kernel
            omega)
          have TB := Lib.hid (show t < 10 ^ 98 by
            rw [ht]
            have h1 := QB.out
            have h2 := PB.out
            have h3 : (10 : Nat) ^ 95 + 10 ^ 97 < 10 ^ 98 := by decide +kernel
            omega)
          have LT := Lib.hid (Dg.dg_length_le TB.out)
          have LQ := Lib.hid (Dg.dg_length_le QB.out)
          have LP := Lib.hid (Dg.dg_length_le PB.out)
          have LTT := Lib.hid (show (Dg.dg (t * t)).length ≤ 196 from Dg.dg_length_le (Nat.lt_of_lt_of_le (Nat.mul_lt_mul'' TB.out TB.out) (by rw [← Nat.pow_add]; exact Nat.le_refl _)))
          have TR := Lib.hid (fun v W (h : Row W v [d]) => trim_any v [d] (by simp) (by intro x hx; rw [List.mem_singleton.1 hx]; have := D9.out; omega) W h)
          have SH := Lib.hid (fun v W (h : Row W v (trim [d])) => shift_any v d i (by have := I96.out; omega) (by have := @Dg.dg_length_le d 1 (by have := D9.out; omega); omega) W (by rw [trim_oneK] at h; exact h))
          have AD := Lib.hid (fun v W (h1 : Row W u3 (Dg.dg Q)) (h2 : Row W v (Dg.dg (d * 10 ^ i))) => radd_any u3 v (Dg.dg Q) (Dg.dg (d * 10 ^ i)) (by have := LQ.out; omega) (by have := LP.out; omega) (Dg.dg_lt _) (Dg.dg_lt _) W h1 h2)
          have MU := Lib.hid (fun v W (h : Row W v (Dg.dg t)) => rmul_any v v t t (by have := LT.out; omega) (by have := LT.out; omega) W h h)
          have CM := Lib.hid (fun v W (h1 : Row W v (Dg.dg (t * t))) (h2 : Row W (.slice A L ca) (Dg.dg a)) => rcmp_any v (.slice A L ca) (t * t) a (by have := LTT.out; omega) (by have := LA.out; rw [HL.out] at this; omega) W h1 h2)
          have HT := Lib.hid ht
          clear QB PB LT LQ LP LTT ht
          go_wp2_with fail
          refine (TR.out _ _ (row_newK _ d)).mono ?_
          rintro e w1 ⟨v1, rfl, R1, hb1⟩
          have B1 : Below wo.heap.size wo w1 := bstepK (ballK HBi _) hb1
          have HR1 := Lib.hid R1
          clear R1 hb1 TR HBi
          obtain ⟨A1, c1, e1⟩ := slice_of HR1.out
          subst e1
          generalize (trim [d]).length = L1 at *
          go_wp2_with fail
          refine (SH.out _ _ HR1.out).mono ?_
          rintro e w2 ⟨v2, rfl, R2, hb2⟩
          have B2 : Below wo.heap.size wo w2 := bstepK B1 hb2
          have HR2 := Lib.hid R2
          clear R2 hb2 SH B1 HR1
          obtain ⟨A2, c2, e2⟩ := slice_of HR2.out
          subst e2
          generalize (Dg.dg (d * 10 ^ i)).length = L2 at *
          go_wp2_with fail
          refine (AD.out _ _ (HQ.out.below B2) HR2.out).mono ?_
          rintro e w3 ⟨v3, rfl, R3, hb3⟩
          rw [Dg.val_dg, Dg.val_dg, ← HT.out] at R3
          have B3 : Below wo.heap.size wo w3 := bstepK B2 hb3
          have HR3 := Lib.hid R3
          clear R3 hb3 AD B2 HR2
          obtain ⟨A3, c3, e3⟩ := slice_of HR3.out
          subst e3
          generalize (Dg.dg t).length = L3 at *
          go_wp2_with fail
          refine (MU.out _ _ HR3.out).mono ?_
          rintro e w4 ⟨v4, rfl, R4, hb4⟩
          have B4 : Below wo.heap.size wo w4 := bstepK B3 hb4
          have HR4 := Lib.hid R4
          have HT4 := Lib.hid (HR3.out.below hb4)
          clear R4 hb4 MU B3 HR3
          obtain ⟨A4, c4, e4⟩ := slice_of HR4.out
          subst e4
          generalize (Dg.dg (t * t)).length = L4 at *
          go_wp2_with fail
          refine (CM.out _ _ HR4.out (H.out.below (bstepK HB B4))).mono ?_
          rintro e w5 ⟨rfl, hb5⟩
          have B5 : Below wo.heap.size wo w5 := bstepK B4 hb5
          have HT5 := Lib.hid (HT4.out.below hb5)
          clear hb5 CM B4 HR4 HT4
          rcases Nat.lt_or_ge a (t * t) with gt | le
          · have tc : decide (cmpN (t * t) a ≤ 0) = false := by rw [cmpN_gt gt]; decide
            generalize cmpN (t * t) a = cv at *
            have GT := Lib.hid gt
            clear gt
            go_wp2
            go_roundg m
            case measure => have := HD.out; omega
            case rel => exact ⟨rfl, by first | rfl | (have := HD.out; have := D9.out; go_num), by have := HD.out; have := D9.out; omega, by have := GT.out; rw [HT.out, HD.out] at this; exact this, B5⟩
          · have tc : decide (cmpN (t * t) a ≤ 0) = true := by
              rcases Nat.lt_or_ge (t * t) a with x | x
              · rw [cmpN_lt x]; decide
              · rw [show t * t = a by omega, cmpN_eq]; decide
            generalize cmpN (t * t) a = cv at *
            have LE := Lib.hid le
            clear le
            go_wp2
            go_roundg i
            case measure => omega
            case rel => exact ⟨t, by first | rfl | (have := I96.out; go_num), by have := I96.out; omega, HT5.out, LE.out, by have := M2.out; rw [HT.out, Nat.add_assoc, ← Nat.succ_mul]; exact this, bstepK HB B5⟩
end Go.Proofs.YtncpdoeikebomaaDoor

/-
  The reference's exact: a size with as few noughts behind it as an exponent asks, as a contract of its call.
-/
namespace Go.Proofs.YtncpdoeikebomaaDoor
open Go.RowKit

theorem row_firstX {W : World} {v : Value} {Q : Nat} (h : Row W v (Dg.dg Q)) (z : Q ≠ 0) : ∃ g cap, v = .slice (some ⟨g, 0, none⟩) (Dg.dg Q).length cap ∧ 0 < (Dg.dg Q).length ∧ (Dg.dg Q).length ≤ cap ∧ W.cell? ⟨g, 0, none⟩ = some (.int .i64 ((Q % 10 : Nat) : Int)) ∧ g < W.heap.size := by
  have e := Dg.dg_pos z
  rcases h.form with ⟨-, h0⟩ | ⟨g, cap, rfl, h1, -, h3, h4⟩
  · rw [e] at h0; cases h0
  · have l : 0 < (Dg.dg Q).length := by rw [e]; simp
    refine ⟨g, cap, rfl, l, h1, ?_, h3⟩
    have := h4 0 l
    rw [e] at this
    simpa using this
/-- Where the noughts are left out. -/
def ExR (w V : World) (q : Nat) (e like : Int) (j : Nat) (v x : Value) (W : World) : Prop := ∃ (N i : Nat), i + j = (like - e).toNat ∧ x = .int .i64 (e + (i : Int)) ∧ Row W v (Dg.dg N) ∧ N * 10 ^ i = q ∧ HoldsF W w.heap.size false (.slice none 0 0) 0 ∧ (∃ cs f, W.heap[w.heap.size]? = some (.cells cs 36 f)) ∧ Below w.heap.size w W ∧ Below V.heap.size V W
theorem part_one {W : World} {g cap N : Nat} (h : Row W (.slice (some ⟨g, 0, none⟩) (Dg.dg N).length cap) (Dg.dg N)) (z : N ≠ 0) : Part W g 1 (cap - 1) (Dg.dg (N / 10)) ∧ (Dg.dg N).length - 1 = (Dg.dg (N / 10)).length := by
  have e := Dg.dg_pos z
  have el : (Dg.dg N).length = (Dg.dg (N / 10)).length + 1 := by rw [e]; simp
  rcases h.form with ⟨h0, _⟩ | ⟨g', cap', h0, h1, h2, h3, h4⟩
  · cases h0
  · cases h0
    refine ⟨⟨by omega, by omega, h3, fun k hk => ?_⟩, by omega⟩
    have := h4 (1 + k) (by omega)
    rw [this, e]
    congr 3
    simp [List.getD, Nat.add_comm 1 k]
theorem trim_rest (g cap N : Nat) (z : N ≠ 0) (hl : (Dg.dg N).length ≤ 1000) (W : World) (h : Row W (.slice (some ⟨g, 0, none⟩) (Dg.dg N).length cap) (Dg.dg N)) : Calls Tryd.prog 50 #[.slice (some ⟨g, 1, none⟩) ((Dg.dg N).length - 1) (cap - 1)] W (RetRow (Dg.dg (N / 10)) W) := by
  obtain ⟨p1, p2⟩ := part_one h z
  have := trimP_any g 1 (cap - 1) (Dg.dg (N / 10)) (by omega) (Dg.dg_lt _) W p1
  unfold trim at this
  rw [Dg.val_dg] at this
  rw [p2]
  exact this
/-- What is left: as many noughts fewer as the exponent is greater; no more can be left out, or none needs. -/
def ExP (q : Nat) (e like : Int) (N : Nat) (x : Int) : Prop := ∃ i : Nat, x = e + (i : Int) ∧ N * 10 ^ i = q ∧ i ≤ (like - e).toNat ∧ (i = (like - e).toNat ∨ N % 10 ≠ 0 ∨ N = 0)

set_option maxRecDepth 100000 in
set_option maxHeartbeats 4000000 in
theorem exact_any (v : Value) (q : Nat) (e like : Int) (hq : q < 10 ^ 80) (h1 : -20000 ≤ e) (h2 : e ≤ 20000) (h3 : -20000 ≤ like) (h4 : like ≤ 20000) (w : World) (r : Row w v (Dg.dg q)) :
    Calls Tryd.prog 42 #[v, .int .i64 e, .int .i64 like] w (RetF (fun n' v' x' W => n' = false ∧ ∃ N, Row W v' (Dg.dg N) ∧ ExP q e like N x') w) := by
  have R := Lib.hid r
  have Q80 := Lib.hid hq
  clear r hq
  go_enter Tryd.func42, Tryd.ntmps42
  go_upto_region 1 with fail
  have B := Lib.hid (ballD1 (Below.refl w.heap.size w) (.cells #[.bool false, .slice none 0 0, .int .i64 0] 36))
  have A1 := Lib.hid (show HoldsF (w.alloc (.cells #[.bool false, .slice none 0 0, .int .i64 0] 36)) w.heap.size false (.slice none 0 0) 0 from by simp [HoldsF, go_sem])
  have A2 := Lib.hid (show (w.alloc (.cells #[.bool false, .slice none 0 0, .int .i64 0] 36)).heap[w.heap.size]? = some (.cells #[.bool false, .slice none 0 0, .int .i64 0] 36 (0, 0)) from heap_alloc_new _ _)
  replace R := Lib.hid (R.out.alloc' (.cells #[.bool false, .slice none 0 0, .int .i64 0] 36))
  generalize w.alloc (.cells #[.bool false, .slice none 0 0, .int .i64 0] 36) = V at *
  go_loopg [0, 1] ((like - e).toNat) (fun j v x W => ExR w V q e like j v x W)
  case atStart => exact ⟨q, 0, by omega, by simp, R.out, by rw [Nat.pow_zero, Nat.mul_one], A1.out, ⟨_, _, A2.out⟩, B.out, Below.refl _ _⟩
  case round =>
    obtain ⟨N, i, hij, rfl, rN, nq, hA, ⟨cs, f, hC⟩, hB, hV⟩ := hrel
    have HIJ := Lib.hid hij
    have RN := Lib.hid rN
    have NQ := Lib.hid nq
    have HA := Lib.hid hA
    have HC := Lib.hid hC
    have HB := Lib.hid hB
    have HV := Lib.hid hV
    have NB := Lib.hid (show N < 10 ^ 80 from Nat.lt_of_le_of_lt (by have := nq; have : 0 < 10 ^ i := Nat.pos_of_ne_zero (by simp); rw [← nq]; exact Nat.le_mul_of_pos_right _ this) Q80.out)
    have LN := Lib.hid (Dg.dg_length_le NB.out)
    clear hij rN nq hA hC hB hV
    by_cases lt : e + (i : Int) < like
    · have t1 : decide (e + (i : Int) < like) = true := decide_eq_true lt
      by_cases z : N = 0
      · subst z
        have rl := RN.out
        obtain ⟨RA, RC, rfl⟩ := slice_of rl
        have l0 : (Dg.dg 0).length = 0 := by rw [Dg.dg_zero]; rfl
        rw [l0] at RN ⊢
        clear rl lt
        have fr := HA.out.2.1
        have fs := HA.out.1
        obtain ⟨b4, b5, b6⟩ := fr
        obtain ⟨b1, b2, b3⟩ := fs
        have b9 := HA.out.2.2
        go_wp2
        refine bodyPost_ret (v := Fv false (.slice RA 0 RC) (e + (i : Int))) (by simp [results, Tryd.results42, go_sem, *]) rfl ⟨false, _, _, ⟨rfl, 0, ?_, i, rfl, NQ.out, by have := HIJ.out; omega, .inr (.inr rfl)⟩, rfl, ?_⟩
        · exact Row.set3 RN.out (row_apart RN.out HC.out (by decide)) _ _ _
        · exact Below.setCell (p := ⟨w.heap.size, 2, none⟩) (Below.setCell (p := ⟨w.heap.size, 1, none⟩) (Below.setCell (p := ⟨w.heap.size, 0, none⟩) HB.out (Nat.le_refl _) _) (Nat.le_refl _) _) (Nat.le_refl _) _
      · obtain ⟨g, cap, rfl, l1, lc, hc, hg⟩ := row_firstX RN.out z
        have t2 : decide (0 < (((Dg.dg N).length : Nat) : Int)) = true := decide_eq_true (by omega)
        by_cases d : N % 10 = 0
        · have el : 2 ≤ (Dg.dg N).length := by
            rw [Dg.dg_pos z, Dg.dg_pos (by omega)]; simp
          rw [d] at hc
          have TR := Lib.hid (fun W h => trim_rest g cap N z (by have := LN.out; omega) W h)
          obtain ⟨LL, hLL⟩ : ∃ L, L = (Dg.dg N).length := ⟨_, rfl⟩
          rw [← hLL] at TR RN l1 lc t2 el ⊢
          have ne : ¬ 1 = cap := by omega
          have ne' : cap ≠ 1 := by omega
          have D0' := Lib.hid d
          have LTH := Lib.hid lt
          have Z := Lib.hid z
          clear d lt z hLL
          go_wp2_with fail
          refine (TR.out _ RN.out).mono ?_
          rintro e1 w1 ⟨v1, rfl, R1, hb⟩
          have HR1 := Lib.hid R1
          have HA1 := Lib.hid (HA.out.below hb)
          have HC1 := Lib.hid ((hb.block w.heap.size HA.out.2.2).trans HC.out)
          have HB1 := Lib.hid (bstep HB.out hb)
          have HV1 := Lib.hid (bstep HV.out hb)
          have fw : wrap64 (e + (i : Int) + 1) = e + ((i + 1 : Nat) : Int) := by have := HIJ.out; unfold wrap64; omega
          clear R1 hb hc hg t2 ne ne' el l1 lc
          go_wp2
          go_roundg (gk - 1)
          case measure => have := HIJ.out; have := LTH.out; omega
          case rel => exact ⟨N / 10, i + 1, by have := HIJ.out; have := LTH.out; omega, congrArg (Value.int .i64) fw, HR1.out, by have := NQ.out; rw [Nat.pow_succ, Nat.mul_comm (10 ^ i) 10, ← Nat.mul_assoc, Nat.div_mul_cancel (Nat.dvd_of_mod_eq_zero D0'.out)]; exact this, HA1.out, ⟨_, _, HC1.out⟩, HB1.out, HV1.out⟩
        · have t3 : (((N % 10 : Nat) : Int) == 0) = false := by simp; omega
          have DN := Lib.hid d
          generalize ((N % 10 : Nat) : Int) = dd at *
          obtain ⟨LL, hLL⟩ : ∃ L, L = (Dg.dg N).length := ⟨_, rfl⟩
          rw [← hLL] at RN l1 lc t2 ⊢
          have RNH : Row wr (.slice (some ⟨g, 0, none⟩) LL cap) (Dg.dg N) := RN.out
          clear lt z d
          have fr := HA.out.2.1
          have fs := HA.out.1
          obtain ⟨b4, b5, b6⟩ := fr
          obtain ⟨b1, b2, b3⟩ := fs
          have b9 := HA.out.2.2
          go_wp2
          refine bodyPost_ret (v := Fv false (.slice (some ⟨g, 0, none⟩) LL cap) (e + (i : Int))) (by simp [results, Tryd.results42, go_sem, *]) rfl ⟨false, _, _, ⟨rfl, N, ?_, i, rfl, NQ.out, by have := HIJ.out; omega, .inr (.inl DN.out)⟩, rfl, ?_⟩
          · exact Row.set3 RN.out (row_apart RN.out HC.out (by decide)) _ _ _
          · exact Below.setCell (p := ⟨w.heap.size, 2, none⟩) (Below.setCell (p := ⟨w.heap.size, 1, none⟩) (Below.setCell (p := ⟨w.heap.size, 0, none⟩) HB.out (Nat.le_refl _) _) (Nat.le_refl _) _) (Nat.le_refl _) _
    · have t1 : decide (e + (i : Int) < like) = false := decide_eq_false lt
      have GE := Lib.hid lt
      have rl := RN.out
      obtain ⟨RA, RC, rfl⟩ := slice_of rl
      generalize (Dg.dg N).length = LL at *
      clear lt rl
      have fr := HA.out.2.1
      have fs := HA.out.1
      obtain ⟨b4, b5, b6⟩ := fr
      obtain ⟨b1, b2, b3⟩ := fs
      have b9 := HA.out.2.2
      go_wp2
      refine bodyPost_ret (v := Fv false (.slice RA LL RC) (e + (i : Int))) (by simp [results, Tryd.results42, go_sem, *]) rfl ⟨false, _, _, ⟨rfl, N, ?_, i, rfl, NQ.out, by have := HIJ.out; omega, .inl (by have := HIJ.out; have := GE.out; omega)⟩, rfl, ?_⟩
      · exact Row.set3 RN.out (row_apart RN.out HC.out (by decide)) _ _ _
      · exact Below.setCell (p := ⟨w.heap.size, 2, none⟩) (Below.setCell (p := ⟨w.heap.size, 1, none⟩) (Below.setCell (p := ⟨w.heap.size, 0, none⟩) HB.out (Nat.le_refl _) _) (Nat.le_refl _) _) (Nat.le_refl _) _
end Go.Proofs.YtncpdoeikebomaaDoor

/-
  The reference's Fit of a number that is nothing, and of one that may be as it is: each as a contract of its call.
-/
namespace Go.Proofs.YtncpdoeikebomaaDoor
open Go.RowKit

/-- A number of the document's and whether there is one. -/
def RetFB (F : Bool → Value → Int → Bool → World → Prop) (w : World) (e : Ending) (w' : World) : Prop := ∃ n v x ok, F n v x ok w' ∧ e = .returned (.tuple #[Fv n v x, .bool ok]) ∧ Below w.heap.size w w'
set_option maxRecDepth 100000 in
set_option maxHeartbeats 4000000 in
theorem rfit_same (m : Int) (na : Bool) (v : Value) (c : Nat) (x : Int) (hc : c < 10 ^ 34) (z : c ≠ 0) (x1 : -6176 ≤ x) (x2 : x ≤ 6111) (w : World) (r : Row w v (Dg.dg c)) :
    Calls Tryd.prog 38 #[Fv na v x, .bool false, .int .i64 m] w (RetFB (fun n' v' x' ok W => n' = na ∧ x' = x ∧ ok = true ∧ Row W v' (Dg.dg c)) w) := by
  have R := Lib.hid r
  obtain ⟨A, C, rfl⟩ := slice_of r
  have L34 : (Dg.dg c).length ≤ 34 := Dg.dg_length_le hc
  have L0 : 0 < (Dg.dg c).length := by rw [Dg.dg_pos z]; simp
  generalize (Dg.dg c).length = L at *
  have f1 : wrap64 ((L : Int) - 34) = (L : Int) - 34 := by unfold wrap64; omega
  have f2 : wrap64 (-6176 - x) = -6176 - x := by unfold wrap64; omega
  obtain ⟨p, hp⟩ : ∃ p, p = decide ((L : Int) - 34 < -6176 - x) := ⟨_, rfl⟩
  have t1 : decide ((L : Int) - 34 < -6176 - x) = p := hp.symm
  have q : p = true → ¬ (0 < -6176 - x) := by intro _; omega
  have t2 : ((L : Int) == 0) = false := by simp; omega
  have t3 : decide (34 < (L : Int)) = false := decide_eq_false (by omega)
  have t3' : decide (34 < L) = false := decide_eq_false (by omega)
  have t4 : decide (6111 < x) = false := decide_eq_false (by omega)
  have t5 : decide (0 < (L : Int) - 34) = false := decide_eq_false (by omega)
  have t6 : decide (0 < -6176 - x) = false := decide_eq_false (by omega)
  have t7 : decide (-6176 - x < 0) = true ∨ -6176 - x = 0 := by by_cases y : -6176 - x < 0; exact .inl (decide_eq_true y); exact .inr (by omega)
  have t8 : decide ((L : Int) - 34 < 0) = true ∨ (L : Int) - 34 = 0 := by by_cases y : (L : Int) - 34 < 0; exact .inl (decide_eq_true y); exact .inr (by omega)
  have t9 : decide (x < -6176) = false := decide_eq_false (by omega)
  have t10 : ¬ x < -6176 := by omega
  have t11 : ¬ 6111 < x := by omega
  clear r hp q L34 L0 hc z x1 x2
  cases p
  · rcases t8 with t8 | t8
    all_goals
      go_enter Tryd.func38, Tryd.ntmps38
      go_upto_region 1 with fail
      have B := Lib.hid (ballD1 (ballD1 (Below.refl w.heap.size w) (.cells #[.bool na, .slice A L C, .int .i64 x] 36)) (.cells #[.bool false, .slice none 0 0, .int .i64 0] 36))
      have A0 := Lib.hid (show HoldsF ((w.alloc (.cells #[.bool na, .slice A L C, .int .i64 x] 36)).alloc (.cells #[.bool false, .slice none 0 0, .int .i64 0] 36)) w.heap.size na (.slice A L C) x from by simp [HoldsF, go_sem])
      have A1 := Lib.hid (show HoldsF ((w.alloc (.cells #[.bool na, .slice A L C, .int .i64 x] 36)).alloc (.cells #[.bool false, .slice none 0 0, .int .i64 0] 36)) (w.heap.size + 1) false (.slice none 0 0) 0 from by simp [HoldsF, go_sem])
      have A2 := Lib.hid (show ((w.alloc (.cells #[.bool na, .slice A L C, .int .i64 x] 36)).alloc (.cells #[.bool false, .slice none 0 0, .int .i64 0] 36)).heap[w.heap.size + 1]? = some (.cells #[.bool false, .slice none 0 0, .int .i64 0] 36 (0, 0)) from heap_new2 _ _ _)
      have RR := Lib.hid ((R.out.alloc' (.cells #[.bool na, .slice A L C, .int .i64 x] 36)).alloc' (.cells #[.bool false, .slice none 0 0, .int .i64 0] 36))
      generalize ((w.alloc (.cells #[.bool na, .slice A L C, .int .i64 x] 36)).alloc (.cells #[.bool false, .slice none 0 0, .int .i64 0] 36)) = V at *
      obtain ⟨⟨a1, a2, a3⟩, -, a9⟩ := A0.out
      obtain ⟨⟨b1, b2, b3⟩, ⟨b4, b5, b6⟩, b9⟩ := A1.out
      go_wp2
      refine wp_loop_rounds 1 ?_
      rw [rounds_succ]
      go_wp2
      refine bodyPost_ret (v := .tuple #[Fv na (.slice A L C) x, .bool true]) (by simp [results, Tryd.results38, go_sem, *]) rfl ⟨na, _, x, true, ⟨rfl, rfl, rfl, ?_⟩, rfl, Below.set1' (Below.set1' (Below.set1' B.out _ _ (by omega) _) _ _ (by omega) _) _ _ (by omega) _⟩
      exact Row.set3 RR.out (row_apart RR.out A2.out (by decide)) _ _ _
  · rcases t7 with t7 | t7
    all_goals
      try rw [t7] at t1
      go_enter Tryd.func38, Tryd.ntmps38
      go_upto_region 1 with fail
      have B := Lib.hid (ballD1 (ballD1 (Below.refl w.heap.size w) (.cells #[.bool na, .slice A L C, .int .i64 x] 36)) (.cells #[.bool false, .slice none 0 0, .int .i64 0] 36))
      have A0 := Lib.hid (show HoldsF ((w.alloc (.cells #[.bool na, .slice A L C, .int .i64 x] 36)).alloc (.cells #[.bool false, .slice none 0 0, .int .i64 0] 36)) w.heap.size na (.slice A L C) x from by simp [HoldsF, go_sem])
      have A1 := Lib.hid (show HoldsF ((w.alloc (.cells #[.bool na, .slice A L C, .int .i64 x] 36)).alloc (.cells #[.bool false, .slice none 0 0, .int .i64 0] 36)) (w.heap.size + 1) false (.slice none 0 0) 0 from by simp [HoldsF, go_sem])
      have A2 := Lib.hid (show ((w.alloc (.cells #[.bool na, .slice A L C, .int .i64 x] 36)).alloc (.cells #[.bool false, .slice none 0 0, .int .i64 0] 36)).heap[w.heap.size + 1]? = some (.cells #[.bool false, .slice none 0 0, .int .i64 0] 36 (0, 0)) from heap_new2 _ _ _)
      have RR := Lib.hid ((R.out.alloc' (.cells #[.bool na, .slice A L C, .int .i64 x] 36)).alloc' (.cells #[.bool false, .slice none 0 0, .int .i64 0] 36))
      generalize ((w.alloc (.cells #[.bool na, .slice A L C, .int .i64 x] 36)).alloc (.cells #[.bool false, .slice none 0 0, .int .i64 0] 36)) = V at *
      obtain ⟨⟨a1, a2, a3⟩, -, a9⟩ := A0.out
      obtain ⟨⟨b1, b2, b3⟩, ⟨b4, b5, b6⟩, b9⟩ := A1.out
      go_wp2
      refine wp_loop_rounds 1 ?_
      rw [rounds_succ]
      go_wp2
      refine bodyPost_ret (v := .tuple #[Fv na (.slice A L C) x, .bool true]) (by simp [results, Tryd.results38, go_sem, *]) rfl ⟨na, _, x, true, ⟨rfl, rfl, rfl, ?_⟩, rfl, Below.set1' (Below.set1' (Below.set1' B.out _ _ (by omega) _) _ _ (by omega) _) _ _ (by omega) _⟩
      exact Row.set3 RR.out (row_apart RR.out A2.out (by decide)) _ _ _
set_option maxRecDepth 100000 in
set_option maxHeartbeats 4000000 in
theorem rfit_zero (m : Int) (x : Int) (x1 : -6000 ≤ x) (x2 : x ≤ 6111) (w : World) :
    Calls Tryd.prog 38 #[Fv false (.slice none 0 0) x, .bool false, .int .i64 m] w (RetFB (fun n' v' x' ok _ => n' = false ∧ v' = .slice none 0 0 ∧ x' = x ∧ ok = true) w) := by
  have f2 : wrap64 (-6176 - x) = -6176 - x := by unfold wrap64; omega
  have t1 : decide (-34 < -6176 - x) = false := decide_eq_false (by omega)
  have t4 : decide (6111 < x) = false := decide_eq_false (by omega)
  have t9 : decide (x < -6176) = false := decide_eq_false (by omega)
  have t10 : ¬ x < -6176 := by omega
  have t11 : ¬ 6111 < x := by omega
  clear x1 x2
  go_enter Tryd.func38, Tryd.ntmps38
  go_upto_region 1 with fail
  have B := Lib.hid (ballD1 (ballD1 (Below.refl w.heap.size w) (.cells #[.bool false, .slice none 0 0, .int .i64 x] 36)) (.cells #[.bool false, .slice none 0 0, .int .i64 0] 36))
  have A0 := Lib.hid (show HoldsF ((w.alloc (.cells #[.bool false, .slice none 0 0, .int .i64 x] 36)).alloc (.cells #[.bool false, .slice none 0 0, .int .i64 0] 36)) w.heap.size false (.slice none 0 0) x from by simp [HoldsF, go_sem])
  have A1 := Lib.hid (show HoldsF ((w.alloc (.cells #[.bool false, .slice none 0 0, .int .i64 x] 36)).alloc (.cells #[.bool false, .slice none 0 0, .int .i64 0] 36)) (w.heap.size + 1) false (.slice none 0 0) 0 from by simp [HoldsF, go_sem])
  generalize ((w.alloc (.cells #[.bool false, .slice none 0 0, .int .i64 x] 36)).alloc (.cells #[.bool false, .slice none 0 0, .int .i64 0] 36)) = V at *
  obtain ⟨⟨a1, a2, a3⟩, -, a9⟩ := A0.out
  obtain ⟨⟨b1, b2, b3⟩, ⟨b4, b5, b6⟩, b9⟩ := A1.out
  go_wp2
  refine bodyPost_ret (v := .tuple #[Fv false (.slice none 0 0) x, .bool true]) (by simp [results, Tryd.results38, go_sem, *]) rfl ⟨false, _, x, true, ⟨rfl, rfl, rfl, rfl⟩, rfl, Below.set1' (Below.set1' (Below.set1' B.out _ _ (by omega) _) _ _ (by omega) _) _ _ (by omega) _⟩
end Go.Proofs.YtncpdoeikebomaaDoor

/-
  The reference's Fit of a long size with a little more behind it, as a contract of its call.
-/
namespace Go.Proofs.YtncpdoeikebomaaDoor
open Go.RowKit

theorem HoldsF.farZ {W : World} {g : Nat} {n : Bool} {v : Value} {x : Int} (H : HoldsF W g n v x) {p : Addr} (hp : g ≠ p.block) (u : Value) : HoldsF (W.setCell p u) g n v x := by
  obtain ⟨⟨a, b, c⟩, ⟨a', b', c'⟩, s⟩ := H
  have k := Below.heap_setCell W p u g hp
  exact ⟨⟨(World.cell?_of_block (a := ⟨g, 0, none⟩) k).trans a, (World.cell?_of_block (a := ⟨g, 1, none⟩) k).trans b, (World.cell?_of_block (a := ⟨g, 2, none⟩) k).trans c⟩, ⟨(World.frozen?_of_block (a := ⟨g, 0, none⟩) k).trans a', (World.frozen?_of_block (a := ⟨g, 1, none⟩) k).trans b', (World.frozen?_of_block (a := ⟨g, 2, none⟩) k).trans c'⟩, by simpa using s⟩
theorem BlkD.set {W : World} {g : Nat} (h : BlkD W g) {p : Addr} (u : Value) (hp : g ≠ p.block) : BlkD (W.setCell p u) g := by
  obtain ⟨s, cs, f, h⟩ := h
  exact ⟨by simpa using s, cs, f, (Below.heap_setCell W p u g hp).trans h⟩
theorem BlkD.own {W : World} {g : Nat} (h : BlkD W g) (i : Nat) (u : Value) : BlkD (W.setCell ⟨g, i, none⟩ u) g := by
  obtain ⟨s, cs, f, h⟩ := h
  refine ⟨by simpa using s, cs.setIfInBounds i u, f, ?_⟩
  unfold World.setCell
  simp [Array.getElem?_modify, h]
theorem cut34 : cutN 1 false (10 ^ 34) 1 false = 10 ^ 33 := by decide +kernel
/-- What a long size becomes, a little more being behind it. -/
theorem fit_more_plain (N : Nat) (x : Int) (h1 : 10 ^ 34 ≤ N) (h2 : N < 10 ^ 60) (x1 : -6176 ≤ x) (x2 : x ≤ 6000) :
    (cutN 1 false N (nd N - 34) true = 10 ^ 34 → fitF 1 false N true x = some (false, 10 ^ 33, x + ((nd N - 34 : Nat) : Int) + 1)) ∧ (cutN 1 false N (nd N - 34) true ≠ 10 ^ 34 → fitF 1 false N true x = some (false, cutN 1 false N (nd N - 34) true, x + ((nd N - 34 : Nat) : Int))) ∧ cutN 1 false N (nd N - 34) true ≤ 10 ^ 34 ∧ cutN 1 false N (nd N - 34) true ≠ 0 ∧ 34 < nd N ∧ nd N ≤ 60 := by
  have b1 : nd N ≤ 60 := Dg.dg_length_le h2
  have b2 : 34 < nd N := by
    rcases Nat.lt_or_ge 34 (nd N) with y | y
    · exact y
    · have := (Dg.dg_bounds N).1
      have k := Nat.lt_of_lt_of_le this (Nat.pow_le_pow_right (by decide) y)
      omega
  have sN : surp N x = nd N - 34 := by unfold surp; omega
  have hB : N < B128 * B128 := Nat.lt_trans h2 (by unfold B128; decide)
  have le := cut_le (m := 1) (neg := false) (more := true) (x := x) hB
  rw [sN] at le
  have nz : cutN 1 false N (nd N - 34) true ≠ 0 := by
    have u := (upN_le 1 false N (nd N - 34) true).1
    rw [div_min hB] at u
    have lo := (Dg.dg_bounds N).2 (by have : 0 < 10 ^ 34 := by decide
                                      omega)
    have : 10 ^ (nd N - 34) ≤ N := Nat.le_trans (Nat.pow_le_pow_right (by decide) (show nd N - 34 ≤ (Dg.dg N).length - 1 by unfold nd; omega)) lo
    have : 1 ≤ N / 10 ^ (nd N - 34) := (Nat.one_le_div_iff (p10 _)).2 this
    omega
  have mx : min x 6145 = x := by omega
  refine ⟨fun e => ?_, fun e => ?_, le, nz, b2, b1⟩
  · unfold fitF fitT
    rw [mx, sN, if_pos e]
    unfold fitE
    rw [if_neg (by decide), if_pos (by omega)]
  · unfold fitF fitT
    rw [mx, sN, if_neg e]
    unfold fitE
    rw [if_neg nz, if_pos (by omega)]

set_option maxRecDepth 100000 in
set_option maxHeartbeats 8000000 in
theorem rfit_more (v : Value) (N : Nat) (x : Int) (h1 : 10 ^ 34 ≤ N) (h2 : N < 10 ^ 60) (x1 : -6176 ≤ x) (x2 : x ≤ 6000) (w : World) (r : Row w v (Dg.dg N)) :
    Calls Tryd.prog 38 #[Fv false v x, .bool true, .int .i64 1] w (RetFB (fun n' v' x' ok W => n' = false ∧ ok = true ∧ ∃ K, fitF 1 false N true x = some (false, K, x') ∧ Row W v' (Dg.dg K)) w) := by
  obtain ⟨p1, p2, p3, p4, p5, p6⟩ := fit_more_plain N x h1 h2 x1 x2
  have R := Lib.hid r
  obtain ⟨A, C, rfl⟩ := slice_of r
  have P1 := Lib.hid p1
  have P2 := Lib.hid p2
  have c77 : N < 10 ^ 77 := Nat.lt_trans h2 (by decide)
  have nz0 : N ≠ 0 := by
    intro e
    rw [e] at h1
    exact absurd h1 (by decide)
  have CU := Lib.hid (fun W (h : Row W (.slice A (Dg.dg N).length C) (Dg.dg N)) => rcut_any 1 (by decide) false (.slice A (Dg.dg N).length C) N x ((nd N : Int) - 34) (nd N - 34) true (by omega) (by omega) c77 (by omega) (.inr ⟨nz0, by omega⟩) W h)
  have CV := Lib.hid (fun (v : Value) (y : Int) W (h : Row W v (Dg.dg (10 ^ 34))) (hy : -1000000000000 ≤ y ∧ y ≤ 1000000000000) => rcut_any 1 (by decide) false v (10 ^ 34) y 1 1 false rfl (by decide) (by decide) hy (.inl rfl) W h)
  rw [cut34] at CV
  have hl : (Dg.dg N).length = nd N := rfl
  rw [hl] at R CU ⊢
  obtain ⟨L, hL⟩ : ∃ L, L = nd N := ⟨_, rfl⟩
  rw [← hL] at R CU P1 P2 p3 p4 p5 p6 ⊢
  obtain ⟨K, hK⟩ : ∃ K, K = cutN 1 false N (L - 34) true := ⟨_, rfl⟩
  rw [← hK] at CU P1 P2 p3 p4
  have ln : ((L - 34 : Nat) : Int) = (L : Int) - 34 := by omega
  rw [ln] at CU P1 P2
  have f2 : wrap64 (-6176 - x) = -6176 - x := by unfold wrap64; omega
  have f3 : wrap64 ((L : Int) - 34) = (L : Int) - 34 := by unfold wrap64; omega
  have t1 : decide ((L : Int) - 34 < -6176 - x) = false := decide_eq_false (by omega)
  have t2 : decide ((L : Int) - 34 < 0) = false := decide_eq_false (by omega)
  have t3 : decide (0 < (L : Int) - 34) = true := decide_eq_true (by omega)
  have t4 : decide (34 < (L : Int)) = true := decide_eq_true (by omega)
  have t5 : ¬ (L : Int) ≤ 34 := by omega
  have X := Lib.hid (show -6176 ≤ x ∧ x ≤ 6000 ∧ 34 < L ∧ L ≤ 60 from ⟨x1, x2, p5, p6⟩)
  have P3 := Lib.hid p3
  have P4 := Lib.hid p4
  have NE := Lib.hid (show w.heap.size + 1 ≠ w.heap.size by omega)
  clear h1 h2 x1 x2 r p1 p2 p3 p4 p5 p6 c77 nz0 hl hL hK ln
  go_enter Tryd.func38, Tryd.ntmps38
  go_upto_region 1 with fail
  have B := Lib.hid (ballD1 (ballD1 (Below.refl w.heap.size w) (.cells #[.bool false, .slice A L C, .int .i64 x] 36)) (.cells #[.bool false, .slice none 0 0, .int .i64 0] 36))
  have A0 := Lib.hid (show HoldsF ((w.alloc (.cells #[.bool false, .slice A L C, .int .i64 x] 36)).alloc (.cells #[.bool false, .slice none 0 0, .int .i64 0] 36)) w.heap.size false (.slice A L C) x from by simp [HoldsF, go_sem])
  have A1 := Lib.hid (show HoldsF ((w.alloc (.cells #[.bool false, .slice A L C, .int .i64 x] 36)).alloc (.cells #[.bool false, .slice none 0 0, .int .i64 0] 36)) (w.heap.size + 1) false (.slice none 0 0) 0 from by simp [HoldsF, go_sem])
  have BK0 := Lib.hid (BlkD.alloc (BlkD.new rfl) _ : BlkD ((w.alloc (.cells #[.bool false, .slice A L C, .int .i64 x] 36)).alloc (.cells #[.bool false, .slice none 0 0, .int .i64 0] 36)) w.heap.size)
  have BK1 := Lib.hid (BlkD.new (by simp) : BlkD ((w.alloc (.cells #[.bool false, .slice A L C, .int .i64 x] 36)).alloc (.cells #[.bool false, .slice none 0 0, .int .i64 0] 36)) (w.heap.size + 1))
  have RR := Lib.hid ((R.out.alloc' (.cells #[.bool false, .slice A L C, .int .i64 x] 36)).alloc' (.cells #[.bool false, .slice none 0 0, .int .i64 0] 36))
  generalize ((w.alloc (.cells #[.bool false, .slice A L C, .int .i64 x] 36)).alloc (.cells #[.bool false, .slice none 0 0, .int .i64 0] 36)) = V at *
  clear R
  obtain ⟨⟨a1, a2, a3⟩, -, a9⟩ := A0.out
  go_wp2_with fail
  refine (CU.out _ RR.out).mono ?_
  rintro e w1 ⟨n', v', x', ⟨e1, e2, RV0⟩, rfl, hb⟩
  subst e1 e2
  obtain ⟨VA, VC, rfl⟩ := slice_of RV0
  have RV := Lib.hid RV0
  have OFF0 := Lib.hid (off_of RV0 (BK0.out.below hb))
  have OFF1 := Lib.hid (off_of RV0 (BK1.out.below hb))
  replace A0 := Lib.hid (A0.out.below hb)
  replace A1 := Lib.hid (A1.out.below hb)
  replace BK0 := Lib.hid (BK0.out.below hb)
  replace BK1 := Lib.hid (BK1.out.below hb)
  replace B := Lib.hid (bstep B.out hb)
  clear hb RV0 CU RR a1 a2 a3 a9
  obtain ⟨LK, hLK⟩ : ∃ q, q = (Dg.dg K).length := ⟨_, rfl⟩
  rw [← hLK] at RV OFF0 OFF1 ⊢
  have HLK := Lib.hid hLK
  clear hLK
  obtain ⟨⟨a1, a2, a3⟩, ⟨a4, a5, a6⟩, a9⟩ := A0.out
  go_upto_region 8 with fail
  clear a1 a2 a3 a4 a5 a6 a9
  replace A0 := Lib.hid (A0.out.put3 (n' := false) (v' := (.slice VA LK VC)) (y := x + ((L : Int) - 34)))
  replace A1 := Lib.hid (((A1.out.farZ (p := ⟨w.heap.size, 0, none⟩) NE.out (.bool false)).farZ (p := ⟨w.heap.size, 1, none⟩) NE.out (.slice VA LK VC)).farZ (p := ⟨w.heap.size, 2, none⟩) NE.out (.int .i64 (x + ((L : Int) - 34))))
  replace RV := Lib.hid (RV.out.set3 OFF0.out (.bool false) (.slice VA LK VC) (.int .i64 (x + ((L : Int) - 34))))
  replace B := Lib.hid (Below.setCell (p := ⟨w.heap.size, 2, none⟩) (Below.setCell (p := ⟨w.heap.size, 1, none⟩) (Below.setCell (p := ⟨w.heap.size, 0, none⟩) B.out (Nat.le_refl _) (.bool false)) (Nat.le_refl _) (.slice VA LK VC)) (Nat.le_refl _) (.int .i64 (x + ((L : Int) - 34))))
  replace BK0 := Lib.hid (((BK0.out.own 0 (.bool false)).own 1 (.slice VA LK VC)).own 2 (.int .i64 (x + ((L : Int) - 34))))
  replace BK1 := Lib.hid (((BK1.out.set (p := ⟨w.heap.size, 0, none⟩) (.bool false) NE.out).set (p := ⟨w.heap.size, 1, none⟩) (.slice VA LK VC) NE.out).set (p := ⟨w.heap.size, 2, none⟩) (.int .i64 (x + ((L : Int) - 34))) NE.out)
  change Code.wp _ _ _ _ (((w1.setCell ⟨w.heap.size, 0, none⟩ (.bool false)).setCell ⟨w.heap.size, 1, none⟩ (.slice VA LK VC)).setCell ⟨w.heap.size, 2, none⟩ (.int .i64 (x + ((L : Int) - 34))))
  generalize (((w1.setCell ⟨w.heap.size, 0, none⟩ (.bool false)).setCell ⟨w.heap.size, 1, none⟩ (.slice VA LK VC)).setCell ⟨w.heap.size, 2, none⟩ (.int .i64 (x + ((L : Int) - 34)))) = S1 at *
  clear f2 f3 t1 t2 t3 t4 t5
  by_cases big : K = 10 ^ 34
  · have fe := P1.out big
    subst big
    have k35 : LK = 35 := by rw [HLK.out]; decide +kernel
    subst k35
    obtain ⟨⟨a1, a2, a3⟩, -, a9⟩ := A0.out
    go_wp2_with fail
    refine (CV.out _ _ _ RV.out (by have := X.out; omega)).mono ?_
    rintro e w2 ⟨n', v', x', ⟨e1, e2, RV1⟩, rfl, hb⟩
    subst e1
    obtain ⟨UA, UC, rfl⟩ := slice_of RV1
    have RW := Lib.hid RV1
    have OFG0 := Lib.hid (off_of RV1 (BK0.out.below hb))
    have OFG1 := Lib.hid (off_of RV1 (BK1.out.below hb))
    replace A0 := Lib.hid (A0.out.below hb)
    replace A1 := Lib.hid (A1.out.below hb)
    replace B := Lib.hid (bstep B.out hb)
    clear hb RV1 CV a1 a2 a3 a9
    obtain ⟨LU, hLU⟩ : ∃ q, q = (Dg.dg (10 ^ 33)).length := ⟨_, rfl⟩
    have lu : LU = 34 := by rw [hLU]; decide +kernel
    rw [← hLU] at RW OFG0 OFG1 ⊢
    clear hLU
    subst lu
    have e2' : x' = x + ((L : Int) - 34) + 1 := by rw [e2]; rfl
    clear e2
    have FE := Lib.hid fe
    rw [← e2'] at FE
    have XX := Lib.hid (show x' ≤ 6111 by have := X.out; omega)
    have t1 : decide (6111 < x') = false := decide_eq_false (by have := XX.out; omega)
    have t2 : ¬ 6111 < x' := by have := XX.out; omega
    clear e2' fe
    obtain ⟨⟨a1, a2, a3⟩, ⟨a4, a5, a6⟩, a9⟩ := A0.out
    go_upto_region 10 with fail
    clear a1 a2 a3 a4 a5 a6 a9
    replace A0 := Lib.hid (A0.out.put3 (n' := false) (v' := (.slice UA 34 UC)) (y := x'))
    replace A1 := Lib.hid (((A1.out.farZ (p := ⟨w.heap.size, 0, none⟩) NE.out (.bool false)).farZ (p := ⟨w.heap.size, 1, none⟩) NE.out (.slice UA 34 UC)).farZ (p := ⟨w.heap.size, 2, none⟩) NE.out (.int .i64 (x')))
    replace RW := Lib.hid (RW.out.set3 OFG0.out (.bool false) (.slice UA 34 UC) (.int .i64 (x')))
    replace B := Lib.hid (Below.setCell (p := ⟨w.heap.size, 2, none⟩) (Below.setCell (p := ⟨w.heap.size, 1, none⟩) (Below.setCell (p := ⟨w.heap.size, 0, none⟩) B.out (Nat.le_refl _) (.bool false)) (Nat.le_refl _) (.slice UA 34 UC)) (Nat.le_refl _) (.int .i64 (x')))
    change Code.wp _ _ _ _ (((w2.setCell ⟨w.heap.size, 0, none⟩ (.bool false)).setCell ⟨w.heap.size, 1, none⟩ (.slice UA 34 UC)).setCell ⟨w.heap.size, 2, none⟩ (.int .i64 (x')))
    generalize (((w2.setCell ⟨w.heap.size, 0, none⟩ (.bool false)).setCell ⟨w.heap.size, 1, none⟩ (.slice UA 34 UC)).setCell ⟨w.heap.size, 2, none⟩ (.int .i64 (x'))) = S2 at *
    obtain ⟨⟨a1, a2, a3⟩, -, a9⟩ := A0.out
    obtain ⟨⟨b1, b2, b3⟩, ⟨b4, b5, b6⟩, b9⟩ := A1.out
    go_wp2
    refine wp_loop_rounds 1 ?_
    rw [rounds_succ]
    go_wp2
    refine bodyPost_ret (v := .tuple #[Fv false (.slice UA 34 UC) x', .bool true]) (by simp [results, Tryd.results38, go_sem, *]) rfl ⟨false, _, _, true, ⟨rfl, rfl, _, FE.out, ?_⟩, rfl, Below.set1' (Below.set1' (Below.set1' B.out _ _ (by omega) _) _ _ (by omega) _) _ _ (by omega) _⟩
    exact Row.set3 RW.out OFG1.out _ _ _
  · have FE := Lib.hid (P2.out big)
    obtain ⟨xx, hxx⟩ : ∃ y, y = x + ((L : Int) - 34) := ⟨_, rfl⟩
    rw [← hxx] at FE A0
    have XX := Lib.hid (show xx ≤ 6111 by have := X.out; omega)
    have kb : LK ≤ 34 ∧ 0 < LK := by
      rw [HLK.out]
      refine ⟨Dg.dg_length_le (by have := P3.out; omega), ?_⟩
      rw [Dg.dg_pos P4.out]; simp
    have t1 : decide (6111 < xx) = false := decide_eq_false (by have := XX.out; omega)
    have t2 : ¬ 6111 < xx := by have := XX.out; omega
    have t3 : decide (34 < (LK : Int)) = false := decide_eq_false (by omega)
    have t3' : decide (34 < LK) = false := decide_eq_false (by omega)
    have t4 : ((LK : Int) == 0) = false := by simp; omega
    clear hxx big kb
    obtain ⟨⟨a1, a2, a3⟩, -, a9⟩ := A0.out
    obtain ⟨⟨b1, b2, b3⟩, ⟨b4, b5, b6⟩, b9⟩ := A1.out
    go_wp2
    refine wp_loop_rounds 1 ?_
    rw [rounds_succ]
    go_wp2
    refine bodyPost_ret (v := .tuple #[Fv false (.slice VA LK VC) xx, .bool true]) (by simp [results, Tryd.results38, go_sem, *]) rfl ⟨false, _, _, true, ⟨rfl, rfl, _, FE.out, ?_⟩, rfl, Below.set1' (Below.set1' (Below.set1' B.out _ _ (by omega) _) _ _ (by omega) _) _ _ (by omega) _⟩
    exact Row.set3 RV.out OFF1.out _ _ _
end Go.Proofs.YtncpdoeikebomaaDoor

/-
  The reference's root of a number that is not below 0: digits and exponent, as a contract of its call.
-/
namespace Go.Proofs.YtncpdoeikebomaaDoor
open Go.RowKit

theorem exact_root {q m N : Nat} {e like y : Int} (h : q * q = m * 10 ^ 80) (hm : m ≠ 0) (he : (like - e).toNat = 40) (hl : e ≤ like) (X : ExP q e like N y) : y = like ∧ N * N = m := by
  obtain ⟨i, rfl, h1, h2, h3⟩ := X
  have dv : 10 ^ 40 ∣ q := by
    have : (10 ^ 40) ^ 2 ∣ q ^ 2 := ⟨m, by rw [Nat.pow_two, h, ← Nat.pow_mul, Nat.mul_comm]⟩
    exact (Nat.pow_dvd_pow_iff (by decide)).1 this
  obtain ⟨k, rfl⟩ := dv
  have q0 : 10 ^ 40 * k ≠ 0 := by
    intro z
    rw [z] at h
    have := Nat.mul_eq_zero.1 h.symm
    rcases this with a | a
    · exact hm a
    · exact absurd a (by decide)
  have i40 : i = 40 := by
    rcases Nat.lt_or_ge i 40 with lt | ge
    · exfalso
      have e1 : N = k * 10 ^ (40 - i) := by
        have : N * 10 ^ i = (k * 10 ^ (40 - i)) * 10 ^ i := by
          rw [h1, Nat.mul_assoc, ← Nat.pow_add, show 40 - i + i = 40 by omega, Nat.mul_comm]
        exact Nat.eq_of_mul_eq_mul_right (Nat.pos_of_ne_zero (by simp)) this
      rcases h3 with a | a | a
      · omega
      · apply a
        rw [e1, show 40 - i = (39 - i) + 1 by omega, Nat.pow_succ, ← Nat.mul_assoc, Nat.mul_mod_left]
      · rw [a, Nat.zero_mul] at h1
        exact q0 h1.symm
    · omega
  subst i40
  refine ⟨by omega, ?_⟩
  have e2 : N * N * 10 ^ 80 = m * 10 ^ 80 := by
    rw [← h, ← h1, show (80 : Nat) = 40 + 40 from rfl, Nat.pow_add, Nat.mul_mul_mul_comm]
  exact Nat.eq_of_mul_eq_mul_right (by decide) e2
/-- What the reference's root is. -/
def RootR (c : Nat) (x : Int) (K : Nat) (y : Int) : Prop :=
  (K * K = c * 10 ^ (x % 2).toNat ∧ y = x / 2) ∨ (c ≠ 0 ∧ (∀ s : Nat, s * s ≠ c * 10 ^ (x % 2).toNat) ∧ ∃ q : Nat, q * q ≤ c * 10 ^ (x % 2).toNat * 10 ^ 80 ∧ c * 10 ^ (x % 2).toNat * 10 ^ 80 < (q + 1) * (q + 1) ∧ fitF 1 false q true (x / 2 - 40) = some (false, K, y))
theorem no_square {m q : Nat} (_h1 : q * q ≤ m * 10 ^ 80) (h2 : m * 10 ^ 80 < (q + 1) * (q + 1)) (h : q * q ≠ m * 10 ^ 80) (s : Nat) : s * s ≠ m := by
  intro e
  have e2 : (s * 10 ^ 40) * (s * 10 ^ 40) = m * 10 ^ 80 := by
    rw [← e, Nat.mul_mul_mul_comm, ← Nat.pow_add]
  rw [← e2] at h2 h _h1
  have a := sq_lt h2
  have b : q ≤ s * 10 ^ 40 := by
    rcases Nat.lt_or_ge (s * 10 ^ 40) q with y | y
    · have := Nat.mul_self_lt_mul_self y; omega
    · exact y
  have : q = s * 10 ^ 40 := by omega
  exact h (by rw [this])

set_option maxRecDepth 100000 in
set_option maxHeartbeats 8000000 in
theorem rroot_neg (v : Value) (c : Nat) (x : Int) (e0 : x.tmod 2 = -1) (hc : c < 10 ^ 34) (x1 : -6176 ≤ x) (x2 : x ≤ 6111) (w : World) (r : Row w v (Dg.dg c)) :
    Calls Tryd.prog 11 #[Fv false v x] w (RetFB (fun n' v' y ok W => n' = false ∧ ok = true ∧ ∃ K, RootR c x K y ∧ Row W v' (Dg.dg K)) w) := by
  have tm := Int.tmod_add_mul_tdiv x 2
  rw [e0] at tm
  have od : x % 2 = 1 := by omega
  have R := Lib.hid r
  obtain ⟨A, C, rfl⟩ := slice_of r
  have LC := Lib.hid (Dg.dg_length_le hc)
  obtain ⟨half, hh⟩ : ∃ q : Int, q = x / 2 := ⟨_, rfl⟩
  have hx : x = 2 * half + 1 := by omega
  have g2 : (x - 1).tdiv 2 = half := by rw [show (x - 1 : Int) = half * 2 by omega]; exact Int.mul_tdiv_cancel _ (by decide)
  have g4 : wrap64 (x - 81) = x - 81 := by unfold wrap64; omega
  have g5 : (x - 81).tdiv 2 = half - 40 := by rw [show x - 81 = (half - 40) * 2 by omega]; exact Int.mul_tdiv_cancel _ (by decide)
  have g6 : wrap64 half = half := by unfold wrap64; omega
  have g7 : wrap64 (half - 40) = half - 40 := by unfold wrap64; omega
  have g1 : wrap64 (x - 1) = x - 1 := by unfold wrap64; omega
  have HB := Lib.hid (show -3089 ≤ half ∧ half ≤ 3056 from by omega)
  obtain ⟨s, hs⟩ : ∃ s, s = c * 10 ^ (x % 2).toNat * 10 ^ 80 := ⟨_, rfl⟩
  have S2 := Lib.hid (show s = c * 10 ^ 81 by rw [hs, od, Nat.mul_assoc, ← Nat.pow_add]; rfl)
  have HS := Lib.hid hs
  have SB := Lib.hid (show s < 10 ^ 115 by
    rw [S2.out]
    exact Nat.lt_of_lt_of_le (Nat.mul_lt_mul_of_pos_right hc (Nat.pos_of_ne_zero (by simp))) (by rw [← Nat.pow_add]; exact Nat.pow_le_pow_right (by decide) (by decide)))
  have LS := Lib.hid (Dg.dg_length_le SB.out)
  have HH := Lib.hid hh
  have SH := Lib.hid (fun W (h : Row W (.slice A (Dg.dg c).length C) (Dg.dg c)) => shift_any _ c 81 (by decide) (by have := LC.out; omega) W h)
  rw [← S2.out] at SH
  have RT := Lib.hid (fun v W (h : Row W v (Dg.dg s)) => rroot_any v s (by have := LS.out; omega) W h)
  have FZ := Lib.hid (rfit_zero 1 half (by have := HB.out; omega) (by have := HB.out; omega))
  have CZ : (((Dg.dg c).length : Int) == 0) = decide (c = 0) := by
    by_cases z : c = 0
    · subst z; rw [Dg.dg_zero]; rfl
    · rw [decide_eq_false z, Dg.dg_pos z]; simp; omega
  have HC := Lib.hid hc
  generalize (Dg.dg c).length = L at *
  clear r hc x1 x2 tm od hx hs hh
  go_enter Tryd.func11, Tryd.ntmps11
  go_upto_region 1 with fail
  have B := Lib.hid (ballD1 (ballD1 (Below.refl w.heap.size w) (.cells #[.bool false, .slice A L C, .int .i64 x] 36)) (.cells #[.bool false, .slice none 0 0, .int .i64 0] 36))
  have A0 := Lib.hid (show HoldsF ((w.alloc (.cells #[.bool false, .slice A L C, .int .i64 x] 36)).alloc (.cells #[.bool false, .slice none 0 0, .int .i64 0] 36)) w.heap.size false (.slice A L C) x from by simp [HoldsF, go_sem])
  have A1 := Lib.hid (show HoldsF ((w.alloc (.cells #[.bool false, .slice A L C, .int .i64 x] 36)).alloc (.cells #[.bool false, .slice none 0 0, .int .i64 0] 36)) (w.heap.size + 1) false (.slice none 0 0) 0 from by simp [HoldsF, go_sem])
  have BK := Lib.hid (BlkD.new (by simp) : BlkD ((w.alloc (.cells #[.bool false, .slice A L C, .int .i64 x] 36)).alloc (.cells #[.bool false, .slice none 0 0, .int .i64 0] 36)) (w.heap.size + 1))
  replace R := Lib.hid ((R.out.alloc' (.cells #[.bool false, .slice A L C, .int .i64 x] 36)).alloc' (.cells #[.bool false, .slice none 0 0, .int .i64 0] 36))
  generalize ((w.alloc (.cells #[.bool false, .slice A L C, .int .i64 x] 36)).alloc (.cells #[.bool false, .slice none 0 0, .int .i64 0] 36)) = V at *
  obtain ⟨⟨a1, a2, a3⟩, -, a9⟩ := A0.out
  by_cases z : c = 0
  · rw [decide_eq_true z] at CZ
    have ZE := Lib.hid z
    clear z SH RT R S2 HS SB LS HC LC g4 g5
    go_wp2_with fail
    refine (FZ.out _).mono ?_
    rintro e w1 ⟨n', v', y, ok, ⟨rfl, rfl, rfl, rfl⟩, rfl, hb⟩
    replace A1 := Lib.hid (A1.out.below hb)
    replace B := Lib.hid (bstep B.out hb)
    clear hb a1 a2 a3 a9
    obtain ⟨⟨b1, b2, b3⟩, ⟨b4, b5, b6⟩, b9⟩ := A1.out
    go_wp2
    refine bodyPost_ret (v := .tuple #[Fv false (.slice none 0 0) y, .bool true]) (by simp [results, Tryd.results11, go_sem, *]) rfl ⟨false, _, _, true, ⟨rfl, rfl, 0, .inl ⟨by rw [ZE.out]; simp, HH.out⟩, ?_⟩, rfl, Below.set1' (Below.set1' (Below.set1' B.out _ _ (by omega) _) _ _ (by omega) _) _ _ (by omega) _⟩
    rw [Dg.dg_zero]
    exact Row.nil
  · rw [decide_eq_false z] at CZ
    have ZN := Lib.hid z
    clear z FZ
    go_wp2_with fail
    refine (SH.out _ R.out).mono ?_
    rintro e w1 ⟨v1, rfl, R1, hb⟩
    have RS := Lib.hid R1
    replace A0 := Lib.hid (A0.out.below hb)
    replace A1 := Lib.hid (A1.out.below hb)
    replace BK := Lib.hid (BK.out.below hb)
    replace B := Lib.hid (bstep B.out hb)
    clear hb R1 R SH a1 a2 a3 a9
    obtain ⟨SA, SC, rfl⟩ := slice_of RS.out
    obtain ⟨LSn, hLS⟩ : ∃ q, q = (Dg.dg s).length := ⟨_, rfl⟩
    rw [← hLS] at RS ⊢
    have HLS := Lib.hid hLS
    clear hLS
    obtain ⟨⟨a1, a2, a3⟩, -, a9⟩ := A0.out
    go_wp2_with fail
    refine (RT.out _ _ RS.out).mono ?_
    rintro e w2 ⟨q, q1, q2, v2, rfl, R2, hb⟩
    have RQ := Lib.hid R2
    replace RS := Lib.hid (RS.out.below hb)
    replace A0 := Lib.hid (A0.out.below hb)
    replace A1 := Lib.hid (A1.out.below hb)
    replace BK := Lib.hid (BK.out.below hb)
    replace B := Lib.hid (bstep B.out hb)
    have Q1 := Lib.hid q1
    have Q2 := Lib.hid q2
    clear hb R2 RT a1 a2 a3 a9 q1 q2
    have QB := Lib.hid (show q < 10 ^ 58 by
      apply sq_lt
      exact Nat.lt_of_le_of_lt Q1.out (Nat.lt_of_lt_of_le SB.out (by rw [← Nat.pow_add]; exact Nat.pow_le_pow_right (by decide) (by decide))))
    have LQ := Lib.hid (Dg.dg_length_le QB.out)
    have MU := Lib.hid (fun v W (h : Row W v (Dg.dg q)) => rmul_any v v q q (by have := LQ.out; omega) (by have := LQ.out; omega) W h h)
    have LQQ := Lib.hid (show (Dg.dg (q * q)).length ≤ 115 from Dg.dg_length_le (Nat.lt_of_le_of_lt Q1.out SB.out))
    have CM := Lib.hid (fun v u W (h1 : Row W v (Dg.dg (q * q))) (h2 : Row W u (Dg.dg s)) => rcmp_any v u (q * q) s (by have := LQQ.out; omega) (by have := LS.out; omega) W h1 h2)
    obtain ⟨QA, QC, rfl⟩ := slice_of RQ.out
    obtain ⟨LQn, hLQ⟩ : ∃ q', q' = (Dg.dg q).length := ⟨_, rfl⟩
    rw [← hLQ] at RQ ⊢
    clear hLQ LQQ
    obtain ⟨⟨a1, a2, a3⟩, -, a9⟩ := A0.out
    go_wp2_with fail
    refine (MU.out _ _ RQ.out).mono ?_
    rintro e w3 ⟨v3, rfl, R3, hb⟩
    have RM := Lib.hid R3
    replace RQ := Lib.hid (RQ.out.below hb)
    replace RS := Lib.hid (RS.out.below hb)
    replace A0 := Lib.hid (A0.out.below hb)
    replace A1 := Lib.hid (A1.out.below hb)
    replace BK := Lib.hid (BK.out.below hb)
    replace B := Lib.hid (bstep B.out hb)
    clear hb R3 MU a1 a2 a3 a9
    obtain ⟨MA, MC, rfl⟩ := slice_of RM.out
    generalize (Dg.dg (q * q)).length = LM at *
    go_wp2_with fail
    refine (CM.out _ _ _ RM.out RS.out).mono ?_
    rintro e w4 ⟨rfl, hb⟩
    replace RQ := Lib.hid (RQ.out.below hb)
    replace A1 := Lib.hid (A1.out.below hb)
    replace BK := Lib.hid (BK.out.below hb)
    replace B := Lib.hid (bstep B.out hb)
    clear hb CM RM RS A0
    by_cases eq : q * q = s
    · have tc : (cmpN (q * q) s == 0) = true := by rw [eq, cmpN_eq]; rfl
      generalize cmpN (q * q) s = cv at *
      have EX := Lib.hid (fun v W (h : Row W v (Dg.dg q)) => exact_any v q (half - 40) half (Nat.lt_trans QB.out (by decide)) (by have := HB.out; omega) (by have := HB.out; omega) (by have := HB.out; omega) (by have := HB.out; omega) W h)
      have EQ := Lib.hid eq
      clear eq
      go_wp2_with fail
      refine (EX.out _ _ RQ.out).mono ?_
      rintro e w5 ⟨n', v5, y, ⟨rfl, N, R5, XP⟩, rfl, hb⟩
      have RN := Lib.hid R5
      replace A1 := Lib.hid (A1.out.below hb)
      replace BK := Lib.hid (BK.out.below hb)
      replace B := Lib.hid (bstep B.out hb)
      have m0 : c * 10 ^ (x % 2).toNat ≠ 0 := fun e => by
        rcases Nat.mul_eq_zero.1 e with a | a
        · exact ZN.out a
        · have : 0 < 10 ^ (x % 2).toNat := Nat.pos_of_ne_zero (by simp)
          omega
      obtain ⟨rfl, nn⟩ := exact_root (by rw [EQ.out, HS.out]) m0 (by omega) (by omega) XP
      have N0 : N ≠ 0 := by intro e; rw [e, Nat.zero_mul] at nn; exact m0 nn.symm
      have NB : N < 10 ^ 34 := by
        apply sq_lt
        rw [nn]
        have s2 := SB.out
        rw [HS.out] at s2
        have s3 := Nat.lt_of_lt_of_le s2 (show (10 : Nat) ^ 115 ≤ 10 ^ 35 * 10 ^ 80 by rw [← Nat.pow_add]; exact Nat.le_refl _)
        exact Nat.lt_of_lt_of_le (Nat.lt_of_mul_lt_mul_right s3) (by rw [← Nat.pow_add]; exact Nat.pow_le_pow_right (by decide) (by decide))
      have FS := Lib.hid (fun v W (h : Row W v (Dg.dg N)) => rfit_same 1 false v N y NB N0 (by have := HB.out; omega) (by have := HB.out; omega) W h)
      have NN := Lib.hid nn
      clear hb R5 EX RQ XP m0 N0 NB nn
      obtain ⟨NA, NC, rfl⟩ := slice_of RN.out
      generalize (Dg.dg N).length = LN at *
      go_wp2_with fail
      refine (FS.out _ _ RN.out).mono ?_
      rintro e w6 ⟨n', v6, y', ok, ⟨e1, e2, e3, R6⟩, rfl, hb⟩
      subst e1 e2 e3
      have OFF := Lib.hid (off_of R6 (BK.out.below hb))
      have RV := Lib.hid R6
      replace A1 := Lib.hid (A1.out.below hb)
      replace B := Lib.hid (bstep B.out hb)
      clear hb R6 FS RN BK
      obtain ⟨FA, FC, rfl⟩ := slice_of RV.out
      generalize hLF : (Dg.dg N).length = LF at *
      obtain ⟨⟨b1, b2, b3⟩, ⟨b4, b5, b6⟩, b9⟩ := A1.out
      go_wp2
      refine bodyPost_ret (v := .tuple #[Fv false (.slice FA LF FC) y', .bool true]) (by simp [results, Tryd.results11, go_sem, *]) rfl ⟨false, _, _, true, ⟨rfl, rfl, N, .inl ⟨NN.out, HH.out⟩, ?_⟩, rfl, Below.set1' (Below.set1' (Below.set1' B.out _ _ (by omega) _) _ _ (by omega) _) _ _ (by omega) _⟩
      exact Row.set3 RV.out OFF.out _ _ _
    · have tc : (cmpN (q * q) s == 0) = false := by
        rcases Nat.lt_or_gt_of_ne eq with a | a
        · rw [cmpN_lt a]; rfl
        · rw [cmpN_gt a]; rfl
      generalize cmpN (q * q) s = cv at *
      have NQ := Lib.hid eq
      clear eq
      have q34 : 10 ^ 34 ≤ q := by
        have hs2 : 10 ^ 80 ≤ s := by
          rw [HS.out]
          exact Nat.le_mul_of_pos_left _ (Nat.mul_pos (Nat.pos_of_ne_zero ZN.out) (Nat.pos_of_ne_zero (by simp)))
        have a := sq_lt (a := 10 ^ 40) (b := q + 1) (Nat.lt_of_le_of_lt (by rw [← Nat.pow_add]; exact hs2) Q2.out)
        exact Nat.le_trans (Nat.pow_le_pow_right (by decide) (by decide)) (Nat.le_of_lt_succ a)
      have FM := Lib.hid (fun v W (h : Row W v (Dg.dg q)) => rfit_more v q (half - 40) q34 (Nat.lt_trans QB.out (by decide)) (by have := HB.out; omega) (by have := HB.out; omega) W h)
      clear q34
      go_wp2_with fail
      refine (FM.out _ _ RQ.out).mono ?_
      rintro e w6 ⟨n', v6, y, ok, ⟨e1, e2, K, FK, R6⟩, rfl, hb⟩
      subst e1 e2
      have OFF := Lib.hid (off_of R6 (BK.out.below hb))
      have RV := Lib.hid R6
      have HFK := Lib.hid FK
      replace A1 := Lib.hid (A1.out.below hb)
      replace B := Lib.hid (bstep B.out hb)
      clear hb R6 FM RQ BK FK
      obtain ⟨FA, FC, rfl⟩ := slice_of RV.out
      generalize hLF : (Dg.dg K).length = LF at *
      obtain ⟨⟨b1, b2, b3⟩, ⟨b4, b5, b6⟩, b9⟩ := A1.out
      go_wp2
      refine bodyPost_ret (v := .tuple #[Fv false (.slice FA LF FC) y, .bool true]) (by simp [results, Tryd.results11, go_sem, *]) rfl ⟨false, _, _, true, ⟨rfl, rfl, K, .inr ⟨ZN.out, ?_, q, ?_, ?_, ?_⟩, ?_⟩, rfl, Below.set1' (Below.set1' (Below.set1' B.out _ _ (by omega) _) _ _ (by omega) _) _ _ (by omega) _⟩
      · exact no_square (q := q) (by rw [← HS.out]; exact Q1.out) (by rw [← HS.out]; exact Q2.out) (by rw [← HS.out]; exact NQ.out)
      · rw [← HS.out]; exact Q1.out
      · rw [← HS.out]; exact Q2.out
      · rw [← HH.out]; exact HFK.out
      · exact Row.set3 RV.out OFF.out _ _ _

set_option maxRecDepth 100000 in
set_option maxHeartbeats 8000000 in
theorem rroot_even (v : Value) (c : Nat) (x : Int) (e0 : x.tmod 2 = 0) (hc : c < 10 ^ 34) (x1 : -6176 ≤ x) (x2 : x ≤ 6111) (w : World) (r : Row w v (Dg.dg c)) :
    Calls Tryd.prog 11 #[Fv false v x] w (RetFB (fun n' v' y ok W => n' = false ∧ ok = true ∧ ∃ K, RootR c x K y ∧ Row W v' (Dg.dg K)) w) := by
  have tm := Int.tmod_add_mul_tdiv x 2
  rw [e0] at tm
  have od : x % 2 = 0 := by omega
  have R := Lib.hid r
  obtain ⟨A, C, rfl⟩ := slice_of r
  have LC := Lib.hid (Dg.dg_length_le hc)
  obtain ⟨half, hh⟩ : ∃ q : Int, q = x / 2 := ⟨_, rfl⟩
  have hx : x = 2 * half + 0 := by omega
  have g2 : (x).tdiv 2 = half := by rw [show (x : Int) = half * 2 by omega]; exact Int.mul_tdiv_cancel _ (by decide)
  have g4 : wrap64 (x - 80) = x - 80 := by unfold wrap64; omega
  have g5 : (x - 80).tdiv 2 = half - 40 := by rw [show x - 80 = (half - 40) * 2 by omega]; exact Int.mul_tdiv_cancel _ (by decide)
  have g6 : wrap64 half = half := by unfold wrap64; omega
  have g7 : wrap64 (half - 40) = half - 40 := by unfold wrap64; omega
  have g1 : wrap64 x = x := by unfold wrap64; omega
  have HB := Lib.hid (show -3089 ≤ half ∧ half ≤ 3056 from by omega)
  obtain ⟨s, hs⟩ : ∃ s, s = c * 10 ^ (x % 2).toNat * 10 ^ 80 := ⟨_, rfl⟩
  have S2 := Lib.hid (show s = c * 10 ^ 80 by rw [hs, od, Nat.mul_assoc, ← Nat.pow_add]; rfl)
  have HS := Lib.hid hs
  have SB := Lib.hid (show s < 10 ^ 115 by
    rw [S2.out]
    exact Nat.lt_of_lt_of_le (Nat.mul_lt_mul_of_pos_right hc (Nat.pos_of_ne_zero (by simp))) (by rw [← Nat.pow_add]; exact Nat.pow_le_pow_right (by decide) (by decide)))
  have LS := Lib.hid (Dg.dg_length_le SB.out)
  have HH := Lib.hid hh
  have SH := Lib.hid (fun W (h : Row W (.slice A (Dg.dg c).length C) (Dg.dg c)) => shift_any _ c 80 (by decide) (by have := LC.out; omega) W h)
  rw [← S2.out] at SH
  have RT := Lib.hid (fun v W (h : Row W v (Dg.dg s)) => rroot_any v s (by have := LS.out; omega) W h)
  have FZ := Lib.hid (rfit_zero 1 half (by have := HB.out; omega) (by have := HB.out; omega))
  have CZ : (((Dg.dg c).length : Int) == 0) = decide (c = 0) := by
    by_cases z : c = 0
    · subst z; rw [Dg.dg_zero]; rfl
    · rw [decide_eq_false z, Dg.dg_pos z]; simp; omega
  have HC := Lib.hid hc
  generalize (Dg.dg c).length = L at *
  clear r hc x1 x2 tm od hx hs hh
  go_enter Tryd.func11, Tryd.ntmps11
  go_upto_region 1 with fail
  have B := Lib.hid (ballD1 (ballD1 (Below.refl w.heap.size w) (.cells #[.bool false, .slice A L C, .int .i64 x] 36)) (.cells #[.bool false, .slice none 0 0, .int .i64 0] 36))
  have A0 := Lib.hid (show HoldsF ((w.alloc (.cells #[.bool false, .slice A L C, .int .i64 x] 36)).alloc (.cells #[.bool false, .slice none 0 0, .int .i64 0] 36)) w.heap.size false (.slice A L C) x from by simp [HoldsF, go_sem])
  have A1 := Lib.hid (show HoldsF ((w.alloc (.cells #[.bool false, .slice A L C, .int .i64 x] 36)).alloc (.cells #[.bool false, .slice none 0 0, .int .i64 0] 36)) (w.heap.size + 1) false (.slice none 0 0) 0 from by simp [HoldsF, go_sem])
  have BK := Lib.hid (BlkD.new (by simp) : BlkD ((w.alloc (.cells #[.bool false, .slice A L C, .int .i64 x] 36)).alloc (.cells #[.bool false, .slice none 0 0, .int .i64 0] 36)) (w.heap.size + 1))
  replace R := Lib.hid ((R.out.alloc' (.cells #[.bool false, .slice A L C, .int .i64 x] 36)).alloc' (.cells #[.bool false, .slice none 0 0, .int .i64 0] 36))
  generalize ((w.alloc (.cells #[.bool false, .slice A L C, .int .i64 x] 36)).alloc (.cells #[.bool false, .slice none 0 0, .int .i64 0] 36)) = V at *
  obtain ⟨⟨a1, a2, a3⟩, -, a9⟩ := A0.out
  by_cases z : c = 0
  · rw [decide_eq_true z] at CZ
    have ZE := Lib.hid z
    clear z SH RT R S2 HS SB LS HC LC g4 g5
    go_wp2_with fail
    refine (FZ.out _).mono ?_
    rintro e w1 ⟨n', v', y, ok, ⟨rfl, rfl, rfl, rfl⟩, rfl, hb⟩
    replace A1 := Lib.hid (A1.out.below hb)
    replace B := Lib.hid (bstep B.out hb)
    clear hb a1 a2 a3 a9
    obtain ⟨⟨b1, b2, b3⟩, ⟨b4, b5, b6⟩, b9⟩ := A1.out
    go_wp2
    refine bodyPost_ret (v := .tuple #[Fv false (.slice none 0 0) y, .bool true]) (by simp [results, Tryd.results11, go_sem, *]) rfl ⟨false, _, _, true, ⟨rfl, rfl, 0, .inl ⟨by rw [ZE.out]; simp, HH.out⟩, ?_⟩, rfl, Below.set1' (Below.set1' (Below.set1' B.out _ _ (by omega) _) _ _ (by omega) _) _ _ (by omega) _⟩
    rw [Dg.dg_zero]
    exact Row.nil
  · rw [decide_eq_false z] at CZ
    have ZN := Lib.hid z
    clear z FZ
    go_wp2_with fail
    refine (SH.out _ R.out).mono ?_
    rintro e w1 ⟨v1, rfl, R1, hb⟩
    have RS := Lib.hid R1
    replace A0 := Lib.hid (A0.out.below hb)
    replace A1 := Lib.hid (A1.out.below hb)
    replace BK := Lib.hid (BK.out.below hb)
    replace B := Lib.hid (bstep B.out hb)
    clear hb R1 R SH a1 a2 a3 a9
    obtain ⟨SA, SC, rfl⟩ := slice_of RS.out
    obtain ⟨LSn, hLS⟩ : ∃ q, q = (Dg.dg s).length := ⟨_, rfl⟩
    rw [← hLS] at RS ⊢
    have HLS := Lib.hid hLS
    clear hLS
    obtain ⟨⟨a1, a2, a3⟩, -, a9⟩ := A0.out
    go_wp2_with fail
    refine (RT.out _ _ RS.out).mono ?_
    rintro e w2 ⟨q, q1, q2, v2, rfl, R2, hb⟩
    have RQ := Lib.hid R2
    replace RS := Lib.hid (RS.out.below hb)
    replace A0 := Lib.hid (A0.out.below hb)
    replace A1 := Lib.hid (A1.out.below hb)
    replace BK := Lib.hid (BK.out.below hb)
    replace B := Lib.hid (bstep B.out hb)
    have Q1 := Lib.hid q1
    have Q2 := Lib.hid q2
    clear hb R2 RT a1 a2 a3 a9 q1 q2
    have QB := Lib.hid (show q < 10 ^ 58 by
      apply sq_lt
      exact Nat.lt_of_le_of_lt Q1.out (Nat.lt_of_lt_of_le SB.out (by rw [← Nat.pow_add]; exact Nat.pow_le_pow_right (by decide) (by decide))))
    have LQ := Lib.hid (Dg.dg_length_le QB.out)
    have MU := Lib.hid (fun v W (h : Row W v (Dg.dg q)) => rmul_any v v q q (by have := LQ.out; omega) (by have := LQ.out; omega) W h h)
    have LQQ := Lib.hid (show (Dg.dg (q * q)).length ≤ 115 from Dg.dg_length_le (Nat.lt_of_le_of_lt Q1.out SB.out))
    have CM := Lib.hid (fun v u W (h1 : Row W v (Dg.dg (q * q))) (h2 : Row W u (Dg.dg s)) => rcmp_any v u (q * q) s (by have := LQQ.out; omega) (by have := LS.out; omega) W h1 h2)
    obtain ⟨QA, QC, rfl⟩ := slice_of RQ.out
    obtain ⟨LQn, hLQ⟩ : ∃ q', q' = (Dg.dg q).length := ⟨_, rfl⟩
    rw [← hLQ] at RQ ⊢
    clear hLQ LQQ
    obtain ⟨⟨a1, a2, a3⟩, -, a9⟩ := A0.out
    go_wp2_with fail
    refine (MU.out _ _ RQ.out).mono ?_
    rintro e w3 ⟨v3, rfl, R3, hb⟩
    have RM := Lib.hid R3
    replace RQ := Lib.hid (RQ.out.below hb)
    replace RS := Lib.hid (RS.out.below hb)
    replace A0 := Lib.hid (A0.out.below hb)
    replace A1 := Lib.hid (A1.out.below hb)
    replace BK := Lib.hid (BK.out.below hb)
    replace B := Lib.hid (bstep B.out hb)
    clear hb R3 MU a1 a2 a3 a9
    obtain ⟨MA, MC, rfl⟩ := slice_of RM.out
    generalize (Dg.dg (q * q)).length = LM at *
    go_wp2_with fail
    refine (CM.out _ _ _ RM.out RS.out).mono ?_
    rintro e w4 ⟨rfl, hb⟩
    replace RQ := Lib.hid (RQ.out.below hb)
    replace A1 := Lib.hid (A1.out.below hb)
    replace BK := Lib.hid (BK.out.below hb)
    replace B := Lib.hid (bstep B.out hb)
    clear hb CM RM RS A0
    by_cases eq : q * q = s
    · have tc : (cmpN (q * q) s == 0) = true := by rw [eq, cmpN_eq]; rfl
      generalize cmpN (q * q) s = cv at *
      have EX := Lib.hid (fun v W (h : Row W v (Dg.dg q)) => exact_any v q (half - 40) half (Nat.lt_trans QB.out (by decide)) (by have := HB.out; omega) (by have := HB.out; omega) (by have := HB.out; omega) (by have := HB.out; omega) W h)
      have EQ := Lib.hid eq
      clear eq
      go_wp2_with fail
      refine (EX.out _ _ RQ.out).mono ?_
      rintro e w5 ⟨n', v5, y, ⟨rfl, N, R5, XP⟩, rfl, hb⟩
      have RN := Lib.hid R5
      replace A1 := Lib.hid (A1.out.below hb)
      replace BK := Lib.hid (BK.out.below hb)
      replace B := Lib.hid (bstep B.out hb)
      have m0 : c * 10 ^ (x % 2).toNat ≠ 0 := fun e => by
        rcases Nat.mul_eq_zero.1 e with a | a
        · exact ZN.out a
        · have : 0 < 10 ^ (x % 2).toNat := Nat.pos_of_ne_zero (by simp)
          omega
      obtain ⟨rfl, nn⟩ := exact_root (by rw [EQ.out, HS.out]) m0 (by omega) (by omega) XP
      have N0 : N ≠ 0 := by intro e; rw [e, Nat.zero_mul] at nn; exact m0 nn.symm
      have NB : N < 10 ^ 34 := by
        apply sq_lt
        rw [nn]
        have s2 := SB.out
        rw [HS.out] at s2
        have s3 := Nat.lt_of_lt_of_le s2 (show (10 : Nat) ^ 115 ≤ 10 ^ 35 * 10 ^ 80 by rw [← Nat.pow_add]; exact Nat.le_refl _)
        exact Nat.lt_of_lt_of_le (Nat.lt_of_mul_lt_mul_right s3) (by rw [← Nat.pow_add]; exact Nat.pow_le_pow_right (by decide) (by decide))
      have FS := Lib.hid (fun v W (h : Row W v (Dg.dg N)) => rfit_same 1 false v N y NB N0 (by have := HB.out; omega) (by have := HB.out; omega) W h)
      have NN := Lib.hid nn
      clear hb R5 EX RQ XP m0 N0 NB nn
      obtain ⟨NA, NC, rfl⟩ := slice_of RN.out
      generalize (Dg.dg N).length = LN at *
      go_wp2_with fail
      refine (FS.out _ _ RN.out).mono ?_
      rintro e w6 ⟨n', v6, y', ok, ⟨e1, e2, e3, R6⟩, rfl, hb⟩
      subst e1 e2 e3
      have OFF := Lib.hid (off_of R6 (BK.out.below hb))
      have RV := Lib.hid R6
      replace A1 := Lib.hid (A1.out.below hb)
      replace B := Lib.hid (bstep B.out hb)
      clear hb R6 FS RN BK
      obtain ⟨FA, FC, rfl⟩ := slice_of RV.out
      generalize hLF : (Dg.dg N).length = LF at *
      obtain ⟨⟨b1, b2, b3⟩, ⟨b4, b5, b6⟩, b9⟩ := A1.out
      go_wp2
      refine bodyPost_ret (v := .tuple #[Fv false (.slice FA LF FC) y', .bool true]) (by simp [results, Tryd.results11, go_sem, *]) rfl ⟨false, _, _, true, ⟨rfl, rfl, N, .inl ⟨NN.out, HH.out⟩, ?_⟩, rfl, Below.set1' (Below.set1' (Below.set1' B.out _ _ (by omega) _) _ _ (by omega) _) _ _ (by omega) _⟩
      exact Row.set3 RV.out OFF.out _ _ _
    · have tc : (cmpN (q * q) s == 0) = false := by
        rcases Nat.lt_or_gt_of_ne eq with a | a
        · rw [cmpN_lt a]; rfl
        · rw [cmpN_gt a]; rfl
      generalize cmpN (q * q) s = cv at *
      have NQ := Lib.hid eq
      clear eq
      have q34 : 10 ^ 34 ≤ q := by
        have hs2 : 10 ^ 80 ≤ s := by
          rw [HS.out]
          exact Nat.le_mul_of_pos_left _ (Nat.mul_pos (Nat.pos_of_ne_zero ZN.out) (Nat.pos_of_ne_zero (by simp)))
        have a := sq_lt (a := 10 ^ 40) (b := q + 1) (Nat.lt_of_le_of_lt (by rw [← Nat.pow_add]; exact hs2) Q2.out)
        exact Nat.le_trans (Nat.pow_le_pow_right (by decide) (by decide)) (Nat.le_of_lt_succ a)
      have FM := Lib.hid (fun v W (h : Row W v (Dg.dg q)) => rfit_more v q (half - 40) q34 (Nat.lt_trans QB.out (by decide)) (by have := HB.out; omega) (by have := HB.out; omega) W h)
      clear q34
      go_wp2_with fail
      refine (FM.out _ _ RQ.out).mono ?_
      rintro e w6 ⟨n', v6, y, ok, ⟨e1, e2, K, FK, R6⟩, rfl, hb⟩
      subst e1 e2
      have OFF := Lib.hid (off_of R6 (BK.out.below hb))
      have RV := Lib.hid R6
      have HFK := Lib.hid FK
      replace A1 := Lib.hid (A1.out.below hb)
      replace B := Lib.hid (bstep B.out hb)
      clear hb R6 FM RQ BK FK
      obtain ⟨FA, FC, rfl⟩ := slice_of RV.out
      generalize hLF : (Dg.dg K).length = LF at *
      obtain ⟨⟨b1, b2, b3⟩, ⟨b4, b5, b6⟩, b9⟩ := A1.out
      go_wp2
      refine bodyPost_ret (v := .tuple #[Fv false (.slice FA LF FC) y, .bool true]) (by simp [results, Tryd.results11, go_sem, *]) rfl ⟨false, _, _, true, ⟨rfl, rfl, K, .inr ⟨ZN.out, ?_, q, ?_, ?_, ?_⟩, ?_⟩, rfl, Below.set1' (Below.set1' (Below.set1' B.out _ _ (by omega) _) _ _ (by omega) _) _ _ (by omega) _⟩
      · exact no_square (q := q) (by rw [← HS.out]; exact Q1.out) (by rw [← HS.out]; exact Q2.out) (by rw [← HS.out]; exact NQ.out)
      · rw [← HS.out]; exact Q1.out
      · rw [← HS.out]; exact Q2.out
      · rw [← HH.out]; exact HFK.out
      · exact Row.set3 RV.out OFF.out _ _ _

set_option maxRecDepth 100000 in
set_option maxHeartbeats 8000000 in
theorem rroot_odd (v : Value) (c : Nat) (x : Int) (e0 : x.tmod 2 = 1) (hc : c < 10 ^ 34) (x1 : -6176 ≤ x) (x2 : x ≤ 6111) (w : World) (r : Row w v (Dg.dg c)) :
    Calls Tryd.prog 11 #[Fv false v x] w (RetFB (fun n' v' y ok W => n' = false ∧ ok = true ∧ ∃ K, RootR c x K y ∧ Row W v' (Dg.dg K)) w) := by
  have tm := Int.tmod_add_mul_tdiv x 2
  rw [e0] at tm
  have od : x % 2 = 1 := by omega
  have R := Lib.hid r
  obtain ⟨A, C, rfl⟩ := slice_of r
  have LC := Lib.hid (Dg.dg_length_le hc)
  obtain ⟨half, hh⟩ : ∃ q : Int, q = x / 2 := ⟨_, rfl⟩
  have hx : x = 2 * half + 1 := by omega
  have g2 : (x - 1).tdiv 2 = half := by rw [show (x - 1 : Int) = half * 2 by omega]; exact Int.mul_tdiv_cancel _ (by decide)
  have g4 : wrap64 (x - 81) = x - 81 := by unfold wrap64; omega
  have g5 : (x - 81).tdiv 2 = half - 40 := by rw [show x - 81 = (half - 40) * 2 by omega]; exact Int.mul_tdiv_cancel _ (by decide)
  have g6 : wrap64 half = half := by unfold wrap64; omega
  have g7 : wrap64 (half - 40) = half - 40 := by unfold wrap64; omega
  have g1 : wrap64 (x - 1) = x - 1 := by unfold wrap64; omega
  have HB := Lib.hid (show -3089 ≤ half ∧ half ≤ 3056 from by omega)
  obtain ⟨s, hs⟩ : ∃ s, s = c * 10 ^ (x % 2).toNat * 10 ^ 80 := ⟨_, rfl⟩
  have S2 := Lib.hid (show s = c * 10 ^ 81 by rw [hs, od, Nat.mul_assoc, ← Nat.pow_add]; rfl)
  have HS := Lib.hid hs
  have SB := Lib.hid (show s < 10 ^ 115 by
    rw [S2.out]
    exact Nat.lt_of_lt_of_le (Nat.mul_lt_mul_of_pos_right hc (Nat.pos_of_ne_zero (by simp))) (by rw [← Nat.pow_add]; exact Nat.pow_le_pow_right (by decide) (by decide)))
  have LS := Lib.hid (Dg.dg_length_le SB.out)
  have HH := Lib.hid hh
  have SH := Lib.hid (fun W (h : Row W (.slice A (Dg.dg c).length C) (Dg.dg c)) => shift_any _ c 81 (by decide) (by have := LC.out; omega) W h)
  rw [← S2.out] at SH
  have RT := Lib.hid (fun v W (h : Row W v (Dg.dg s)) => rroot_any v s (by have := LS.out; omega) W h)
  have FZ := Lib.hid (rfit_zero 1 half (by have := HB.out; omega) (by have := HB.out; omega))
  have CZ : (((Dg.dg c).length : Int) == 0) = decide (c = 0) := by
    by_cases z : c = 0
    · subst z; rw [Dg.dg_zero]; rfl
    · rw [decide_eq_false z, Dg.dg_pos z]; simp; omega
  have HC := Lib.hid hc
  generalize (Dg.dg c).length = L at *
  clear r hc x1 x2 tm od hx hs hh
  go_enter Tryd.func11, Tryd.ntmps11
  go_upto_region 1 with fail
  have B := Lib.hid (ballD1 (ballD1 (Below.refl w.heap.size w) (.cells #[.bool false, .slice A L C, .int .i64 x] 36)) (.cells #[.bool false, .slice none 0 0, .int .i64 0] 36))
  have A0 := Lib.hid (show HoldsF ((w.alloc (.cells #[.bool false, .slice A L C, .int .i64 x] 36)).alloc (.cells #[.bool false, .slice none 0 0, .int .i64 0] 36)) w.heap.size false (.slice A L C) x from by simp [HoldsF, go_sem])
  have A1 := Lib.hid (show HoldsF ((w.alloc (.cells #[.bool false, .slice A L C, .int .i64 x] 36)).alloc (.cells #[.bool false, .slice none 0 0, .int .i64 0] 36)) (w.heap.size + 1) false (.slice none 0 0) 0 from by simp [HoldsF, go_sem])
  have BK := Lib.hid (BlkD.new (by simp) : BlkD ((w.alloc (.cells #[.bool false, .slice A L C, .int .i64 x] 36)).alloc (.cells #[.bool false, .slice none 0 0, .int .i64 0] 36)) (w.heap.size + 1))
  replace R := Lib.hid ((R.out.alloc' (.cells #[.bool false, .slice A L C, .int .i64 x] 36)).alloc' (.cells #[.bool false, .slice none 0 0, .int .i64 0] 36))
  generalize ((w.alloc (.cells #[.bool false, .slice A L C, .int .i64 x] 36)).alloc (.cells #[.bool false, .slice none 0 0, .int .i64 0] 36)) = V at *
  obtain ⟨⟨a1, a2, a3⟩, -, a9⟩ := A0.out
  by_cases z : c = 0
  · rw [decide_eq_true z] at CZ
    have ZE := Lib.hid z
    clear z SH RT R S2 HS SB LS HC LC g4 g5
    go_wp2_with fail
    refine (FZ.out _).mono ?_
    rintro e w1 ⟨n', v', y, ok, ⟨rfl, rfl, rfl, rfl⟩, rfl, hb⟩
    replace A1 := Lib.hid (A1.out.below hb)
    replace B := Lib.hid (bstep B.out hb)
    clear hb a1 a2 a3 a9
    obtain ⟨⟨b1, b2, b3⟩, ⟨b4, b5, b6⟩, b9⟩ := A1.out
    go_wp2
    refine bodyPost_ret (v := .tuple #[Fv false (.slice none 0 0) y, .bool true]) (by simp [results, Tryd.results11, go_sem, *]) rfl ⟨false, _, _, true, ⟨rfl, rfl, 0, .inl ⟨by rw [ZE.out]; simp, HH.out⟩, ?_⟩, rfl, Below.set1' (Below.set1' (Below.set1' B.out _ _ (by omega) _) _ _ (by omega) _) _ _ (by omega) _⟩
    rw [Dg.dg_zero]
    exact Row.nil
  · rw [decide_eq_false z] at CZ
    have ZN := Lib.hid z
    clear z FZ
    go_wp2_with fail
    refine (SH.out _ R.out).mono ?_
    rintro e w1 ⟨v1, rfl, R1, hb⟩
    have RS := Lib.hid R1
    replace A0 := Lib.hid (A0.out.below hb)
    replace A1 := Lib.hid (A1.out.below hb)
    replace BK := Lib.hid (BK.out.below hb)
    replace B := Lib.hid (bstep B.out hb)
    clear hb R1 R SH a1 a2 a3 a9
    obtain ⟨SA, SC, rfl⟩ := slice_of RS.out
    obtain ⟨LSn, hLS⟩ : ∃ q, q = (Dg.dg s).length := ⟨_, rfl⟩
    rw [← hLS] at RS ⊢
    have HLS := Lib.hid hLS
    clear hLS
    obtain ⟨⟨a1, a2, a3⟩, -, a9⟩ := A0.out
    go_wp2_with fail
    refine (RT.out _ _ RS.out).mono ?_
    rintro e w2 ⟨q, q1, q2, v2, rfl, R2, hb⟩
    have RQ := Lib.hid R2
    replace RS := Lib.hid (RS.out.below hb)
    replace A0 := Lib.hid (A0.out.below hb)
    replace A1 := Lib.hid (A1.out.below hb)
    replace BK := Lib.hid (BK.out.below hb)
    replace B := Lib.hid (bstep B.out hb)
    have Q1 := Lib.hid q1
    have Q2 := Lib.hid q2
    clear hb R2 RT a1 a2 a3 a9 q1 q2
    have QB := Lib.hid (show q < 10 ^ 58 by
      apply sq_lt
      exact Nat.lt_of_le_of_lt Q1.out (Nat.lt_of_lt_of_le SB.out (by rw [← Nat.pow_add]; exact Nat.pow_le_pow_right (by decide) (by decide))))
    have LQ := Lib.hid (Dg.dg_length_le QB.out)
    have MU := Lib.hid (fun v W (h : Row W v (Dg.dg q)) => rmul_any v v q q (by have := LQ.out; omega) (by have := LQ.out; omega) W h h)
    have LQQ := Lib.hid (show (Dg.dg (q * q)).length ≤ 115 from Dg.dg_length_le (Nat.lt_of_le_of_lt Q1.out SB.out))
    have CM := Lib.hid (fun v u W (h1 : Row W v (Dg.dg (q * q))) (h2 : Row W u (Dg.dg s)) => rcmp_any v u (q * q) s (by have := LQQ.out; omega) (by have := LS.out; omega) W h1 h2)
    obtain ⟨QA, QC, rfl⟩ := slice_of RQ.out
    obtain ⟨LQn, hLQ⟩ : ∃ q', q' = (Dg.dg q).length := ⟨_, rfl⟩
    rw [← hLQ] at RQ ⊢
    clear hLQ LQQ
    obtain ⟨⟨a1, a2, a3⟩, -, a9⟩ := A0.out
    go_wp2_with fail
    refine (MU.out _ _ RQ.out).mono ?_
    rintro e w3 ⟨v3, rfl, R3, hb⟩
    have RM := Lib.hid R3
    replace RQ := Lib.hid (RQ.out.below hb)
    replace RS := Lib.hid (RS.out.below hb)
    replace A0 := Lib.hid (A0.out.below hb)
    replace A1 := Lib.hid (A1.out.below hb)
    replace BK := Lib.hid (BK.out.below hb)
    replace B := Lib.hid (bstep B.out hb)
    clear hb R3 MU a1 a2 a3 a9
    obtain ⟨MA, MC, rfl⟩ := slice_of RM.out
    generalize (Dg.dg (q * q)).length = LM at *
    go_wp2_with fail
    refine (CM.out _ _ _ RM.out RS.out).mono ?_
    rintro e w4 ⟨rfl, hb⟩
    replace RQ := Lib.hid (RQ.out.below hb)
    replace A1 := Lib.hid (A1.out.below hb)
    replace BK := Lib.hid (BK.out.below hb)
    replace B := Lib.hid (bstep B.out hb)
    clear hb CM RM RS A0
    by_cases eq : q * q = s
    · have tc : (cmpN (q * q) s == 0) = true := by rw [eq, cmpN_eq]; rfl
      generalize cmpN (q * q) s = cv at *
      have EX := Lib.hid (fun v W (h : Row W v (Dg.dg q)) => exact_any v q (half - 40) half (Nat.lt_trans QB.out (by decide)) (by have := HB.out; omega) (by have := HB.out; omega) (by have := HB.out; omega) (by have := HB.out; omega) W h)
      have EQ := Lib.hid eq
      clear eq
      go_wp2_with fail
      refine (EX.out _ _ RQ.out).mono ?_
      rintro e w5 ⟨n', v5, y, ⟨rfl, N, R5, XP⟩, rfl, hb⟩
      have RN := Lib.hid R5
      replace A1 := Lib.hid (A1.out.below hb)
      replace BK := Lib.hid (BK.out.below hb)
      replace B := Lib.hid (bstep B.out hb)
      have m0 : c * 10 ^ (x % 2).toNat ≠ 0 := fun e => by
        rcases Nat.mul_eq_zero.1 e with a | a
        · exact ZN.out a
        · have : 0 < 10 ^ (x % 2).toNat := Nat.pos_of_ne_zero (by simp)
          omega
      obtain ⟨rfl, nn⟩ := exact_root (by rw [EQ.out, HS.out]) m0 (by omega) (by omega) XP
      have N0 : N ≠ 0 := by intro e; rw [e, Nat.zero_mul] at nn; exact m0 nn.symm
      have NB : N < 10 ^ 34 := by
        apply sq_lt
        rw [nn]
        have s2 := SB.out
        rw [HS.out] at s2
        have s3 := Nat.lt_of_lt_of_le s2 (show (10 : Nat) ^ 115 ≤ 10 ^ 35 * 10 ^ 80 by rw [← Nat.pow_add]; exact Nat.le_refl _)
        exact Nat.lt_of_lt_of_le (Nat.lt_of_mul_lt_mul_right s3) (by rw [← Nat.pow_add]; exact Nat.pow_le_pow_right (by decide) (by decide))
      have FS := Lib.hid (fun v W (h : Row W v (Dg.dg N)) => rfit_same 1 false v N y NB N0 (by have := HB.out; omega) (by have := HB.out; omega) W h)
      have NN := Lib.hid nn
      clear hb R5 EX RQ XP m0 N0 NB nn
      obtain ⟨NA, NC, rfl⟩ := slice_of RN.out
      generalize (Dg.dg N).length = LN at *
      go_wp2_with fail
      refine (FS.out _ _ RN.out).mono ?_
      rintro e w6 ⟨n', v6, y', ok, ⟨e1, e2, e3, R6⟩, rfl, hb⟩
      subst e1 e2 e3
      have OFF := Lib.hid (off_of R6 (BK.out.below hb))
      have RV := Lib.hid R6
      replace A1 := Lib.hid (A1.out.below hb)
      replace B := Lib.hid (bstep B.out hb)
      clear hb R6 FS RN BK
      obtain ⟨FA, FC, rfl⟩ := slice_of RV.out
      generalize hLF : (Dg.dg N).length = LF at *
      obtain ⟨⟨b1, b2, b3⟩, ⟨b4, b5, b6⟩, b9⟩ := A1.out
      go_wp2
      refine bodyPost_ret (v := .tuple #[Fv false (.slice FA LF FC) y', .bool true]) (by simp [results, Tryd.results11, go_sem, *]) rfl ⟨false, _, _, true, ⟨rfl, rfl, N, .inl ⟨NN.out, HH.out⟩, ?_⟩, rfl, Below.set1' (Below.set1' (Below.set1' B.out _ _ (by omega) _) _ _ (by omega) _) _ _ (by omega) _⟩
      exact Row.set3 RV.out OFF.out _ _ _
    · have tc : (cmpN (q * q) s == 0) = false := by
        rcases Nat.lt_or_gt_of_ne eq with a | a
        · rw [cmpN_lt a]; rfl
        · rw [cmpN_gt a]; rfl
      generalize cmpN (q * q) s = cv at *
      have NQ := Lib.hid eq
      clear eq
      have q34 : 10 ^ 34 ≤ q := by
        have hs2 : 10 ^ 80 ≤ s := by
          rw [HS.out]
          exact Nat.le_mul_of_pos_left _ (Nat.mul_pos (Nat.pos_of_ne_zero ZN.out) (Nat.pos_of_ne_zero (by simp)))
        have a := sq_lt (a := 10 ^ 40) (b := q + 1) (Nat.lt_of_le_of_lt (by rw [← Nat.pow_add]; exact hs2) Q2.out)
        exact Nat.le_trans (Nat.pow_le_pow_right (by decide) (by decide)) (Nat.le_of_lt_succ a)
      have FM := Lib.hid (fun v W (h : Row W v (Dg.dg q)) => rfit_more v q (half - 40) q34 (Nat.lt_trans QB.out (by decide)) (by have := HB.out; omega) (by have := HB.out; omega) W h)
      clear q34
      go_wp2_with fail
      refine (FM.out _ _ RQ.out).mono ?_
      rintro e w6 ⟨n', v6, y, ok, ⟨e1, e2, K, FK, R6⟩, rfl, hb⟩
      subst e1 e2
      have OFF := Lib.hid (off_of R6 (BK.out.below hb))
      have RV := Lib.hid R6
      have HFK := Lib.hid FK
      replace A1 := Lib.hid (A1.out.below hb)
      replace B := Lib.hid (bstep B.out hb)
      clear hb R6 FM RQ BK FK
      obtain ⟨FA, FC, rfl⟩ := slice_of RV.out
      generalize hLF : (Dg.dg K).length = LF at *
      obtain ⟨⟨b1, b2, b3⟩, ⟨b4, b5, b6⟩, b9⟩ := A1.out
      go_wp2
      refine bodyPost_ret (v := .tuple #[Fv false (.slice FA LF FC) y, .bool true]) (by simp [results, Tryd.results11, go_sem, *]) rfl ⟨false, _, _, true, ⟨rfl, rfl, K, .inr ⟨ZN.out, ?_, q, ?_, ?_, ?_⟩, ?_⟩, rfl, Below.set1' (Below.set1' (Below.set1' B.out _ _ (by omega) _) _ _ (by omega) _) _ _ (by omega) _⟩
      · exact no_square (q := q) (by rw [← HS.out]; exact Q1.out) (by rw [← HS.out]; exact Q2.out) (by rw [← HS.out]; exact NQ.out)
      · rw [← HS.out]; exact Q1.out
      · rw [← HS.out]; exact Q2.out
      · rw [← HH.out]; exact HFK.out
      · exact Row.set3 RV.out OFF.out _ _ _
theorem rrootF_any (v : Value) (c : Nat) (x : Int) (hc : c < 10 ^ 34) (x1 : -6176 ≤ x) (x2 : x ≤ 6111) (w : World) (r : Row w v (Dg.dg c)) :
    Calls Tryd.prog 11 #[Fv false v x] w (RetFB (fun n' v' y ok W => n' = false ∧ ok = true ∧ ∃ K, RootR c x K y ∧ Row W v' (Dg.dg K)) w) := by
  have a := Int.lt_tmod_of_pos x (show (0 : Int) < 2 by decide)
  have b := Int.tmod_lt_of_pos x (show (0 : Int) < 2 by decide)
  rcases (show x.tmod 2 = -1 ∨ x.tmod 2 = 0 ∨ x.tmod 2 = 1 by omega) with e | e | e
  · exact rroot_neg v c x e hc x1 x2 w r
  · exact rroot_even v c x e hc x1 x2 w r
  · exact rroot_odd v c x e hc x1 x2 w r
end Go.Proofs.YtncpdoeikebomaaDoor

/-
  The program's root and the reference's are one: plain arithmetic; and a root of what is below 0.
-/
namespace Go.Proofs.YtncpdoeikebomaaDoor
open Go.RowKit

theorem root_unique {a r s : Nat} (r1 : r * r ≤ a) (r2 : a < (r + 1) * (r + 1)) (s1 : s * s ≤ a) (s2 : a < (s + 1) * (s + 1)) : r = s := by
  have a1 := sq_lt (Nat.lt_of_le_of_lt r1 s2)
  have a2 := sq_lt (Nat.lt_of_le_of_lt s1 r2)
  omega
theorem root_cut {M q j : Nat} (h1 : q * q ≤ M * (10 ^ j * 10 ^ j)) (h2 : M * (10 ^ j * 10 ^ j) < (q + 1) * (q + 1)) : q / 10 ^ j * (q / 10 ^ j) ≤ M ∧ M < (q / 10 ^ j + 1) * (q / 10 ^ j + 1) := by
  have hp : 0 < 10 ^ j := Nat.pos_of_ne_zero (by simp)
  have hd := Nat.div_mul_le_self q (10 ^ j)
  have hu : q + 1 ≤ (q / 10 ^ j + 1) * 10 ^ j := by
    have := Nat.lt_div_mul_add hp (a := q)
    rw [Nat.add_mul, Nat.one_mul]
    omega
  generalize q / 10 ^ j = t at *
  generalize 10 ^ j = p at *
  constructor
  · have a := Nat.le_trans (Nat.mul_self_le_mul_self hd) h1
    rw [Nat.mul_mul_mul_comm] at a
    exact Nat.le_of_mul_le_mul_right a (Nat.mul_pos hp hp)
  · have a := Nat.lt_of_lt_of_le h2 (Nat.mul_self_le_mul_self hu)
    rw [Nat.mul_mul_mul_comm] at a
    exact Nat.lt_of_mul_lt_mul_right a
theorem nd_cut {q j : Nat} (h : q / 10 ^ j ≠ 0) : nd q = nd (q / 10 ^ j) + j := by
  have hp : 0 < 10 ^ j := Nat.pos_of_ne_zero (by simp)
  have b := Dg.dg_bounds (q / 10 ^ j)
  have b2 := b.2 h
  have b1 := b.1
  have c1 := (Dg.dg_bounds q).1
  have hd := Nat.div_mul_le_self q (10 ^ j)
  have hu : q < (q / 10 ^ j + 1) * 10 ^ j := by
    have := Nat.lt_div_mul_add hp (a := q)
    rw [Nat.add_mul, Nat.one_mul]
    exact this
  have l0 : 0 < (Dg.dg (q / 10 ^ j)).length := by rw [Dg.dg_pos h]; simp
  unfold nd
  generalize (Dg.dg (q / 10 ^ j)).length = d at *
  have up : (Dg.dg q).length ≤ d + j := Dg.dg_length_le (Nat.lt_of_lt_of_le hu (by rw [Nat.pow_add]; exact Nat.mul_le_mul_right _ b1))
  rcases Nat.lt_or_ge (Dg.dg q).length (d + j) with lt | ge
  · exfalso
    have e1 : 10 ^ (d - 1) * 10 ^ j ≤ q := Nat.le_trans (Nat.mul_le_mul_right _ b2) hd
    have e2 : 10 ^ (Dg.dg q).length ≤ 10 ^ (d - 1 + j) := Nat.pow_le_pow_right (by decide) (by omega)
    rw [Nat.pow_add] at e2
    omega
  · omega
theorem cut_scale {q j n : Nat} (h1 : 1 ≤ n) (h2 : n + j ≤ 78) : cutN 1 false q (n + j) true = cutN 1 false (q / 10 ^ j) n true := by
  have e : ∀ i, q / 10 ^ (i + j) = q / 10 ^ j / 10 ^ i := by
    intro i
    rw [Nat.div_div_eq_div_mul, ← Nat.pow_add, Nat.add_comm]
  unfold cutN upN dropD dropM
  rw [Nat.min_eq_left h2, Nat.min_eq_left (show n ≤ 78 by omega), if_neg (show ¬ n + j = 0 by omega), if_neg (show ¬ n = 0 by omega), show n + j - 1 = (n - 1) + j by omega, e, e, Bool.true_or, Bool.true_or]
theorem fit_scale {q j : Nat} {X : Int} (h : 10 ^ 34 ≤ q / 10 ^ j) (hd : nd q ≤ 70) (x1 : -6000 ≤ X) (x2 : X ≤ 6000) (hj : j ≤ 40) : fitF 1 false q true (X - (j : Int)) = fitF 1 false (q / 10 ^ j) true X := by
  have z : q / 10 ^ j ≠ 0 := fun e => by rw [e] at h; exact absurd h (by decide)
  have dq := nd_cut z
  have dr : 34 < nd (q / 10 ^ j) := by
    rcases Nat.lt_or_ge 34 (nd (q / 10 ^ j)) with y | y
    · exact y
    · exact absurd (Nat.lt_of_lt_of_le (Dg.dg_bounds (q / 10 ^ j)).1 (Nat.pow_le_pow_right (by decide) y)) (Nat.not_lt.2 h)
  clear h
  have s1 : surp q (X - (j : Int)) = (nd (q / 10 ^ j) - 34) + j := by unfold surp; omega
  have s2 : surp (q / 10 ^ j) X = nd (q / 10 ^ j) - 34 := by unfold surp; omega
  unfold fitF
  rw [show min (X - (j : Int)) 6145 = X - (j : Int) by omega, show min X 6145 = X by omega, s1, s2, cut_scale (by omega) (by omega)]
  congr 1
  omega
theorem root_agree {c : Nat} {x : Int} {o : Option (Bool × Nat × Int)} {K : Nat} {y : Int} (P : RootP c x o) (R : RootR c x K y) (hc : c < 10 ^ 34) (x1 : -6176 ≤ x) (x2 : x ≤ 6111) : o = some (false, K, y) := by
  rcases P with ⟨r, hr, ho⟩ | ⟨z, no, r, r1, r2, ho⟩
  · rcases R with ⟨hk, hy⟩ | ⟨_, no, _⟩
    · rw [ho, hy, sq_inj (hr.trans hk.symm)]
    · exact absurd hr (no r)
  · rcases R with ⟨hk, _⟩ | ⟨_, _, q, q1, q2, hf⟩
    · exact absurd hk (no K)
    · rw [ho, ← hf]
      have m0 : c * 10 ^ (x % 2).toNat ≠ 0 := fun e => by
        rcases Nat.mul_eq_zero.1 e with a | a
        · exact z a
        · exact absurd a (Nat.ne_of_gt (Nat.pos_of_ne_zero (by simp)))
      have m35 : c * 10 ^ (x % 2).toNat < 10 ^ 35 := by
        have l : 10 ^ (x % 2).toNat ≤ 10 ^ 1 := Nat.pow_le_pow_right (by decide) (by omega)
        exact Nat.lt_of_lt_of_le (Nat.mul_lt_mul_of_lt_of_le hc l (by decide)) (by rw [← Nat.pow_add]; exact Nat.le_refl _)
      have n35 : nd (c * 10 ^ (x % 2).toNat) ≤ 35 := Dg.dg_length_le m35
      have lo := (Dg.dg_bounds (c * 10 ^ (x % 2).toNat)).2 m0
      generalize c * 10 ^ (x % 2).toNat = m at *
      obtain ⟨k, hk⟩ : ∃ k, k = 35 - (nd m + 1) / 2 := ⟨_, rfl⟩
      rw [← hk] at r1 r2 ⊢
      have M1 : m * 10 ^ 80 = m * 10 ^ (2 * k) * (10 ^ (40 - k) * 10 ^ (40 - k)) := by
        rw [← Nat.pow_add, Nat.mul_assoc, ← Nat.pow_add, show 2 * k + (40 - k + (40 - k)) = 80 by omega]
      rw [M1] at q1 q2
      have c1 := root_cut q1 q2
      have e := root_unique r1 r2 c1.1 c1.2
      have big : 10 ^ 34 ≤ r := by
        have b1 : 10 ^ 34 * 10 ^ 34 ≤ m * 10 ^ (2 * k) := by
          refine Nat.le_trans ?_ (Nat.mul_le_mul_right _ lo)
          rw [← Nat.pow_add, ← Nat.pow_add]
          exact Nat.pow_le_pow_right (by decide) (by unfold nd at *; omega)
        exact Nat.le_of_lt_succ (sq_lt (Nat.lt_of_le_of_lt b1 r2))
      have qd : nd q ≤ 70 := by
        refine Dg.dg_length_le (sq_lt (Nat.lt_of_le_of_lt q1 ?_))
        rw [← M1, ← Nat.pow_add]
        exact Nat.lt_of_lt_of_le (Nat.mul_lt_mul_of_pos_right m35 (Nat.pos_of_ne_zero (by simp))) (by rw [← Nat.pow_add]; exact Nat.pow_le_pow_right (by decide) (by decide))
      rw [e] at big ⊢
      have := fit_scale (X := x / 2 - (k : Int)) big qd (by omega) (by omega) (by omega)
      rw [show x / 2 - (k : Int) - ((40 - k : Nat) : Int) = x / 2 - 40 by omega] at this
      exact this.symm

set_option maxRecDepth 100000 in
set_option maxHeartbeats 4000000 in
theorem root_neg (h l : Nat) (x : Int) (z : nv h l ≠ 0) (w : World) : Calls Tryd.prog 9 #[Dv true h l x] w (RetDO none w) := by
  have SG0 := sign_any true h l x
  rw [show sgn true (nv h l) = -1 by unfold sgn; rw [if_neg z]; rfl] at SG0
  have SG := Lib.hid SG0
  have RES := Lib.hid (show NumO none false 0 0 0 false from ⟨ww0, rfl, rfl, rfl, rfl, rfl⟩)
  clear z SG0
  go_enter Tryd.func9, Tryd.ntmps9
  go_upto_region 1 with fail
  have B := Lib.hid (ballD1 (ballD1 (Below.refl w.heap.size w) (.cells #[.bool true, .int .u64 (h : Int), .int .u64 (l : Int), .int .i64 x] 28)) (.cells #[.bool false, .int .u64 0, .int .u64 0, .int .i64 0] 28))
  have A0 := Lib.hid (show HoldsD ((w.alloc (.cells #[.bool true, .int .u64 (h : Int), .int .u64 (l : Int), .int .i64 x] 28)).alloc (.cells #[.bool false, .int .u64 0, .int .u64 0, .int .i64 0] 28)) w.heap.size true h l x from by simp [HoldsD, go_sem])
  have A1 := Lib.hid (show HoldsD ((w.alloc (.cells #[.bool true, .int .u64 (h : Int), .int .u64 (l : Int), .int .i64 x] 28)).alloc (.cells #[.bool false, .int .u64 0, .int .u64 0, .int .i64 0] 28)) (w.heap.size + 1) false 0 0 0 from by simp [HoldsD, go_sem])
  generalize (w.alloc (.cells #[.bool true, .int .u64 (h : Int), .int .u64 (l : Int), .int .i64 x] 28)).alloc (.cells #[.bool false, .int .u64 0, .int .u64 0, .int .i64 0] 28) = V at *
  obtain ⟨⟨a1, a2, a3, a4⟩, -, a9⟩ := A0.out
  go_wp2_with fail
  refine (SG.out _).mono ?_
  rintro e w1 ⟨rfl, hb⟩
  replace A1 := Lib.hid (A1.out.below hb)
  replace B := Lib.hid (bstep B.out hb)
  clear hb a1 a2 a3 a4 a9 A0 SG
  obtain ⟨⟨b1, b2, b3, b4⟩, ⟨b5, b6, b7, b8⟩, b9⟩ := A1.out
  go_wp2
  refine bodyPost_ret (v := .tuple #[Dv false 0 0 0, .bool false]) (by simp [results, Tryd.results9, go_sem, *]) rfl ⟨false, 0, 0, 0, false, RES.out, rfl, Below.set1' (Below.set1' (Below.set1' (Below.set1' B.out _ _ (by omega) _) _ _ (by omega) _) _ _ (by omega) _) _ _ (by omega) _⟩
end Go.Proofs.YtncpdoeikebomaaDoor

/-
  The statement QuotRoots, walked: it answers true, where the document's examples do.
-/
namespace Go.Proofs.YtncpdoeikebomaaDoor
open Go.RowKit

set_option linter.unusedSimpArgs false in
set_option maxRecDepth 100000 in
set_option maxHeartbeats 40000000 in
theorem quotRoots_walk (AW : ∀ w : World, Tab w → Calls Tryd.prog 7 #[] w (RetB true w)) (n : Bool) (h l : Nat) (x : Int) (h0 : WW h l) (x1 : -9223372036854775808 ≤ x) (x2 : x ≤ 9223372036854775807) (w : World) (ht : Tab w) :
    Calls Tryd.prog 3 #[Dv n h l x] w (RetB true w) := by
  have HT := Lib.hid ht
  have AWH := Lib.hid AW
  have M1 := Lib.hid (make_any n h l x h0 x1 x2)
  clear ht AW h0 x1 x2
  go_enter Tryd.func3, Tryd.ntmps3
  go_wp2_with fail
  refine (AWH.out _ (HT.out.below (by go_grown))).mono ?_
  rintro e' w1 ⟨rfl, hb1⟩
  have A0 := Lib.hid (HoldsD.below (by simp [HoldsD, go_sem]) hb1 : HoldsD w1 w.heap.size n h l x)
  have B : Below w.heap.size w w1 := bstep (by go_grown) hb1
  clear hb1 AWH
  obtain ⟨⟨c1_1, c1_2, c1_3, c1_4⟩, -, c1_9⟩ := A0.out
  go_wp2_with fail
  refine (M1.out _ (HT.out.below B)).mono ?_
  rintro e y1 ⟨na, ah, al, ea, NA, rfl, hb⟩
  clear c1_1 c1_2 c1_3 c1_4 c1_9
  replace A0 := Lib.hid (A0.out.below hb)
  replace B := bstep B hb
  clear hb
  clear M1
  clear A0
  replace B := ballD1 B (.cells #[.bool na, .int .u64 (ah : Int), .int .u64 (al : Int), .int .i64 ea] 28)
  have P3 := Lib.hid (show HoldsD (y1.alloc (.cells #[.bool na, .int .u64 (ah : Int), .int .u64 (al : Int), .int .i64 ea] 28)) y1.heap.size na ah al ea from by simp [HoldsD, go_sem])
  go_upto_region 4 with fail
  obtain ⟨gP3, hg⟩ : ∃ g, g = y1.heap.size := ⟨_, rfl⟩
  rw [← hg] at P3
  rw [← hg]
  generalize y1.alloc (.cells #[.bool na, .int .u64 (ah : Int), .int .u64 (al : Int), .int .i64 ea] 28) = V1 at *
  clear hg
  have HN := Lib.hid NA
  clear NA
  cases na
  · obtain ⟨c, hc⟩ : ∃ c, c = nv ah al := ⟨_, rfl⟩
    have RD0 := rootD_any ah al ea HN.out.1 HN.out.2.1
    rw [← hc] at RD0
    have RD := Lib.hid RD0
    have SG0 := sign_any false ah al ea
    rw [← hc] at SG0
    have sg0 : decide (sgn false c < 0) = false := decide_eq_false (by unfold sgn; split <;> simp)
    generalize sgn false c = sg at *
    have SG := Lib.hid SG0
    have RF0 := ref_any false ah al ea HN.out.1
    rw [← hc] at RF0
    have RF := Lib.hid RF0
    have NM := Lib.hid HN.out.2.1
    rw [← hc] at NM
    have RR := Lib.hid (fun v W (r : Row W v (Dg.dg c)) => rrootF_any v c ea NM.out.1 NM.out.2.1 NM.out.2.2 W r)
    clear hc RD0 SG0 RF0 HN
    obtain ⟨⟨c2_1, c2_2, c2_3, c2_4⟩, -, c2_9⟩ := P3.out
    go_wp2_with fail
    refine (RD.out _ (HT.out.below B)).mono ?_
    rintro e y2 ⟨o, PO, n8, h8, l8, x8, k8, N8, rfl, hb⟩
    clear c2_1 c2_2 c2_3 c2_4 c2_9
    replace P3 := Lib.hid (P3.out.below hb)
    replace B := bstep B hb
    clear hb
    clear RD
    have H8 := Lib.hid N8
    have HP := Lib.hid PO
    clear N8 PO
    replace P3 := Lib.hid (P3.out.alloc (.cells #[.bool n8, .int .u64 (h8 : Int), .int .u64 (l8 : Int), .int .i64 x8] 28))
    replace B := ballD1 B (.cells #[.bool n8, .int .u64 (h8 : Int), .int .u64 (l8 : Int), .int .i64 x8] 28)
    have P4 := Lib.hid (show HoldsD (y2.alloc (.cells #[.bool n8, .int .u64 (h8 : Int), .int .u64 (l8 : Int), .int .i64 x8] 28)) y2.heap.size n8 h8 l8 x8 from by simp [HoldsD, go_sem])
    go_upto_region 5 with fail
    obtain ⟨gP4, hg⟩ : ∃ g, g = y2.heap.size := ⟨_, rfl⟩
    rw [← hg] at P4
    rw [← hg]
    generalize y2.alloc (.cells #[.bool n8, .int .u64 (h8 : Int), .int .u64 (l8 : Int), .int .i64 x8] 28) = V2 at *
    clear hg
    obtain ⟨⟨c3_1, c3_2, c3_3, c3_4⟩, -, c3_9⟩ := P3.out
    go_wp2_with fail
    refine (SG.out _).mono ?_
    rintro e y3 ⟨rfl, hb⟩
    clear c3_1 c3_2 c3_3 c3_4 c3_9
    replace P3 := Lib.hid (P3.out.below hb)
    replace P4 := Lib.hid (P4.out.below hb)
    replace B := bstep B hb
    clear hb
    clear SG
    obtain ⟨⟨c4_1, c4_2, c4_3, c4_4⟩, -, c4_9⟩ := P3.out
    go_wp2_with fail
    refine (RF.out _).mono ?_
    rintro e y4 ⟨n', v, ea', ⟨e1, e2, RV⟩, rfl, hb⟩
    clear c4_1 c4_2 c4_3 c4_4 c4_9
    replace P3 := Lib.hid (P3.out.below hb)
    replace P4 := Lib.hid (P4.out.below hb)
    replace B := bstep B hb
    clear hb
    clear RF
    replace e1 := e1.symm
    replace e2 := e2.symm
    subst e1 e2
    have RP := Lib.hid RV
    clear RV
    obtain ⟨VA, VC, rfl⟩ := slice_of RP.out
    generalize (Dg.dg c).length = LV at *
    clear P3
    go_wp2_with fail
    refine (RR.out _ _ RP.out).mono ?_
    rintro e y5 ⟨n2, v2, y, ok, ⟨e1, e2, K, RK, RV2⟩, rfl, hb⟩
    replace P4 := Lib.hid (P4.out.below hb)
    replace B := bstep B hb
    clear hb
    clear RR RP
    replace e1 := e1.symm
    replace e2 := e2.symm
    subst e1 e2
    obtain ⟨WA, WC, rfl⟩ := slice_of RV2
    have RQ := Lib.hid RV2
    have AG := root_agree HP.out RK NM.out.1 NM.out.2.1 NM.out.2.2
    subst AG
    obtain ⟨h8w, rfl, rfl, h8q, h8x⟩ := H8.out
    replace h8x := h8x.symm
    subst h8x
    have LK := Lib.hid (fun v W (r : Row W v (Dg.dg (nv h8 l8))) => like_yes false h8 l8 y v h8w W r)
    rw [h8q] at LK
    clear RV2 HP RK NM H8 h8w h8q
    generalize (Dg.dg K).length = LKn at *
    replace P4 := Lib.hid (P4.out.alloc (.cells #[.bool false, .slice WA LKn WC, .int .i64 y] 36))
    replace RQ := Lib.hid (RQ.out.alloc (.cells #[.bool false, .slice WA LKn WC, .int .i64 y] 36))
    replace B := ballD1 B (.cells #[.bool false, .slice WA LKn WC, .int .i64 y] 36)
    have P6 := Lib.hid (HoldsF.newF rfl : HoldsF (y5.alloc (.cells #[.bool false, .slice WA LKn WC, .int .i64 y] 36)) y5.heap.size false (.slice WA LKn WC) y)
    go_upto_region 8 with fail
    obtain ⟨gP6, hg⟩ : ∃ g, g = y5.heap.size := ⟨_, rfl⟩
    rw [← hg] at P6
    rw [← hg]
    change Code.wp _ _ _ _ (y5.alloc (.cells #[.bool false, .slice WA LKn WC, .int .i64 y] 36))
    generalize y5.alloc (.cells #[.bool false, .slice WA LKn WC, .int .i64 y] 36) = V9 at *
    clear hg
    obtain ⟨⟨c5_1, c5_2, c5_3, c5_4⟩, -, c5_9⟩ := P4.out
    obtain ⟨⟨c6_1, c6_2, c6_3⟩, -, c6_9⟩ := P6.out
    go_wp2_with fail
    refine (LK.out _ _ RQ.out).mono ?_
    rintro e z ⟨rfl, hb⟩
    replace B := bstep B hb
    clear hb LK
    clear c5_1 c5_2 c5_3 c5_4 c5_9 c6_1 c6_2 c6_3 c6_9
    go_wp2
    go_ret
    exact ⟨rfl, B⟩
  · have nz : nv ah al ≠ 0 := fun e => by have := HN.out.2.2 e; cases this
    have RD := Lib.hid (root_neg ah al ea nz)
    have SG0 := sign_any true ah al ea
    rw [show sgn true (nv ah al) = -1 by unfold sgn; rw [if_neg nz]; rfl] at SG0
    have SG := Lib.hid SG0
    clear SG0 nz HN
    obtain ⟨⟨c2_1, c2_2, c2_3, c2_4⟩, -, c2_9⟩ := P3.out
    go_wp2_with fail
    refine (RD.out _).mono ?_
    rintro e y2 ⟨n8, h8, l8, x8, k8, N8, rfl, hb⟩
    clear c2_1 c2_2 c2_3 c2_4 c2_9
    replace P3 := Lib.hid (P3.out.below hb)
    replace B := bstep B hb
    clear hb
    clear RD
    obtain ⟨-, rfl, rfl, rfl, rfl, rfl⟩ := N8
    replace P3 := Lib.hid (P3.out.alloc (.cells #[.bool false, .int .u64 0, .int .u64 0, .int .i64 0] 28))
    replace B := ballD1 B (.cells #[.bool false, .int .u64 0, .int .u64 0, .int .i64 0] 28)
    have P4 := Lib.hid (show HoldsD (y2.alloc (.cells #[.bool false, .int .u64 0, .int .u64 0, .int .i64 0] 28)) y2.heap.size false 0 0 0 from by simp [HoldsD, go_sem])
    go_upto_region 5 with fail
    obtain ⟨gP4, hg⟩ : ∃ g, g = y2.heap.size := ⟨_, rfl⟩
    rw [← hg] at P4
    rw [← hg]
    generalize y2.alloc (.cells #[.bool false, .int .u64 0, .int .u64 0, .int .i64 0] 28) = V2 at *
    clear hg
    obtain ⟨⟨c3_1, c3_2, c3_3, c3_4⟩, -, c3_9⟩ := P3.out
    go_wp2_with fail
    refine (SG.out _).mono ?_
    rintro e y3 ⟨rfl, hb⟩
    clear c3_1 c3_2 c3_3 c3_4 c3_9
    replace P3 := Lib.hid (P3.out.below hb)
    replace P4 := Lib.hid (P4.out.below hb)
    replace B := bstep B hb
    clear hb
    clear SG
    obtain ⟨⟨c4_1, c4_2, c4_3, c4_4⟩, -, c4_9⟩ := P4.out
    go_wp2
    go_ret
    exact ⟨rfl, B⟩
end Go.Proofs.YtncpdoeikebomaaDoor

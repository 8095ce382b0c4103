/-
  The document's quotient, as a contract of its call.
-/
import Derived.Test.YtlcpbmjipplcdaaDoorRs
import Derived.Test.YtlcpbmjipplcdaaDoorR3
import Derived.Deep.DeepCutAuto
namespace Go.Proofs.YtlcpbmjipplcdaaDoor
open Go.RowKit

theorem one_row' (W : World) (d : Nat) : Row (W.alloc (.cells #[.int .i64 (d : Int)] 3)) (.slice (some ⟨W.heap.size, 0, none⟩) 1 1) [d] := by
  refine ⟨rfl, .inr ⟨W.heap.size, 1, #[.int .i64 (d : Int)], rfl, Nat.zero_le _, ?_, Nat.le_refl _, by decide, rfl, rfl⟩⟩
  exact heap_alloc_new W _
theorem rowDrew {W : World} {v : Value} {l : List Nat} (h : Row W v l) : Row W.drew v l := h
theorem rowAlloc {W : World} {v : Value} {l : List Nat} (h : Row W v l) (o : Obj) : Row (W.alloc o) v l := h.below ((Below.refl _ _).alloc (Nat.le_refl _) o)
theorem val_drop' {b : List Nat} {i : Nat} (h : i < b.length) : Dg.val (b.drop i) = b.getD i 0 + 10 * Dg.val (b.drop (i + 1)) := by
  rw [List.drop_eq_getElem_cons h, Dg.val]
  simp [List.getD, h]

theorem keepS {wr W : World} {g i : Nat} {x : Value} (gw : g < wr.heap.size) (c : wr.cell? ⟨g, i, none⟩ = some x) (B : Below wr.heap.size wr W) : W.cell? ⟨g, i, none⟩ = some x ∧ Below wr.heap.size wr W := ⟨(B.cell gw).trans c, B⟩

def DivRel (w : World) (a : List Nat) (n j : Nat) (q r k : Value) (W : World) : Prop := k = .int .i64 ((j : Int) - 1) ∧ j ≤ a.length ∧ Row W q (Dg.dg (Dg.val (a.drop j) / n)) ∧ Row W r (Dg.dg (Dg.val (a.drop j) % n)) ∧ Below w.heap.size w W
def DivIn (w : World) (R n m : Nat) (r c : Value) (W : World) : Prop := ∃ k : Nat, c = .int .i64 (k : Int) ∧ k * n + m = R ∧ Row W r (Dg.dg m) ∧ Below w.heap.size w W
def RetRows (l m : List Nat) (w : World) (e : Ending) (w' : World) : Prop := ∃ v u, e = .returned (.tuple #[v, u]) ∧ Row w' v l ∧ Row w' u m ∧ Below w.heap.size w w'

theorem div_digit {V d n : Nat} (h : 0 < n) : (d + 10 * V) / n = 10 * (V / n) + (10 * (V % n) + d) / n ∧ (d + 10 * V) % n = (10 * (V % n) + d) % n ∧ (10 * (V % n) + d < 10 * n + d) := by
  have e := Nat.div_add_mod' V n
  have l := Nat.mod_lt V h
  have x : d + 10 * V = (10 * (V % n) + d) + n * (10 * (V / n)) := by
    rw [Nat.mul_left_comm, Nat.mul_comm n]
    omega
  refine ⟨?_, ?_, by omega⟩
  · rw [x, Nat.add_mul_div_left _ _ h]; omega
  · rw [x, Nat.add_mul_mod_self_left]
theorem trim_one {d : Nat} : trim [d] = Dg.dg d := by unfold trim; simp [Dg.val]

set_option maxRecDepth 100000 in
set_option maxHeartbeats 8000000 in
theorem rdiv_any (v1 v2 : Value) (m n : Nat) (n0 : 0 < n) (la : (Dg.dg m).length ≤ 200) (lb : (Dg.dg n).length ≤ 200) (w : World) (h1 : Row w v1 (Dg.dg m)) (h2 : Row w v2 (Dg.dg n)) :
    Calls Tryd.prog 15 #[v1, v2] w (RetRows (Dg.dg (m / n)) (Dg.dg (m % n)) w) := by
  have H2 := Lib.hid h2
  obtain ⟨A, ca, rfl⟩ := slice_of h1
  have F1 := h1.form
  have vm := Dg.val_dg m
  have dm := Dg.dg_lt m
  have nb := (Dg.dg_bounds n).1
  have NB : n < 10 ^ 200 := Nat.lt_of_lt_of_le nb (Nat.pow_le_pow_right (by decide) lb)
  have HNB := Lib.hid NB
  have HLB := Lib.hid lb
  have N0 := Lib.hid n0
  have em : m / n = Dg.val (Dg.dg m) / n := by rw [vm]
  have em' : m % n = Dg.val (Dg.dg m) % n := by rw [vm]
  rw [em, em']
  clear h1 h2 vm em em' nb NB lb n0
  generalize Dg.dg m = a at *
  have HF := Lib.hid F1
  have DM := Lib.hid dm
  clear F1 dm m
  go_enter Tryd.func15, Tryd.ntmps15
  go_wp2
  go_loopg [6, 7, 8] a.length (fun j q r k W => DivRel w a n j q r k W)
  case atStart => exact ⟨rfl, Nat.le_refl _, by rw [List.drop_length, Dg.val, Nat.zero_div, Dg.dg_zero]; exact Row.nil, by rw [List.drop_length, Dg.val, Nat.zero_mod, Dg.dg_zero]; exact Row.nil, Below.refl _ _⟩
  case round =>
    obtain ⟨rfl, r1, RQ, RR, HB⟩ := hrel
    have HQ := Lib.hid RQ
    have HR := Lib.hid RR
    clear RQ RR
    rcases Nat.eq_zero_or_pos gk with g0 | g0
    · subst g0
      have ek : (((0 : Nat) : Int) - 1) = -1 := rfl
      rw [ek]
      clear ek
      go_wp2
      go_ret2
      exact ⟨_, _, rfl, by have := HQ.out; rw [List.drop_zero] at this; exact this, by have := HR.out; rw [List.drop_zero] at this; exact this, HB⟩
    · obtain ⟨i, rfl⟩ : ∃ i, gk = i + 1 := ⟨gk - 1, by omega⟩
      obtain ⟨g2, c2, p1, p2, p3, p4⟩ : ∃ g c, Value.slice A a.length ca = .slice (some ⟨g, 0, none⟩) a.length c ∧ a.length ≤ c ∧ g < w.heap.size ∧ ∀ k, k < a.length → w.cell? ⟨g, k, none⟩ = some (.int .i64 ((a.getD k 0 : Nat) : Int)) := by
        rcases HF.out with ⟨_, e⟩ | ⟨g, c, e, f1, _, f2, f3⟩
        · subst e; simp at r1
        · exact ⟨g, c, e, f1, f2, f3⟩
      have c := (HB.cell (p := ⟨g2, i, none⟩) p3).trans (p4 i (by omega))
      injection p1 with p1 _ p1'
      subst p1 p1'
      have ek : (((i + 1 : Nat) : Int) - 1) = (i : Int) := by omega
      rw [ek]
      have VD := Lib.hid (val_drop' (b := a) (i := i) (by omega))
      have d9 := Dg.getD_lt DM.out i
      have VB : Dg.val (a.drop (i + 1)) < 10 ^ 200 := Nat.lt_of_lt_of_le (Dg.val_lt _ (fun d hd => DM.out d (List.mem_of_mem_drop hd))) (Nat.pow_le_pow_right (by decide) (by simp; omega))
      generalize Dg.val (a.drop (i + 1)) = V at *
      have VL := Lib.hid (show (Dg.dg (V / n)).length ≤ 200 ∧ (Dg.dg (10 * (V / n))).length ≤ 201 from ⟨Dg.dg_length_le (Nat.lt_of_le_of_lt (Nat.div_le_self _ _) VB), Dg.dg_length_le (by have := Nat.div_le_self V n; rw [Nat.pow_succ]; omega)⟩)
      clear VB
      generalize a.getD i 0 = d at *
      have DD := Lib.hid (div_digit (V := V) (d := d) N0.out)
      have SH := Lib.hid (fun v W (h : Row W v (Dg.dg (V % n))) => shift1_any v (V % n) (Nat.le_trans (dg_small (Nat.lt_trans (Nat.mod_lt V N0.out) HNB.out)) (by decide)) W h)
      have TR := Lib.hid (fun v W (h : Row W v [d]) => trim_any v [d] (by simp) (by intro x hx; rw [List.mem_singleton.1 hx]; omega) W h)
      have L1 := Lib.hid (dg_small (Nat.lt_trans (Nat.mod_lt V N0.out) HNB.out))
      have L2 := Lib.hid (Dg.dg_length_le (n := 10 * (V % n)) (k := 201) (by have := Nat.mod_lt V N0.out; have := HNB.out; rw [Nat.pow_succ]; omega))
      have AD := Lib.hid (fun v u W (h : Row W v (Dg.dg (10 * (V % n)))) (k : Row W u (trim [d])) => radd_any v u (Dg.dg (10 * (V % n))) (trim [d]) (by have := L2.out; omega) (by rw [trim_one]; have := @Dg.dg_length_le d 1 (by omega); omega) (Dg.dg_lt _) (Dg.dg_lt _) W h k)
      clear L1 L2
      have gw : g2 < wr.heap.size := by have := HB.size; omega
      have HD9 := Lib.hid d9
      have k0 : (0 : Int) ≤ (i : Int) := by omega
      have k1 : (i : Int) < (a.length : Int) := by omega
      have k2 : i < a.length := by omega
      clear p4 ek d9
      go_wp2
      go_region_held3 (fun w' => w'.cell? ⟨g2, i, none⟩ = some (.int .i64 (d : Int)) ∧ Below wr.heap.size wr w') (first | assumption | exact keepS gw c (by first | assumption | (go_grown; done) | (go_grown; exact Below.size (by assumption))))
        (first
          | (go_at_call 21; refine (SH.out _ _ (HR.out.below (by first | exact And.right (by assumption) | (go_grown; done) | (go_grown; exact Below.size (by assumption))))).mono ?_; rintro e w1 ⟨v15, rfl, R15, hb1⟩; (try (have R21b := R21.below hb1)); have B1 : Below wr.heap.size wr w1 := bstep (by first | exact And.right (by assumption) | (go_grown; done) | (go_grown; exact Below.size (by assumption))) hb1; have c1 : w1.cell? ⟨g2, i, none⟩ = some (.int .i64 (d : Int)) := (B1.cell gw).trans c)
          | (go_at_call 57; refine (TR.out _ _ (by first | exact one_row' _ d | exact rowDrew (one_row' _ d) | exact (one_row' _ d).below hb1 | exact (rowDrew (one_row' _ d)).below hb1 | exact Row.below (rowDrew (one_row' _ d)) (by assumption))).mono ?_; rintro e w2 ⟨v21, rfl, R21, hb2⟩; (try (first | (have R15b := R15.below hb2) | (have R15b := (rowAlloc R15 _).below hb2))); have B2 : Below wr.heap.size wr w2 := bstep (by first | exact And.right (by assumption) | (go_grown; done) | (go_grown; exact Below.size (by assumption))) hb2; have c2 : w2.cell? ⟨g2, i, none⟩ = some (.int .i64 (d : Int)) := (B2.cell gw).trans c)
          | (go_at_call 56; refine (AD.out v15 v21 _ (by assumption) (by assumption)).mono ?_; rintro e w3 ⟨v22, rfl, R22, hb3⟩; have B3 : Below wr.heap.size wr w3 := bstep (by first | exact And.right (by assumption) | (go_grown; done) | (go_grown; exact Below.size (by assumption))) hb3; have c3 : w3.cell? ⟨g2, i, none⟩ = some (.int .i64 (d : Int)) := (B3.cell gw).trans c))
      all_goals
        rw [trim_one, Dg.val_dg, Dg.val_dg] at R22
        have HR22 := Lib.hid R22
        have B3' : Below w.heap.size w w3 := bstep HB B3
        have HQ3 := Lib.hid (HQ.out.below B3)
        obtain ⟨R, hR⟩ : ∃ R, R = 10 * (V % n) + d := ⟨_, rfl⟩
        rw [← hR] at HR22
        have DD' := Lib.hid DD.out
        rw [← hR] at DD'
        have RB := Lib.hid (show R < 10 * n by have := DD.out.2.2; have := HD9.out; have := Nat.mod_lt V N0.out; omega)
        clear R22 HR HB DD hR
        go_wp2
        go_loopg [7, 9] R (fun m r c W => DivIn w3 R n m r c W)
        case atStart => exact ⟨0, rfl, by omega, HR22.out, Below.refl _ _⟩
        case round =>
          obtain ⟨k, rfl, e1, RM, HBi⟩ := hrel
          have HRM := Lib.hid RM
          have E1 := Lib.hid e1
          have mR : gk ≤ R := by omega
          have LM := Lib.hid (Dg.dg_length_le (n := gk) (k := 202) (by have := RB.out; have := HNB.out; rw [Nat.pow_succ, Nat.pow_succ]; omega))
          have H2' := Lib.hid (H2.out.below (bstep B3' HBi))
          have CM := Lib.hid (rcmp_any u7 v2 gk n (by have := LM.out; omega) (by have := HLB.out; omega) wr HRM.out H2'.out)
          clear RM e1 mR
          by_cases st : n ≤ gk
          · have t : decide (0 ≤ cmpN gk n) = true := by
              rcases cmpN_range gk n with ⟨e, _⟩ | ⟨e, _⟩ | ⟨e, _⟩
              · omega
              · rw [e]; decide
              · rw [e]; decide
            have SU := Lib.hid (fun W (h : Row W u7 (Dg.dg gk)) (h' : Row W v2 (Dg.dg n)) => rsub_any u7 v2 (Dg.dg gk) (Dg.dg n) (by have := LM.out; omega) (by have := HLB.out; omega) (Dg.dg_lt _) (Dg.dg_lt _) (by rw [Dg.val_dg, Dg.val_dg]; exact st) W h h')
            have k9 := Lib.hid (show k * n + n ≤ R by have := E1.out; omega)
            have ST := Lib.hid st
            have kb : k ≤ 9 := by
              rcases Nat.lt_or_ge k 10 with z | z
              · omega
              · exfalso; have := Nat.mul_le_mul_right n z; have := RB.out; have := k9.out; omega
            generalize cmpN gk n = cv at *
            clear st
            go_wp2_with fail
            refine (CM.out).mono ?_
            rintro e w4 ⟨rfl, hb4⟩
            go_wp2_with fail
            refine (SU.out _ (HRM.out.below hb4) (H2'.out.below hb4)).mono ?_
            rintro e w5 ⟨v5, rfl, R5, hb5⟩
            rw [Dg.val_dg, Dg.val_dg] at R5
            have HR5 := Lib.hid R5
            have B5 : Below w3.heap.size w3 w5 := bstep (bstep HBi hb4) hb5
            clear R5 hb4 hb5
            go_wp2
            go_roundg (gk - n)
            case measure => have := ST.out; have := N0.out; omega
            case rel => exact ⟨k + 1, by go_num, by have := E1.out; have := ST.out; rw [Nat.add_mul, Nat.one_mul]; omega, HR5.out, B5⟩
          · have t : cmpN gk n = -1 := cmpN_lt (by omega)
            rw [t] at CM
            have st' : gk < n := by omega
            have qk : R / n = k ∧ R % n = gk := by
              have e := E1.out
              rw [← e]
              refine ⟨?_, ?_⟩
              · rw [Nat.add_comm, Nat.add_mul_div_right _ _ N0.out, Nat.div_eq_of_lt st', Nat.zero_add]
              · rw [Nat.add_comm, Nat.add_mul_mod_self_right, Nat.mod_eq_of_lt st']
            have k9 : k ≤ 9 := by
              rcases Nat.lt_or_ge k 10 with z | z
              · omega
              · exfalso; have := Nat.mul_le_mul_right n z; have := RB.out; have := E1.out; omega
            have TR2 := Lib.hid (fun v W (h : Row W v [k]) => trim_any v [k] (by simp) (by intro x hx; rw [List.mem_singleton.1 hx]; omega) W h)
            have AD2 := Lib.hid (fun v u W (h : Row W v (Dg.dg (10 * (V / n)))) (h' : Row W u (trim [k])) => radd_any v u (Dg.dg (10 * (V / n))) (trim [k]) (by have := VL.out.2; omega) (by rw [trim_one]; have := @Dg.dg_length_le k 1 (by omega); omega) (Dg.dg_lt _) (Dg.dg_lt _) W h h')
            have SH2 := Lib.hid (fun W (h : Row W u6 (Dg.dg (V / n))) => shift1_any u6 (V / n) (by have := VL.out.1; omega) W h)
            have QK := Lib.hid qk
            clear qk st st' t
            go_wp2_with fail
            refine (CM.out).mono ?_
            rintro e w4 ⟨rfl, hb4⟩
            have HQ4 := Lib.hid (HQ3.out.below (bstep HBi hb4))
            have HR4 := Lib.hid (HRM.out.below hb4)
            have B4 : Below w.heap.size w w4 := bstep B3' (bstep HBi hb4)
            clear hb4 HBi HQ3 HRM
            go_wp2_with fail
            refine (SH2.out _ HQ4.out).mono ?_
            rintro e w5 ⟨v5, rfl, R5, hb5⟩
            have HR5 := Lib.hid (HR4.out.below hb5)
            have B5 : Below w.heap.size w w5 := bstep B4 hb5
            have RQ5 := Lib.hid R5
            clear R5 hb5 HQ4 HR4 B4
            go_wp2_with fail
            refine (TR2.out _ _ (one_row' _ k)).mono ?_
            rintro e w6 ⟨v6, rfl, R6, hb6⟩
            have HR6 := Lib.hid ((rowAlloc HR5.out _).below hb6)
            have RQ6 := Lib.hid ((rowAlloc RQ5.out _).below hb6)
            have R6 := Lib.hid R6
            have B6 : Below w.heap.size w w6 := bstep (B5.alloc B5.size _) hb6
            clear hb6 HR5 RQ5 B5
            go_wp2_with fail
            refine (AD2.out v5 v6 _ RQ6.out R6.out).mono ?_
            rintro e w7 ⟨v7, rfl, R7, hb7⟩
            rw [trim_one, Dg.val_dg, Dg.val_dg] at R7
            have HR7 := Lib.hid (HR6.out.below hb7)
            have R7 := Lib.hid R7
            have B7 : Below w.heap.size w w7 := bstep B6 hb7
            clear hb7 HR6 RQ6 B6
            go_wp2
            go_roundg i
            case measure => omega
            case rel =>
              refine ⟨rfl, by omega, ?_, ?_, B7⟩
              · rw [VD.out, DD'.out.1, QK.out.1]; exact R7.out
              · rw [VD.out, DD'.out.2.1, QK.out.2]; exact HR7.out
end Go.Proofs.YtlcpbmjipplcdaaDoor

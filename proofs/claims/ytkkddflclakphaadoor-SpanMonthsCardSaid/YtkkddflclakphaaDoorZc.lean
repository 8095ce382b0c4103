/-
  The statement SpanSums, walked: it answers true, where the document's examples do.
-/
import Derived.Test.YtkkddflclakphaaDoorZa
import Derived.Test.YtkkddflclakphaaDoorWid
namespace Go.Proofs.YtkkddflclakphaaDoor
open Go.RowKit

/-- What is asked of the document's examples of layer 10. -/
def AwS : Prop := ∀ w : World, Tab w → Calls Tryd.prog 8 #[] w (Ret (.bool true) w)
theorem parts_sum (n : Int) : 86400 * ptD n + 3600 * ptH n + 60 * ptM n + ptS n = n := by
  unfold ptD ptH ptM ptS
  have a := Int.tdiv_mul_add_tmod n 86400
  have b := Int.tdiv_mul_add_tmod (n.tmod 86400) 3600
  have c := Int.tdiv_mul_add_tmod (n.tmod 3600) 60
  have d : (n.tmod 86400).tmod 3600 = n.tmod 3600 := Int.tmod_tmod_of_dvd n (by decide)
  have e : (n.tmod 3600).tmod 60 = n.tmod 60 := Int.tmod_tmod_of_dvd n (by decide)
  rw [d] at b
  rw [e] at c
  omega
theorem parts_up {n : Int} (h : 0 ≤ n) : 0 ≤ ptD n ∧ 0 ≤ ptH n ∧ 0 ≤ ptM n ∧ 0 ≤ ptS n := by
  unfold ptD ptH ptM ptS
  have a := Int.tmod_nonneg 86400 h
  have b := Int.tmod_nonneg 3600 h
  exact ⟨Int.tdiv_nonneg h (by decide), Int.tdiv_nonneg a (by decide), Int.tdiv_nonneg b (by decide), Int.tmod_nonneg 60 h⟩
theorem parts_neg (n : Int) : ptD (-n) = -ptD n ∧ ptH (-n) = -ptH n ∧ ptM (-n) = -ptM n ∧ ptS (-n) = -ptS n := by
  unfold ptD ptH ptM ptS
  refine ⟨Int.neg_tdiv .., ?_, ?_, Int.neg_tmod ..⟩
  · rw [Int.neg_tmod, Int.neg_tdiv]
  · rw [Int.neg_tmod, Int.neg_tdiv]
theorem parts_size (n : Int) : (-24 < ptH n ∧ ptH n < 24) ∧ (-60 < ptM n ∧ ptM n < 60) ∧ (-60 < ptS n ∧ ptS n < 60) := by
  have key : ∀ n : Int, 0 ≤ n → (0 ≤ ptH n ∧ ptH n < 24) ∧ (0 ≤ ptM n ∧ ptM n < 60) ∧ (0 ≤ ptS n ∧ ptS n < 60) := by
    intro n h
    have a := Int.tmod_nonneg 86400 h
    have b := Int.tmod_nonneg 3600 h
    unfold ptH ptM ptS
    rw [Int.tdiv_eq_ediv_of_nonneg a, Int.tdiv_eq_ediv_of_nonneg b, Int.tmod_eq_emod_of_nonneg h, Int.tmod_eq_emod_of_nonneg h, Int.tmod_eq_emod_of_nonneg h]
    omega
  by_cases h : 0 ≤ n
  · have := key n h
    omega
  · have a := key (-n) (by omega)
    have b := parts_neg n
    omega
theorem parts_down {n : Int} (h : n ≤ 0) : ptD n ≤ 0 ∧ ptH n ≤ 0 ∧ ptM n ≤ 0 ∧ ptS n ≤ 0 := by
  have a := parts_up (show 0 ≤ -n by omega)
  have b := parts_neg n
  omega
set_option linter.unusedSimpArgs false in
set_option linter.unusedVariables false in
set_option maxRecDepth 100000 in
set_option maxHeartbeats 8000000 in
theorem spanSums_walk (AW : AwS) (a b : Int) (ha : I64 a) (w : World) (ht : Tab w) : Calls Tryd.prog 3 #[.int .i64 a, .int .i64 b] w (Ret (.bool true) w) := by
  have HT := Lib.hid ht
  have AW' := Lib.hid AW
  have AD0 := span_add a b
  have SM0 := span_may a
  have MA0 := law_may a
  have MB0 := law_may b
  have MC0 := law_may (a + b)
  have PT0 := span_parts a ha
  have hs : spB a = true → spB b = true → wrap64 (a + b) = a + b ∧ IntKind.i64.wrap (a + b) = a + b := by
    intro h k
    have h := spB_yes.1 h
    have k := spB_yes.1 k
    have r : I64 (a + b) := by unfold I64; omega
    exact ⟨r.wrap', r.wrap⟩
  have HS := Lib.hid hs
  obtain ⟨Y, hY⟩ : ∃ Y, Y = sumB a b := ⟨_, rfl⟩
  obtain ⟨V, hV⟩ : ∃ V, V = sumV a b := ⟨_, rfl⟩
  rw [← hY, ← hV] at AD0
  unfold sumV at hV
  rw [← hY] at hV
  unfold sumB at hY
  have sum := parts_sum a
  have size := parts_size a
  have up := fun h : 0 ≤ a => parts_up h
  have down := fun h : a ≤ 0 => parts_down h
  generalize ptD a = D at *
  generalize ptH a = H at *
  generalize ptM a = M at *
  generalize ptS a = S at *
  have sg : (decide (0 < a) = true ∧ decide (a < 0) = false ∧ decide (D < 0) = false ∧ decide (H < 0) = false ∧ decide (M < 0) = false ∧ decide (S < 0) = false) ∨ (decide (0 < a) = false ∧ decide (a < 0) = true ∧ decide (0 < D) = false ∧ decide (0 < H) = false ∧ decide (0 < M) = false ∧ decide (0 < S) = false) ∨ (decide (0 < a) = false ∧ decide (a < 0) = false) := by
    simp only [decide_eq_true_eq, decide_eq_false_iff_not]
    rcases Int.lt_trichotomy a 0 with k | k | k
    · have := down (by omega); exact .inr (.inl (by omega))
    · exact .inr (.inr (by omega))
    · have := up (by omega); exact .inl (by omega)
  have rg : I64 (86400 * D) ∧ I64 (3600 * H) ∧ I64 (60 * M) ∧ I64 (86400 * D + 3600 * H) ∧ I64 (86400 * D + 3600 * H + 60 * M) ∧ I64 (86400 * D + 3600 * H + 60 * M + S) := by
    unfold I64 at *
    by_cases k : 0 ≤ a
    · have := up k; omega
    · have := down (by omega); omega
  obtain ⟨r1, r2, r3, r4, r5, r6⟩ := rg
  have f1 := r1.wrap
  have f2 := r2.wrap
  have f3 := r3.wrap
  have f4 := r4.wrap
  have f5 := r5.wrap
  have f6 := r6.wrap
  have g1 := r1.wrap'
  have g2 := r2.wrap'
  have g3 := r3.wrap'
  have g4 := r4.wrap'
  have g5 := r5.wrap'
  have g6 := r6.wrap'
  have e0 : (86400 * D + 3600 * H + 60 * M + S == a) = true := by rw [beq_iff_eq]; exact sum
  have z1 : decide (-24 < H) = true := decide_eq_true size.1.1
  have z2 : decide (H < 24) = true := decide_eq_true size.1.2
  have z3 : decide (-60 < M) = true := decide_eq_true size.2.1.1
  have z4 : decide (M < 60) = true := decide_eq_true size.2.1.2
  have z5 : decide (-60 < S) = true := decide_eq_true size.2.2.1
  have z6 : decide (S < 60) = true := decide_eq_true size.2.2.2
  have SG := Lib.hid sg
  clear sum size up down sg r1 r2 r3 r4 r5 r6 ht AW hs ha
  generalize spB a = p at *
  generalize spB b = q at *
  generalize spB (a + b) = r at *
  have HY := Lib.hid hY
  have HV := Lib.hid hV
  have AD := Lib.hid AD0
  have SM := Lib.hid SM0
  have MA := Lib.hid MA0
  have MB := Lib.hid MB0
  have MC := Lib.hid MC0
  have PT := Lib.hid PT0
  clear hY hV AD0 SM0 MA0 MB0 MC0 PT0
  go_enter Tryd.func3, Tryd.ntmps3
  go_wp2_with fail
  refine (AW'.out _ (HT.out.below (by go_grown))).mono ?_
  rintro e w1 ⟨rfl, hb⟩
  have B : Below w.heap.size w w1 := bstep (by go_grown) hb
  clear hb AW' HT
  go_wp2_with fail
  refine (AD.out _).mono ?_
  rintro e w2 ⟨rfl, hb⟩
  replace B := bstep B hb
  clear hb AD
  go_wp2_with fail
  refine (MA.out _).mono ?_
  rintro e w3 ⟨rfl, hb⟩
  replace B := bstep B hb
  clear hb
  cases p
  · obtain rfl : Y = false := by rw [HY.out]; rfl
    obtain rfl : V = 0 := by rw [HV.out]; rfl
    clear HY HV
    go_wp2_with fail
    refine (SM.out _).mono ?_
    rintro e w5 ⟨rfl, hb⟩
    replace B := bstep B hb
    clear hb SM
    go_wp2_with fail
    refine (MA.out _).mono ?_
    rintro e w6 ⟨rfl, hb⟩
    replace B := bstep B hb
    clear hb MA
    go_wp2_with fail
    refine (PT.out _).mono ?_
    rintro e w7 ⟨rfl, hb⟩
    replace B := bstep B hb
    clear hb PT
    rcases SG.out with ⟨s1, s2, t1, t2, t3, t4⟩ | ⟨s1, s2, t1, t2, t3, t4⟩ | ⟨s1, s2⟩
    all_goals
      go_wp2
      go_ret
      exact ⟨rfl, B⟩
  go_wp2_with fail
  refine (MB.out _).mono ?_
  rintro e w31 ⟨rfl, hb⟩
  replace B := bstep B hb
  clear hb MB
  cases q
  · obtain rfl : Y = false := by rw [HY.out]; rfl
    obtain rfl : V = 0 := by rw [HV.out]; rfl
    clear HY HV
    go_wp2_with fail
    refine (SM.out _).mono ?_
    rintro e w5 ⟨rfl, hb⟩
    replace B := bstep B hb
    clear hb SM
    go_wp2_with fail
    refine (MA.out _).mono ?_
    rintro e w6 ⟨rfl, hb⟩
    replace B := bstep B hb
    clear hb MA
    go_wp2_with fail
    refine (PT.out _).mono ?_
    rintro e w7 ⟨rfl, hb⟩
    replace B := bstep B hb
    clear hb PT
    rcases SG.out with ⟨s1, s2, t1, t2, t3, t4⟩ | ⟨s1, s2, t1, t2, t3, t4⟩ | ⟨s1, s2⟩
    all_goals
      go_wp2
      go_ret
      exact ⟨rfl, B⟩
  have h1 := (HS.out (by trivial) (by trivial)).1
  have h2 := (HS.out (by trivial) (by trivial)).2
  clear HS
  go_wp2_with fail
  refine (MC.out _).mono ?_
  rintro e w32 ⟨rfl, hb⟩
  replace B := bstep B hb
  clear hb MC
  cases r
  · obtain rfl : Y = false := by rw [HY.out]; rfl
    obtain rfl : V = 0 := by rw [HV.out]; rfl
    clear HY HV
    go_wp2_with fail
    refine (SM.out _).mono ?_
    rintro e w5 ⟨rfl, hb⟩
    replace B := bstep B hb
    clear hb SM
    go_wp2_with fail
    refine (MA.out _).mono ?_
    rintro e w6 ⟨rfl, hb⟩
    replace B := bstep B hb
    clear hb MA
    go_wp2_with fail
    refine (PT.out _).mono ?_
    rintro e w7 ⟨rfl, hb⟩
    replace B := bstep B hb
    clear hb PT
    rcases SG.out with ⟨s1, s2, t1, t2, t3, t4⟩ | ⟨s1, s2, t1, t2, t3, t4⟩ | ⟨s1, s2⟩
    all_goals
      go_wp2
      go_ret
      exact ⟨rfl, B⟩
  obtain rfl : Y = true := by rw [HY.out]; rfl
  obtain rfl : V = a + b := by rw [HV.out]; rfl
  clear HY HV
  go_wp2_with fail
  refine (SM.out _).mono ?_
  rintro e w5 ⟨rfl, hb⟩
  replace B := bstep B hb
  clear hb SM
  go_wp2_with fail
  refine (MA.out _).mono ?_
  rintro e w6 ⟨rfl, hb⟩
  replace B := bstep B hb
  clear hb MA
  go_wp2_with fail
  refine (PT.out _).mono ?_
  rintro e w7 ⟨rfl, hb⟩
  replace B := bstep B hb
  clear hb PT
  rcases SG.out with ⟨s1, s2, t1, t2, t3, t4⟩ | ⟨s1, s2, t1, t2, t3, t4⟩ | ⟨s1, s2⟩
  all_goals
    go_wp2
    go_ret
    exact ⟨rfl, B⟩
end Go.Proofs.YtkkddflclakphaaDoor

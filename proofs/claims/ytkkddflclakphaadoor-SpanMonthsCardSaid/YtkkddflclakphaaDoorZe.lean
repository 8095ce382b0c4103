/-
  The statement SpanMonths, walked: it answers true, where the document's examples do.
-/
import Derived.Test.YtkkddflclakphaaDoorZd
namespace Go.Proofs.YtkkddflclakphaaDoor
open Go.RowKit

theorem ordT_le {y m d z k e : Int} : ordT y m d z k e ≤ 0 ↔ y < z ∨ (y = z ∧ (m < k ∨ (m = k ∧ d ≤ e))) := by
  unfold ordT ordI
  (repeat' split) <;> omega
theorem ahB_day (t d : Int) : ahB t 0 d 0 = decide (t < d) := by
  unfold ahB
  by_cases h : t = d
  · subst h
    rw [show (t != t) = false by simp, if_neg (by decide), decide_eq_false (by omega), decide_eq_false (by omega)]
  · rw [show (t != d) = true by simpa using h, if_pos rfl]
theorem months_all (y m d n : Int) (h : Day y m d) (n1 : -9007199254740992 ≤ n) (n2 : n ≤ 9007199254740992) (d28 : d ≤ 28) :
    ((moY y m n < -999999999 ∨ 999999999 < moY y m n) ∧ ∀ w : World, Calls Tryd.prog 29 #[Dt y m d, .int .i64 n] w (Ret (.tuple #[Dt 0 0 0, .bool false]) w)) ∨
    ((-999999999 ≤ moY y m n ∧ moY y m n ≤ 999999999) ∧ ∀ w : World, Calls Tryd.prog 29 #[Dt y m d, .int .i64 n] w (Ret (.tuple #[Dt (moY y m n) (moM m n) d, .bool true]) w)) := by
  by_cases c : moY y m n < -999999999 ∨ 999999999 < moY y m n
  · exact .inl ⟨c, months_far y m d n h n1 n2 c⟩
  · have r : -999999999 ≤ moY y m n ∧ moY y m n ≤ 999999999 := by omega
    have k := months_yes y m d n h n1 n2 r
    have l := lenI_pos (moY y m n) (m := moM m n) (by unfold moM; omega) (by unfold moM; omega)
    rw [show min d (lenI (moY y m n) (moM m n)) = d by omega] at k
    exact .inr ⟨r, k⟩
/-- So many whole months lead to a day that is not beyond, and one more does. -/
theorem months_say {Y M D V U T : Int} (h1 : Day Y M D) (h2 : Day V U T) (le : ordT Y M D V U T ≤ 0) (d28 : D ≤ 28) :
    0 ≤ msV Y M D 0 0 V U T 0 ∧ (∃ E G H : Int, (∀ w : World, Calls Tryd.prog 29 #[Dt Y M D, .int .i64 (msV Y M D 0 0 V U T 0)] w (Ret (.tuple #[Dt E G H, .bool true]) w)) ∧ ordT E G H V U T ≤ 0) ∧
    ∃ (E G H : Int) (ok : Bool), (∀ w : World, Calls Tryd.prog 29 #[Dt Y M D, .int .i64 (msV Y M D 0 0 V U T 0 + 1)] w (Ret (.tuple #[Dt E G H, .bool ok]) w)) ∧ (ok = true → 0 < ordT E G H V U T) := by
  have up : 0 ≤ instI V U T 0 0 - instI Y M D 0 0 := by
    rw [ordT_num h1 h2] at le
    have := ordI_cases (numI Y M D) (numI V U T)
    unfold instI
    omega
  have lex := ordT_le.1 le
  have a := h1.lims
  have b := h2.lims
  have eN : msV Y M D 0 0 V U T 0 = (V - Y) * 12 + U - M - (if T < D then 1 else 0) := by
    unfold msV mbV
    rw [if_pos up, ahB_day]
    by_cases k : T < D
    · rw [decide_eq_true k, if_pos rfl, if_pos k]
    · rw [decide_eq_false k, if_neg (by decide), if_neg k]; omega
  obtain ⟨N, hN⟩ : ∃ N, N = msV Y M D 0 0 V U T 0 := ⟨_, rfl⟩
  rw [← hN] at eN ⊢
  clear hN up le
  have n0 : 0 ≤ N ∧ N ≤ 24000000000 := by
    by_cases k : T < D
    · rw [if_pos k] at eN; omega
    · rw [if_neg k] at eN; omega
  have m1 : (moY Y M N = V ∧ moM M N = U ∧ D ≤ T) ∨ (T < D ∧ (moY Y M N < V ∨ (moY Y M N = V ∧ moM M N < U)) ∧ -999999999 ≤ moY Y M N) := by
    unfold moY moM
    by_cases k : T < D
    · rw [if_pos k] at eN; right; omega
    · rw [if_neg k] at eN; left; omega
  have m2 : (moY Y M (N + 1) = V ∧ moM M (N + 1) = U ∧ T < D) ∨ (V < moY Y M (N + 1) ∨ (moY Y M (N + 1) = V ∧ U < moM M (N + 1))) := by
    unfold moY moM
    by_cases k : T < D
    · rw [if_pos k] at eN; left; omega
    · rw [if_neg k] at eN; right; omega
  refine ⟨n0.1, ?_, ?_⟩
  · rcases months_all Y M D N h1 (by omega) (by omega) d28 with ⟨c, _⟩ | ⟨c, k⟩
    · exfalso; omega
    · exact ⟨_, _, _, k, ordT_le.2 (by omega)⟩
  · rcases months_all Y M D (N + 1) h1 (by omega) (by omega) d28 with ⟨c, k⟩ | ⟨c, k⟩
    · exact ⟨_, _, _, _, k, fun c => by cases c⟩
    · refine ⟨_, _, _, _, k, fun _ => ?_⟩
      have := @ordT_le (moY Y M (N + 1)) (moM M (N + 1)) D V U T
      omega
theorem ms_turn {Y M D V U T : Int} (h1 : Day Y M D) (h2 : Day V U T) : msV Y M D 0 0 V U T 0 = -msV V U T 0 0 Y M D 0 := by
  unfold msV
  rcases Int.lt_trichotomy (instI V U T 0 0 - instI Y M D 0 0) 0 with k | k | k
  · rw [if_neg (by omega), if_pos (by omega)]
  · have e : numI Y M D = numI V U T := by unfold instI at k; omega
    obtain ⟨rfl, rfl, rfl⟩ := num_inj h1 h2 e
    rw [if_pos (by omega)]
    unfold mbV
    rw [ahB_day, decide_eq_false (by omega), if_neg (by decide)]
    omega
  · rw [if_pos (by omega), if_neg (by omega), Int.neg_neg]
theorem ms_range {Y M D V U T : Int} (h1 : Day Y M D) (h2 : Day V U T) : -24000000000 ≤ msV Y M D 0 0 V U T 0 ∧ msV Y M D 0 0 V U T 0 ≤ 24000000000 := by
  have a := mbV_range (s := 0) (s' := 0) h1 h2
  have b := mbV_range (s := 0) (s' := 0) h2 h1
  unfold msV
  split <;> omega
set_option linter.unusedSimpArgs false in
set_option linter.unusedVariables false in
set_option maxRecDepth 100000 in
set_option maxHeartbeats 8000000 in
theorem spanMonths_walk (AW : AwS) (y m d v u t : Int) (w : World) (ht : Tab w) : Calls Tryd.prog 7 #[.int .i64 y, .int .i64 m, .int .i64 d, .int .i64 v, .int .i64 u, .int .i64 t] w (Ret (.bool true) w) := by
  have HT := Lib.hid ht
  have AW' := Lib.hid AW
  obtain ⟨Y, M, D, h1, M10⟩ := madeS y m d
  obtain ⟨V, U, T, h2, M20⟩ := madeS v u t
  have NB0 := monthsBetween_of Y M D V U T _ _ (months_same Y M D 0 false 0 V U T 0 h1 may_mid h2 may_mid)
  have KB0 := monthsBetween_of V U T Y M D _ _ (months_same V U T 0 false 0 Y M D 0 h2 may_mid h1 may_mid)
  have tu := ms_turn h1 h2
  have rn := ms_range h1 h2
  have CA0 := cmp_any Y M D V U T
  have sy := fun le d28 => @months_say Y M D V U T h1 h2 le d28
  generalize msV Y M D 0 0 V U T 0 = N at *
  generalize msV V U T 0 0 Y M D 0 = K at *
  generalize ordT Y M D V U T = c at *
  obtain ⟨p, hp⟩ : ∃ p, decide (0 < c) = p := ⟨_, rfl⟩
  obtain ⟨q, hq⟩ : ∃ q, decide (28 < D) = q := ⟨_, rfl⟩
  have say := Lib.hid (fun (h : p = false) (k : q = false) => sy (by subst h; simp at hp; omega) (by subst k; simp at hq; omega))
  have u1 : I64 (-K) := by unfold I64; omega
  have u2 : I64 (N + 1) := by unfold I64; omega
  have f1 := u1.wrap
  have f2 := u2.wrap
  have g1 := u1.wrap'
  have g2 := u2.wrap'
  have e0 : (N == -K) = true := by rw [beq_iff_eq]; exact tu
  have M1 := Lib.hid M10
  have M2 := Lib.hid M20
  have NB := Lib.hid NB0
  have KB := Lib.hid KB0
  have CA := Lib.hid CA0
  clear M10 M20 NB0 KB0 CA0 tu rn sy u1 u2 h1 h2 ht AW
  go_enter Tryd.func7, Tryd.ntmps7
  go_wp2_with fail
  refine (AW'.out _ (HT.out.below (by go_grown))).mono ?_
  rintro e w0 ⟨rfl, hb⟩
  have B : Below w.heap.size w w0 := bstep (by go_grown) hb
  clear hb AW' HT
  go_wp2_with fail
  refine (M1.out _).mono ?_
  rintro e w1 ⟨rfl, hb⟩
  replace B := bstep B hb
  clear hb M1
  go_wp2_with fail
  refine (M2.out _).mono ?_
  rintro e w2 ⟨rfl, hb⟩
  replace B := bstep B hb
  clear hb M2
  go_upto_region 4 with fail
  have PA := Lib.hid (HoldsT.alloc (HoldsT.new rfl) _ : HoldsT ((w2.alloc (DtC Y M D)).alloc (DtC V U T)) w2.heap.size Y M D)
  have PB := Lib.hid (HoldsT.new (by simp) : HoldsT ((w2.alloc (DtC Y M D)).alloc (DtC V U T)) (w2.heap.size + 1) V U T)
  replace B := ballD1 (ballD1 B (DtC Y M D)) (DtC V U T)
  change Code.wp _ _ _ _ ((w2.alloc (DtC Y M D)).alloc (DtC V U T))
  generalize ((w2.alloc (DtC Y M D)).alloc (DtC V U T)) = w3 at *
  obtain ⟨gPA, hg1⟩ : ∃ g, g = w2.heap.size := ⟨_, rfl⟩
  obtain ⟨gPB, hg2⟩ : ∃ g, g = gPA + 1 := ⟨_, rfl⟩
  rw [← hg1] at PA PB ⊢
  rw [← hg2] at PB ⊢
  clear hg1 hg2
  obtain ⟨⟨c0_0, c0_1, c0_2⟩, -, c0z⟩ := PA.out
  obtain ⟨⟨c1_0, c1_1, c1_2⟩, -, c1z⟩ := PB.out
  go_wp2_with fail
  refine (NB.out _).mono ?_
  rintro e w4 ⟨rfl, hb⟩
  replace PA := Lib.hid (PA.out.below hb)
  replace PB := Lib.hid (PB.out.below hb)
  replace B := bstep B hb
  clear hb NB
  clear c0_0 c0_1 c0_2 c0z c1_0 c1_1 c1_2 c1z
  obtain ⟨⟨c0_0, c0_1, c0_2⟩, -, c0z⟩ := PA.out
  obtain ⟨⟨c1_0, c1_1, c1_2⟩, -, c1z⟩ := PB.out
  go_wp2_with fail
  refine (KB.out _).mono ?_
  rintro e w5 ⟨rfl, hb⟩
  replace PA := Lib.hid (PA.out.below hb)
  replace PB := Lib.hid (PB.out.below hb)
  replace B := bstep B hb
  clear hb KB
  clear c0_0 c0_1 c0_2 c0z c1_0 c1_1 c1_2 c1z
  obtain ⟨⟨c0_0, c0_1, c0_2⟩, -, c0z⟩ := PA.out
  obtain ⟨⟨c1_0, c1_1, c1_2⟩, -, c1z⟩ := PB.out
  go_wp2_with fail
  refine (CA.out _).mono ?_
  rintro e w6 ⟨rfl, hb⟩
  replace PA := Lib.hid (PA.out.below hb)
  replace PB := Lib.hid (PB.out.below hb)
  replace B := bstep B hb
  clear hb CA
  clear c0_0 c0_1 c0_2 c0z c1_0 c1_1 c1_2 c1z
  cases p
  case' true =>
    obtain ⟨⟨c0_0, c0_1, c0_2⟩, -, c0z⟩ := PA.out
    obtain ⟨⟨c1_0, c1_1, c1_2⟩, -, c1z⟩ := PB.out
    go_wp2
    go_ret
    exact ⟨rfl, B⟩
  case' false =>
    cases q
    case' true =>
      obtain ⟨⟨c0_0, c0_1, c0_2⟩, -, c0z⟩ := PA.out
      obtain ⟨⟨c1_0, c1_1, c1_2⟩, -, c1z⟩ := PB.out
      go_wp2
      go_ret
      exact ⟨rfl, B⟩
    case' false =>
      obtain ⟨n0, ⟨E, G, H, MS0, s1⟩, ⟨E', G', H', has, MT0, s2⟩⟩ := say.out (by trivial) (by trivial)
      clear say
      have CS0 := cmp_any E G H V U T
      have CT0 := cmp_any E' G' H' V U T
      generalize ordT E G H V U T = c1 at *
      generalize ordT E' G' H' V U T = c2 at *
      have z1 : decide (c1 ≤ 0) = true := decide_eq_true s1
      have z2 : decide (0 ≤ N) = true := decide_eq_true n0
      have S2 := Lib.hid s2
      have MS := Lib.hid MS0
      have MT := Lib.hid MT0
      have CS := Lib.hid CS0
      have CT := Lib.hid CT0
      clear n0 s1 s2 MS0 MT0 CS0 CT0
      obtain ⟨⟨c0_0, c0_1, c0_2⟩, -, c0z⟩ := PA.out
      obtain ⟨⟨c1_0, c1_1, c1_2⟩, -, c1z⟩ := PB.out
      go_wp2_with fail
      refine (MS.out _).mono ?_
      rintro e w7 ⟨rfl, hb⟩
      replace PA := Lib.hid (PA.out.below hb)
      replace PB := Lib.hid (PB.out.below hb)
      replace B := bstep B hb
      clear hb MS
      clear c0_0 c0_1 c0_2 c0z c1_0 c1_1 c1_2 c1z
      replace PA := Lib.hid (PA.out.alloc (DtC E G H))
      replace PB := Lib.hid (PB.out.alloc (DtC E G H))
      have PS := Lib.hid (HoldsT.new rfl : HoldsT (w7.alloc (DtC E G H)) w7.heap.size E G H)
      replace B := ballD1 B (DtC E G H)
      go_upto_region 11 with fail
      change Code.wp _ _ _ _ (w7.alloc (DtC E G H))
      generalize w7.alloc (DtC E G H) = w8 at *
      obtain ⟨gPS, hg⟩ : ∃ g, g = w7.heap.size := ⟨_, rfl⟩
      rw [← hg] at PS ⊢
      clear hg
      obtain ⟨⟨c0_0, c0_1, c0_2⟩, -, c0z⟩ := PA.out
      obtain ⟨⟨c1_0, c1_1, c1_2⟩, -, c1z⟩ := PB.out
      obtain ⟨⟨c2_0, c2_1, c2_2⟩, -, c2z⟩ := PS.out
      go_wp2_with fail
      refine (MT.out _).mono ?_
      rintro e w9 ⟨rfl, hb⟩
      replace PA := Lib.hid (PA.out.below hb)
      replace PB := Lib.hid (PB.out.below hb)
      replace PS := Lib.hid (PS.out.below hb)
      replace B := bstep B hb
      clear hb MT
      clear c0_0 c0_1 c0_2 c0z c1_0 c1_1 c1_2 c1z c2_0 c2_1 c2_2 c2z
      replace PA := Lib.hid (PA.out.alloc (DtC E' G' H'))
      replace PB := Lib.hid (PB.out.alloc (DtC E' G' H'))
      replace PS := Lib.hid (PS.out.alloc (DtC E' G' H'))
      have PT := Lib.hid (HoldsT.new rfl : HoldsT (w9.alloc (DtC E' G' H')) w9.heap.size E' G' H')
      replace B := ballD1 B (DtC E' G' H')
      go_upto_region 12 with fail
      change Code.wp _ _ _ _ (w9.alloc (DtC E' G' H'))
      generalize w9.alloc (DtC E' G' H') = w10 at *
      obtain ⟨gPT, hg⟩ : ∃ g, g = w9.heap.size := ⟨_, rfl⟩
      rw [← hg] at PT ⊢
      clear hg
      obtain ⟨⟨c0_0, c0_1, c0_2⟩, -, c0z⟩ := PA.out
      obtain ⟨⟨c1_0, c1_1, c1_2⟩, -, c1z⟩ := PB.out
      obtain ⟨⟨c2_0, c2_1, c2_2⟩, -, c2z⟩ := PS.out
      obtain ⟨⟨c3_0, c3_1, c3_2⟩, -, c3z⟩ := PT.out
      go_wp2_with fail
      refine (CS.out _).mono ?_
      rintro e w11 ⟨rfl, hb⟩
      replace PA := Lib.hid (PA.out.below hb)
      replace PB := Lib.hid (PB.out.below hb)
      replace PS := Lib.hid (PS.out.below hb)
      replace PT := Lib.hid (PT.out.below hb)
      replace B := bstep B hb
      clear hb CS
      clear c0_0 c0_1 c0_2 c0z c1_0 c1_1 c1_2 c1z c2_0 c2_1 c2_2 c2z c3_0 c3_1 c3_2 c3z
      cases has
      · obtain ⟨⟨c0_0, c0_1, c0_2⟩, -, c0z⟩ := PA.out
        obtain ⟨⟨c1_0, c1_1, c1_2⟩, -, c1z⟩ := PB.out
        go_wp2
        go_ret
        exact ⟨rfl, B⟩
      · have z3 : decide (0 < c2) = true := decide_eq_true (S2.out (by trivial))
        clear S2
        obtain ⟨⟨c0_0, c0_1, c0_2⟩, -, c0z⟩ := PA.out
        obtain ⟨⟨c1_0, c1_1, c1_2⟩, -, c1z⟩ := PB.out
        obtain ⟨⟨c2_0, c2_1, c2_2⟩, -, c2z⟩ := PS.out
        obtain ⟨⟨c3_0, c3_1, c3_2⟩, -, c3z⟩ := PT.out
        go_wp2_with fail
        refine (CT.out _).mono ?_
        rintro e w12 ⟨rfl, hb⟩
        replace PA := Lib.hid (PA.out.below hb)
        replace PB := Lib.hid (PB.out.below hb)
        replace PS := Lib.hid (PS.out.below hb)
        replace PT := Lib.hid (PT.out.below hb)
        replace B := bstep B hb
        clear hb CT
        clear c0_0 c0_1 c0_2 c0z c1_0 c1_1 c1_2 c1z c2_0 c2_1 c2_2 c2z c3_0 c3_1 c3_2 c3z
        go_wp2
        go_ret
        exact ⟨rfl, B⟩
end Go.Proofs.YtkkddflclakphaaDoor

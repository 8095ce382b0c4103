/-
  The law's plain and May, told plainly and walked (layer 13).
-/
import Derived.Test.YtielmfchbgajnaaJw
namespace Go.Proofs.Ytielmfchbgajnaa
open Go.RowKit Go.Shelf

/-- Of all below. -/
def allN (f : Nat → Bool) : Nat → Bool
  | 0 => true
  | i + 1 => allN f i && f i
theorem allN_iff (f : Nat → Bool) : ∀ n, allN f n = true ↔ ∀ i, i < n → f i = true
  | 0 => ⟨fun _ _ h => absurd h (Nat.not_lt_zero _), fun _ => rfl⟩
  | n + 1 => by
    unfold allN
    rw [Bool.and_eq_true, allN_iff f n]
    constructor
    · intro h i hi
      rcases Nat.lt_or_ge i n with q | q
      · exact h.1 i q
      · obtain rfl : i = n := by omega
        exact h.2
    · exact fun h => ⟨fun i hi => h i (by omega), h n (by omega)⟩
theorem allN_no (f : Nat → Bool) (n i : Nat) (hi : i < n) (h : f i = false) : allN f n = false := by
  cases e : allN f n with
  | false => rfl
  | true => rw [(allN_iff f n).1 e i hi] at h; cases h
def plainB : T → Bool
  | .z => true
  | .mk k n it _ _ => allN (fun i => plainB (it i)) n && (k != 13)
def distB (nm : Nat → ByteArray) (m : Nat) : Bool := allN (fun i => allN (fun j => !decide (nm i = nm j)) i) m
/-- Which types there may be. -/
def mayB : T → Bool
  | .z => false
  | .mk k n it m nm => allN (fun i => mayB (it i)) n && (if k = 11 then distB nm m && n == m else m == 0 && ((simB k && n == 0) || ((k == 10 || k == 12) && n == 1) || (k == 13 && decide (0 < n))))
def SaysB (f : T → Bool) (fn : FuncId) (t : T) : Prop := ∀ (S : Nat → Prop) (w : World) (k : Int) (a : Option Addr) (n c : Nat) (b : Option Addr) (m d : Nat), Lies S w (TV k a n c b m d) t → Calls Try.prog fn #[TV k a n c b m d] w (Ret (.bool (f t)) w)
set_option linter.unusedSimpArgs false in
set_option linter.unusedVariables false in
set_option maxRecDepth 100000 in
set_option maxHeartbeats 4000000 in
theorem plain_step (k : Int) (n : Nat) (it : Nat → T) (m : Nat) (nm : Nat → ByteArray) (ih : ∀ i, i < n → SaysB plainB 26 (it i)) (S : Nat → Prop) (w : World) (a : Option Addr) (c : Nat) (b : Option Addr) (d : Nat) (h : Lies S w (TV k a n c b m d) (.mk k n it m nm)) :
    Calls Try.prog 26 #[TV k a n c b m d] w (Ret (.bool (plainB (.mk k n it m nm))) w) := by
  obtain ⟨FW, hc, hd, hk, -, -⟩ := h.few
  have NB : (n : Int) ≤ 9223372036854775806 := by have := FW.1; omega
  have MB : (m : Int) ≤ 9223372036854775806 := by have := FW.2; omega
  have HL := Lib.hid h
  have HC := Lib.hid (And.intro hc hd)
  have IH := Lib.hid ih
  have HV := Lib.hid (rfl : plainB (.mk k n it m nm) = plainB (.mk k n it m nm))
  unfold plainB at HV
  clear h hc hd hk ih FW
  go_enter Try.func26, Try.ntmps26
  go_wp2
  go_loopg [3] n (fun gg i wr => ∃ (kk : Nat), kk ≤ n ∧ n - kk ≤ gg ∧ i = .int .i64 (kk : Int) ∧ Hid (allN (fun i => plainB (it i)) kk = true) ∧ Hid (Boxed wr w.heap.size (.int .i64 k) (.slice a n c) (.slice b m d)) ∧ Hid (Below w.heap.size w wr))
  case atStart => exact ⟨0, Nat.zero_le _, Nat.le_refl _, rfl, Lib.hid rfl, Lib.hid (Boxed.new w _ _ _), Lib.hid ((Below.refl _ _).alloc (Nat.le_refl _) _)⟩
  case round =>
    obtain ⟨kk, hkk, hg, rfl, AL, BX, HB⟩ := hrel
    obtain ⟨x0, x1, x2⟩ := BX.out.cells
    have gx := BX.out.lt
    by_cases hlt : kk < n
    · obtain ⟨g3, o3, rfl, k3, a3, n3, c3, b3, m3, d3, t0, t1, t2, tg, L3⟩ := (HL.out.on HB.out).item kk hlt
      have hlti : (0 : Int) ≤ (kk : Int) ∧ (kk : Int) < (n : Int) := by omega
      have le0 := HB.out.size
      cases hv : plainB (it kk) with
      | true =>
        have CP := Lib.hid (show Calls Try.prog 26 #[TV k3 a3 n3 c3 b3 m3 d3] wr (Ret (.bool true) wr) from by rw [← hv]; exact IH.out kk hlt S wr k3 a3 n3 c3 b3 m3 d3 L3)
        have AL2 := Lib.hid (show allN (fun i => plainB (it i)) (kk + 1) = true from by unfold allN; rw [AL.out, hv]; rfl)
        clear L3 hv AL
        go_wp2_with (go_at_call 26; (with_reducible refine (CP.out).mono ?_); rintro e w5 ⟨rfl, hb5⟩)
        have BX5 := Lib.hid (BX.out.below hb5)
        have HB5 := Lib.hid (bstep HB.out hb5)
        clear x0 x1 x2 t0 t1 t2 hb5 CP
        go_roundg (n - (kk + 1))
        case measure => omega
        case rel => exact ⟨kk + 1, by omega, Nat.le_refl _, by go_num, AL2, BX5, HB5⟩
      | false =>
        have CP := Lib.hid (show Calls Try.prog 26 #[TV k3 a3 n3 c3 b3 m3 d3] wr (Ret (.bool false) wr) from by rw [← hv]; exact IH.out kk hlt S wr k3 a3 n3 c3 b3 m3 d3 L3)
        have NO : plainB (.mk k n it m nm) = false := by unfold plainB; rw [allN_no _ n kk hlt hv]; rfl
        clear L3 hv AL
        go_wp2_with (go_at_call 26; (with_reducible refine (CP.out).mono ?_); rintro e w5 ⟨rfl, hb5⟩)
        go_ret
        rw [NO]
        exact ⟨rfl, bstep HB.out hb5⟩
    · obtain rfl : kk = n := by omega
      have YS : plainB (.mk k kk it m nm) = (k != 13) := by unfold plainB; rw [AL.out]; rfl
      go_wp2
      go_ret
      rw [YS]
      exact ⟨rfl, HB.out⟩
theorem plain_any : ∀ t, SaysB plainB 26 t := by
  intro t
  induction t with
  | z => intro S w k a n c b m d h; cases h
  | mk k n it m nm ih =>
    intro S w k' a n' c b m' d h
    obtain rfl : k = k' := h.kk
    obtain rfl : n = n' := h.nn
    obtain rfl : m = m' := h.mm
    exact plain_step k n it m nm (fun i _ => ih i) S w a c b d h
theorem nat_beq (a b : Nat) : (a == b) = ((a : Int) == (b : Int)) := by
  rw [Bool.eq_iff_iff, beq_iff_eq, beq_iff_eq]
  omega
theorem bytes_ne {a b : ByteArray} (h : ¬ a = b) : (a.toList == b.toList) = false := by
  rw [beq_eq_false_iff_ne]
  intro e
  rw [ByteArray.toList_eq, ByteArray.toList_eq] at e
  exact h (ByteArray.ext (Array.ext' e))
set_option linter.unusedSimpArgs false in
set_option linter.unusedVariables false in
set_option maxRecDepth 100000 in
set_option maxHeartbeats 4000000 in
theorem lmay_step (k : Int) (n : Nat) (it : Nat → T) (m : Nat) (nm : Nat → ByteArray) (ih : ∀ i, i < n → SaysB mayB 15 (it i)) (S : Nat → Prop) (w : World) (a : Option Addr) (c : Nat) (b : Option Addr) (d : Nat) (h : Lies S w (TV k a n c b m d) (.mk k n it m nm)) :
    Calls Try.prog 15 #[TV k a n c b m d] w (Ret (.bool (mayB (.mk k n it m nm))) w) := by
  obtain ⟨FW, hc, hd, hk, -, -⟩ := h.few
  have NB : (n : Int) ≤ 9223372036854775806 := by have := FW.1; omega
  have MB : (m : Int) ≤ 9223372036854775806 := by have := FW.2; omega
  have HL := Lib.hid h
  have HC := Lib.hid (And.intro hc hd)
  have IH := Lib.hid ih
  have HV := Lib.hid (rfl : mayB (.mk k n it m nm) = mayB (.mk k n it m nm))
  unfold mayB at HV
  clear h hc hd hk ih FW
  go_enter Try.func15, Try.ntmps15
  go_wp2
  go_loopg [3] n (fun gg i wr => ∃ (kk : Nat), kk ≤ n ∧ n - kk ≤ gg ∧ i = .int .i64 (kk : Int) ∧ Hid (allN (fun i => mayB (it i)) kk = true) ∧ Hid (Boxed wr w.heap.size (.int .i64 k) (.slice a n c) (.slice b m d)) ∧ Hid (Below w.heap.size w wr))
  case atStart => exact ⟨0, Nat.zero_le _, Nat.le_refl _, rfl, Lib.hid rfl, Lib.hid (Boxed.new w _ _ _), Lib.hid ((Below.refl _ _).alloc (Nat.le_refl _) _)⟩
  case round =>
    obtain ⟨kk, hkk, hg, rfl, AL, BX, HB⟩ := hrel
    obtain ⟨x0, x1, x2⟩ := BX.out.cells
    have gx := BX.out.lt
    by_cases hlt : kk < n
    · obtain ⟨g3, o3, rfl, k3, a3, n3, c3, b3, m3, d3, t0, t1, t2, tg, L3⟩ := (HL.out.on HB.out).item kk hlt
      have hlti : (0 : Int) ≤ (kk : Int) ∧ (kk : Int) < (n : Int) := by omega
      have le0 := HB.out.size
      cases hv : mayB (it kk) with
      | true =>
        have CP := Lib.hid (show Calls Try.prog 15 #[TV k3 a3 n3 c3 b3 m3 d3] wr (Ret (.bool true) wr) from by rw [← hv]; exact IH.out kk hlt S wr k3 a3 n3 c3 b3 m3 d3 L3)
        have AL2 := Lib.hid (show allN (fun i => mayB (it i)) (kk + 1) = true from by unfold allN; rw [AL.out, hv]; rfl)
        clear L3 hv AL
        go_wp2_with (go_at_call 15; (with_reducible refine (CP.out).mono ?_); rintro e w5 ⟨rfl, hb5⟩)
        have BX5 := Lib.hid (BX.out.below hb5)
        have HB5 := Lib.hid (bstep HB.out hb5)
        clear x0 x1 x2 t0 t1 t2 hb5 CP
        go_roundg (n - (kk + 1))
        case measure => omega
        case rel => exact ⟨kk + 1, by omega, Nat.le_refl _, by go_num, AL2, BX5, HB5⟩
      | false =>
        have CP := Lib.hid (show Calls Try.prog 15 #[TV k3 a3 n3 c3 b3 m3 d3] wr (Ret (.bool false) wr) from by rw [← hv]; exact IH.out kk hlt S wr k3 a3 n3 c3 b3 m3 d3 L3)
        have NO : mayB (.mk k n it m nm) = false := by unfold mayB; rw [allN_no _ n kk hlt hv]; rfl
        clear L3 hv AL
        go_wp2_with (go_at_call 15; (with_reducible refine (CP.out).mono ?_); rintro e w5 ⟨rfl, hb5⟩)
        go_ret
        rw [NO]
        exact ⟨rfl, bstep HB.out hb5⟩
    · obtain rfl : kk = n := by omega
      by_cases h11 : k = 11
      · subst h11
        have HM := Lib.hid (show mayB (.mk 11 kk it m nm) = (distB nm m && kk == m) from by unfold mayB; rw [AL.out, if_pos rfl]; rfl)
        go_wp2
        obtain ⟨wo, rfl⟩ : ∃ wo : World, wo = wr := ⟨_, rfl⟩
        go_loopg [5] m (fun gg i wr => ∃ (ii : Nat), ii ≤ m ∧ m - ii ≤ gg ∧ i = .int .i64 (ii : Int) ∧ Hid (allN (fun i => allN (fun j => !decide (nm i = nm j)) i) ii = true) ∧ Hid (Boxed wr w.heap.size (.int .i64 11) (.slice a kk c) (.slice b m d)) ∧ Hid (Below w.heap.size w wr))
        case atStart => exact ⟨0, Nat.zero_le _, Nat.le_refl _, rfl, Lib.hid rfl, BX, HB⟩
        case round =>
          clear x0 x1 x2 gx BX HB
          obtain ⟨ii, hii, hgi, rfl, AI, BX, HB⟩ := hrel
          obtain ⟨x0, x1, x2⟩ := BX.out.cells
          have gx := BX.out.lt
          by_cases hli : ii < m
          · go_wp2
            obtain ⟨wo, rfl⟩ : ∃ wo : World, wo = wr := ⟨_, rfl⟩
            go_loopg [6] ii (fun gg j wr => ∃ (jj : Nat), jj ≤ ii ∧ ii - jj ≤ gg ∧ j = .int .i64 (jj : Int) ∧ Hid (allN (fun j => !decide (nm ii = nm j)) jj = true) ∧ Hid (Boxed wr w.heap.size (.int .i64 11) (.slice a kk c) (.slice b m d)) ∧ Hid (Below w.heap.size w wr))
            case atStart => exact ⟨0, Nat.zero_le _, Nat.le_refl _, rfl, Lib.hid rfl, BX, HB⟩
            case round =>
              clear x0 x1 x2 gx BX HB
              obtain ⟨jj, hjj, hgj, rfl, AJ, BX, HB⟩ := hrel
              obtain ⟨x0, x1, x2⟩ := BX.out.cells
              have gx := BX.out.lt
              by_cases hlj : jj < ii
              · obtain ⟨gN, oN, eN, nc, ng, -⟩ := HL.out.name ii hli
                subst eN
                replace nc : wr.cell? ⟨gN, oN + ii, none⟩ = some (.string (nm ii)) := cell_at nc HB.out ng
                obtain ⟨gN', oN', eN', nj, ngj, -⟩ := HL.out.name jj (by omega)
                injection eN' with eN'
                injection eN' with e1 e2
                subst e1 e2
                replace nj : wr.cell? ⟨gN, oN + jj, none⟩ = some (.string (nm jj)) := cell_at nj HB.out ngj
                have hlii : (0 : Int) ≤ (ii : Int) ∧ (ii : Int) < (m : Int) := by omega
                have hljj : (0 : Int) ≤ (jj : Int) ∧ (jj : Int) < (m : Int) := by omega
                have hlj2 : (jj : Int) < (ii : Int) := by omega
                by_cases he : nm ii = nm jj
                · have NO : distB nm m = false := allN_no _ m ii hli (allN_no _ ii jj hlj (by simp [he]))
                  have NM := HM.out
                  rw [NO] at NM
                  rw [he] at nc
                  clear HM AJ AI NO he
                  generalize nm jj = sj at nc nj
                  go_wp2
                  go_region
                  go_wp2
                  go_ret
                  rw [NM]
                  exact ⟨rfl, HB.out.drew⟩
                · have hb : ((nm ii).toList == (nm jj).toList) = false := bytes_ne he
                  have AJ2 := Lib.hid (show allN (fun j => !decide (nm ii = nm j)) (jj + 1) = true from by unfold allN; rw [AJ.out]; simp [he])
                  clear AJ he
                  generalize nm jj = sj at nj hb
                  generalize nm ii = si at nc hb
                  go_wp2
                  go_region
                  go_wp2
                  go_roundg (ii - (jj + 1))
                  case measure => omega
                  case rel => exact ⟨jj + 1, by omega, Nat.le_refl _, by go_num, AJ2, BX, Lib.hid HB.out.drew⟩
              · obtain rfl : jj = ii := by omega
                have AI2 := Lib.hid (show allN (fun i => allN (fun j => !decide (nm i = nm j)) i) (jj + 1) = true from by unfold allN; rw [AI.out]; exact AJ.out)
                clear AJ AI
                go_wp2
                go_roundg (m - (jj + 1))
                case measure => omega
                case rel => exact ⟨jj + 1, by omega, Nat.le_refl _, by go_num, AI2, BX, HB⟩
          · obtain rfl : ii = m := by omega
            have HM2 : mayB (.mk 11 kk it ii nm) = ((kk : Int) == (ii : Int)) := by
              rw [HM.out, show distB nm ii = true from AI.out]
              rw [nat_beq]; rfl
            clear AI
            go_wp2
            go_ret
            rw [HM2]
            exact ⟨rfl, HB.out⟩
      · have j11 : (k == 11) = false := by simp [h11]
        by_cases hm : m = 0
        · subst hm
          have HM := Lib.hid (show mayB (.mk k kk it 0 nm) = ((simB k && kk == 0) || ((k == 10 || k == 12) && kk == 1) || (k == 13 && decide (0 < kk))) from by unfold mayB; rw [AL.out, if_neg h11]; rfl)
          have kways : k = 10 ∨ k = 12 ∨ k = 13 ∨ (k ≠ 10 ∧ k ≠ 12 ∧ k ≠ 13) := by omega
          have nways : kk = 0 ∨ kk = 1 ∨ 2 ≤ kk := by omega
          rcases kways with rfl | rfl | rfl | ⟨e1, e2, e3⟩
          · have s1 : simB 10 = false := rfl
            have SM := Lib.hid (fun W => (lsimple_walk 10 W : Calls Try.prog 18 #[.int .i64 10] W (Ret (.bool false) W)))
            rcases nways with rfl | rfl | hn
            · have HM3 := HM.out
              simp [s1] at HM3
              go_wp2_with (go_at_call 18; (with_reducible refine (SM.out _).mono ?_); rintro e w5 ⟨rfl, hb5⟩; obtain ⟨z0, z1, z2⟩ := (BX.out.below hb5).cells)
              go_ret
              rw [HM3]
              exact ⟨rfl, bstep HB.out hb5⟩
            · have HM3 := HM.out
              simp [s1] at HM3
              go_wp2_with (go_at_call 18; (with_reducible refine (SM.out _).mono ?_); rintro e w5 ⟨rfl, hb5⟩; obtain ⟨z0, z1, z2⟩ := (BX.out.below hb5).cells)
              go_ret
              rw [HM3]
              exact ⟨rfl, bstep HB.out hb5⟩
            · have n6 : (kk == 0) = false := by simp; omega
              have n7 : (kk == 1) = false := by simp; omega
              have n0 : ((kk : Int) == 0) = false := by simp; omega
              have n1 : ((kk : Int) == 1) = false := by simp; omega
              have n2 : ¬ kk = 0 := by omega
              have n3 : ¬ kk = 1 := by omega
              have n4 : (0 : Int) < (kk : Int) := by omega
              have n5 : 0 < kk := by omega
              have HM3 := HM.out
              simp [s1, n2, n3, n5, n6, n7] at HM3
              go_wp2_with (go_at_call 18; (with_reducible refine (SM.out _).mono ?_); rintro e w5 ⟨rfl, hb5⟩; obtain ⟨z0, z1, z2⟩ := (BX.out.below hb5).cells)
              go_ret
              rw [HM3]
              exact ⟨rfl, bstep HB.out hb5⟩
          · have s1 : simB 12 = false := rfl
            have SM := Lib.hid (fun W => (lsimple_walk 12 W : Calls Try.prog 18 #[.int .i64 12] W (Ret (.bool false) W)))
            rcases nways with rfl | rfl | hn
            · have HM3 := HM.out
              simp [s1] at HM3
              go_wp2_with (go_at_call 18; (with_reducible refine (SM.out _).mono ?_); rintro e w5 ⟨rfl, hb5⟩; obtain ⟨z0, z1, z2⟩ := (BX.out.below hb5).cells)
              go_ret
              rw [HM3]
              exact ⟨rfl, bstep HB.out hb5⟩
            · have HM3 := HM.out
              simp [s1] at HM3
              go_wp2_with (go_at_call 18; (with_reducible refine (SM.out _).mono ?_); rintro e w5 ⟨rfl, hb5⟩; obtain ⟨z0, z1, z2⟩ := (BX.out.below hb5).cells)
              go_ret
              rw [HM3]
              exact ⟨rfl, bstep HB.out hb5⟩
            · have n6 : (kk == 0) = false := by simp; omega
              have n7 : (kk == 1) = false := by simp; omega
              have n0 : ((kk : Int) == 0) = false := by simp; omega
              have n1 : ((kk : Int) == 1) = false := by simp; omega
              have n2 : ¬ kk = 0 := by omega
              have n3 : ¬ kk = 1 := by omega
              have n4 : (0 : Int) < (kk : Int) := by omega
              have n5 : 0 < kk := by omega
              have HM3 := HM.out
              simp [s1, n2, n3, n5, n6, n7] at HM3
              go_wp2_with (go_at_call 18; (with_reducible refine (SM.out _).mono ?_); rintro e w5 ⟨rfl, hb5⟩; obtain ⟨z0, z1, z2⟩ := (BX.out.below hb5).cells)
              go_ret
              rw [HM3]
              exact ⟨rfl, bstep HB.out hb5⟩
          · have s1 : simB 13 = false := rfl
            have SM := Lib.hid (fun W => (lsimple_walk 13 W : Calls Try.prog 18 #[.int .i64 13] W (Ret (.bool false) W)))
            rcases nways with rfl | rfl | hn
            · have HM3 := HM.out
              simp [s1] at HM3
              go_wp2_with (go_at_call 18; (with_reducible refine (SM.out _).mono ?_); rintro e w5 ⟨rfl, hb5⟩; obtain ⟨z0, z1, z2⟩ := (BX.out.below hb5).cells)
              go_ret
              rw [HM3]
              exact ⟨rfl, bstep HB.out hb5⟩
            · have HM3 := HM.out
              simp [s1] at HM3
              go_wp2_with (go_at_call 18; (with_reducible refine (SM.out _).mono ?_); rintro e w5 ⟨rfl, hb5⟩; obtain ⟨z0, z1, z2⟩ := (BX.out.below hb5).cells)
              go_ret
              rw [HM3]
              exact ⟨rfl, bstep HB.out hb5⟩
            · have n6 : (kk == 0) = false := by simp; omega
              have n7 : (kk == 1) = false := by simp; omega
              have n0 : ((kk : Int) == 0) = false := by simp; omega
              have n1 : ((kk : Int) == 1) = false := by simp; omega
              have n2 : ¬ kk = 0 := by omega
              have n3 : ¬ kk = 1 := by omega
              have n4 : (0 : Int) < (kk : Int) := by omega
              have n5 : 0 < kk := by omega
              have HM3 := HM.out
              simp [s1, n2, n3, n5, n6, n7] at HM3
              go_wp2_with (go_at_call 18; (with_reducible refine (SM.out _).mono ?_); rintro e w5 ⟨rfl, hb5⟩; obtain ⟨z0, z1, z2⟩ := (BX.out.below hb5).cells)
              go_ret
              rw [HM3]
              exact ⟨rfl, bstep HB.out hb5⟩
          · have j0 : (k == 10) = false := by simp [e1]
            have j2 : (k == 12) = false := by simp [e2]
            have j3 : (k == 13) = false := by simp [e3]
            cases hs : simB k with
            | true =>
              have SM := Lib.hid (show ∀ W, Calls Try.prog 18 #[.int .i64 k] W (Ret (.bool true) W) from fun W => by rw [← hs]; exact lsimple_walk k W)
              rcases nways with rfl | rfl | hn
              · have HM3 := HM.out
                simp [hs, j0, j2, j3, e1, e2, e3] at HM3
                go_wp2_with (go_at_call 18; (with_reducible refine (SM.out _).mono ?_); rintro e w5 ⟨rfl, hb5⟩; obtain ⟨z0, z1, z2⟩ := (BX.out.below hb5).cells)
                go_ret
                rw [HM3]
                exact ⟨rfl, bstep HB.out hb5⟩
              · have HM3 := HM.out
                simp [hs, j0, j2, j3, e1, e2, e3] at HM3
                go_wp2_with (go_at_call 18; (with_reducible refine (SM.out _).mono ?_); rintro e w5 ⟨rfl, hb5⟩; obtain ⟨z0, z1, z2⟩ := (BX.out.below hb5).cells)
                go_ret
                rw [HM3]
                exact ⟨rfl, bstep HB.out hb5⟩
              · have n6 : (kk == 0) = false := by simp; omega
                have n7 : (kk == 1) = false := by simp; omega
                have n0 : ((kk : Int) == 0) = false := by simp; omega
                have n1 : ((kk : Int) == 1) = false := by simp; omega
                have n2 : ¬ kk = 0 := by omega
                have n3 : ¬ kk = 1 := by omega
                have n4 : (0 : Int) < (kk : Int) := by omega
                have n5 : 0 < kk := by omega
                have HM3 := HM.out
                simp [hs, j0, j2, j3, e1, e2, e3, n2, n3, n5, n6, n7] at HM3
                go_wp2_with (go_at_call 18; (with_reducible refine (SM.out _).mono ?_); rintro e w5 ⟨rfl, hb5⟩; obtain ⟨z0, z1, z2⟩ := (BX.out.below hb5).cells)
                go_ret
                rw [HM3]
                exact ⟨rfl, bstep HB.out hb5⟩
            | false =>
              have SM := Lib.hid (show ∀ W, Calls Try.prog 18 #[.int .i64 k] W (Ret (.bool false) W) from fun W => by rw [← hs]; exact lsimple_walk k W)
              rcases nways with rfl | rfl | hn
              · have HM3 := HM.out
                simp [hs, j0, j2, j3, e1, e2, e3] at HM3
                go_wp2_with (go_at_call 18; (with_reducible refine (SM.out _).mono ?_); rintro e w5 ⟨rfl, hb5⟩; obtain ⟨z0, z1, z2⟩ := (BX.out.below hb5).cells)
                go_ret
                rw [HM3]
                exact ⟨rfl, bstep HB.out hb5⟩
              · have HM3 := HM.out
                simp [hs, j0, j2, j3, e1, e2, e3] at HM3
                go_wp2_with (go_at_call 18; (with_reducible refine (SM.out _).mono ?_); rintro e w5 ⟨rfl, hb5⟩; obtain ⟨z0, z1, z2⟩ := (BX.out.below hb5).cells)
                go_ret
                rw [HM3]
                exact ⟨rfl, bstep HB.out hb5⟩
              · have n6 : (kk == 0) = false := by simp; omega
                have n7 : (kk == 1) = false := by simp; omega
                have n0 : ((kk : Int) == 0) = false := by simp; omega
                have n1 : ((kk : Int) == 1) = false := by simp; omega
                have n2 : ¬ kk = 0 := by omega
                have n3 : ¬ kk = 1 := by omega
                have n4 : (0 : Int) < (kk : Int) := by omega
                have n5 : 0 < kk := by omega
                have HM3 := HM.out
                simp [hs, j0, j2, j3, e1, e2, e3, n2, n3, n5, n6, n7] at HM3
                go_wp2_with (go_at_call 18; (with_reducible refine (SM.out _).mono ?_); rintro e w5 ⟨rfl, hb5⟩; obtain ⟨z0, z1, z2⟩ := (BX.out.below hb5).cells)
                go_ret
                rw [HM3]
                exact ⟨rfl, bstep HB.out hb5⟩
        · have NO : mayB (.mk k kk it m nm) = false := by unfold mayB; rw [if_neg h11]; simp [hm]
          have hm0 : (0 : Int) < (m : Int) := by omega
          go_wp2
          go_ret
          rw [NO]
          exact ⟨rfl, HB.out⟩
theorem lmay_any : ∀ t, SaysB mayB 15 t := by
  intro t
  induction t with
  | z => intro S w k a n c b m d h; cases h
  | mk k n it m nm ih =>
    intro S w k' a n' c b m' d h
    obtain rfl : k = k' := h.kk
    obtain rfl : n = n' := h.nn
    obtain rfl : m = m' := h.mm
    exact lmay_step k n it m nm (fun i _ => ih i) S w a c b d h
end Go.Proofs.Ytielmfchbgajnaa

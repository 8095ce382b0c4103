/-
  Several texts in one: each one's own remark stands ahead of it.
-/
import Derived.Test.YtncpdoeikebomaaDoorRma
import Derived.Test.YtncpdoeikebomaaDoorPa
import Derived.Test.YtncpdoeikebomaaDoorTma
import Derived.Test.YtncpdoeikebomaaDoorVall
import Derived.Deep.RegionHeld3
/-
  The document's digits in a part of a slice: leaving out the noughts above, as a contract of its call.
-/
namespace Go.Proofs.YtncpdoeikebomaaDoor
open Go.RowKit

/-- A slice that begins anywhere in a block of ints holds the digits l. -/
def Part (W : World) (g o cap : Nat) (l : List Nat) : Prop := l.length ≤ cap ∧ cap ≤ maxLen ∧ g < W.heap.size ∧ ∀ k, k < l.length → W.cell? ⟨g, o + k, none⟩ = some (.int .i64 ((l.getD k 0 : Nat) : Int))
theorem Part.below {W w1 : World} {g o cap : Nat} {l : List Nat} (h : Part W g o cap l) (hb : Below W.heap.size W w1) : Part w1 g o cap l :=
  ⟨h.1, h.2.1, Nat.lt_of_lt_of_le h.2.2.1 hb.size, fun k hk => (hb.cell (p := ⟨g, o + k, none⟩) h.2.2.1).trans (h.2.2.2 k hk)⟩

theorem cells_takeP {w : World} {g o : Nat} {l : List Nat} (h : ∀ k, k < l.length → w.cell? ⟨g, o + k, none⟩ = some (.int .i64 ((l.getD k 0 : Nat) : Int))) {n : Nat} (hn : n ≤ l.length) :
    ∀ j u, ((l.take n).map fun d : Nat => Value.int .i64 (d : Int))[j]? = some u → w.cell? ((⟨g, o, none⟩ : Addr).add j) = some u := by
  intro j u hu
  have hj : j < n := by
    rcases Nat.lt_or_ge j n with x | x
    · exact x
    · rw [List.getElem?_eq_none (by simp; omega)] at hu; cases hu
  have e : (⟨g, o, none⟩ : Addr).add j = ⟨g, o + j, none⟩ := by
    unfold Addr.add
    split
    · rename_i z; subst z; rfl
    · rfl
  rw [e, h j (by omega)]
  rw [List.getElem?_map, List.getElem?_take_of_lt hj, List.getElem?_eq_getElem (by omega)] at hu
  simp [List.getD, List.getElem?_eq_getElem (show j < l.length by omega)] at hu ⊢
  exact hu

set_option maxHeartbeats 800000 in
theorem trimP_any (g o cap : Nat) (l : List Nat) (hl : l.length ≤ 100000) (hd : ∀ d ∈ l, d < 10) (w : World) (h : Part w g o cap l) :
    Calls Tryd.prog 50 #[.slice (some ⟨g, o, none⟩) l.length cap] w (RetRow (trim l) w) := by
  obtain ⟨i0, hi0, hz0, hz1, hz2⟩ := info_parts int_info
  obtain ⟨h1, h2, h3, h4⟩ := h
  have h2' : cap ≤ 9223372036854775807 := h2
  clear h2
  have H4 := Lib.hid h4
  have HD := Lib.hid hd
  clear h4 hd
  go_enter Tryd.func50, Tryd.ntmps50
  go_wp2
  go_loopg [3] l.length (fun k n W => TrimRel w l k n W)
  case atStart => exact ⟨rfl, rfl, Nat.le_refl _, fun j hj => by simp [List.getD, hj]⟩
  case round =>
    obtain ⟨rfl, rfl, r1, r2⟩ := hrel
    have R2 := Lib.hid r2
    clear r2
    rcases Nat.eq_zero_or_pos gk with z | z
    · subst z
      have T := Lib.hid (trim_of HD.out r1 R2.out (.inl rfl))
      have nw := Lib.hid (cells_takeP H4.out r1)
      go_wp2_with (at_builtin; refine wpList_append_own _ rfl (.tmp 19) (.tmp 22) _ rfl 0 3 i0 _ 1 8 Tryd.underlying33 hi0 hz0 hz1 hz2 rfl (by omega) (.slice none 0 0) 0 [] rfl ⟨by simp, .inl ⟨rfl, rfl⟩⟩ ⟨g, o, none⟩ 0 cap ((l.take 0).map fun d : Nat => Value.int .i64 (d : Int)) rfl ?_ ?_ ?_ ?_ ?_ (Nat.zero_le _) ?_)
      · simp
      · exact nw.out
      · intro u hu
        obtain ⟨x, _, rfl⟩ := List.mem_map.1 hu
        rfl
      · simp only [maxLen]; omega
      · omega
      · intro v' w' hown hg _
        go_wp2
        go_ret
        refine ⟨v', rfl, ?_, (Below.refl _ _).grown hg (Nat.le_refl _) (by simp [Value.ownBlock])⟩
        rw [← T.out]
        unfold Row
        rw [List.length_take, Nat.min_eq_left r1, List.map_take]
        exact hown
    · obtain ⟨k, rfl⟩ : ∃ k, gk = k + 1 := ⟨gk - 1, by omega⟩
      have c := H4.out k (by omega)
      have ek : ((k : Int) + 1 - 1) = k := by omega
      by_cases e : l.getD k 0 = 0
      · rw [e] at c
        have E := Lib.hid e
        clear e
        go_wp2
        go_roundg k
        case measure => omega
        case rel => exact ⟨rfl, by go_num, by omega, fun j hj => (Nat.eq_or_lt_of_le hj).elim (fun x => x ▸ E.out) (fun x => R2.out j x)⟩
      · have T := Lib.hid (trim_of HD.out r1 R2.out (.inr (by simpa using e)))
        have nw := Lib.hid (cells_takeP H4.out r1)
        generalize l.getD k 0 = d at *
        have ne : ((d : Int) == 0) = false := by simp; omega
        clear e
        go_wp2_with (at_builtin; refine wpList_append_own _ rfl (.tmp 19) (.tmp 22) _ rfl 0 3 i0 _ 1 8 Tryd.underlying33 hi0 hz0 hz1 hz2 rfl (by omega) (.slice none 0 0) 0 [] rfl ⟨by simp, .inl ⟨rfl, rfl⟩⟩ ⟨g, o, none⟩ (k + 1) cap ((l.take (k + 1)).map fun d : Nat => Value.int .i64 (d : Int)) rfl ?_ ?_ ?_ ?_ ?_ (Nat.zero_le _) ?_)
        · simp; omega
        · exact nw.out
        · intro u hu
          obtain ⟨x, _, rfl⟩ := List.mem_map.1 hu
          rfl
        · simp only [maxLen]; omega
        · omega
        · intro v' w' hown hg _
          go_wp2
          go_ret
          refine ⟨v', rfl, ?_, (Below.refl _ _).grown hg (Nat.le_refl _) (by simp [Value.ownBlock])⟩
          rw [← T.out]
          unfold Row
          rw [List.length_take, Nat.min_eq_left r1, List.map_take]
          exact hown
end Go.Proofs.YtncpdoeikebomaaDoor

/-
  The document's rounding: whether a size becomes one more (up of the reference), as a contract of its call.
-/
namespace Go.Proofs.YtncpdoeikebomaaDoor
open Go.RowKit

theorem row_new (W : World) (d : Nat) : Row (W.alloc (.cells #[.int .i64 (d : Int)] 3)) (.slice (some ⟨W.heap.size, 0, none⟩) 1 1) [d] := by
  refine ⟨rfl, .inr ⟨W.heap.size, 1, #[.int .i64 (d : Int)], rfl, Nat.zero_le _, ?_, Nat.le_refl _, by decide, rfl, rfl⟩⟩
  exact heap_alloc_new W _
theorem dg_digit {d : Nat} (h : d < 10) (h0 : d ≠ 0) : Dg.dg d = [d] := by
  rw [Dg.dg_pos (by omega), Nat.mod_eq_of_lt h, Nat.div_eq_of_lt h]
  simp [Dg.dg_zero]
/-- How what was cut off stands to the half, and a little more. -/
def cH (R k : Nat) (more : Bool) : Int := if cmpN R (5 * 10 ^ k) = 0 ∧ more = true then 1 else cmpN R (5 * 10 ^ k)
theorem cmpN_cases (a b : Nat) : (cmpN a b = -1 ∧ a < b) ∨ (cmpN a b = 0 ∧ a = b) ∨ (cmpN a b = 1 ∧ b < a) := by
  unfold cmpN
  split
  · exact .inl ⟨rfl, by assumption⟩
  · split
    · exact .inr (.inr ⟨rfl, by assumption⟩)
    · exact .inr (.inl ⟨rfl, by omega⟩)
/-- What rounding is, by the half. -/
def upH (m : Nat) (neg odd : Bool) (c : Int) : Bool :=
  if m = 1 then decide (0 < c) || (decide (c = 0) && odd) else if m = 2 then decide (0 ≤ c) else if m = 3 then decide (0 < c) else if m = 4 then true else if m = 6 then neg else if m = 7 then !neg else false
theorem upH_go (m : Nat) (hm : m = 1 ∨ m = 2 ∨ m = 3 ∨ m = 4 ∨ m = 5 ∨ m = 6 ∨ m = 7) (neg odd : Bool) (R k : Nat) (more : Bool) (hz : R ≠ 0 ∨ more = true) :
    upH m neg odd (cH R k more) = goUp m neg odd (R / 10 ^ k) (more || decide (R % 10 ^ k ≠ 0)) := by
  unfold cH
  have hp : 0 < 10 ^ k := Nat.pos_of_ne_zero (by simp)
  have hd := Nat.div_add_mod R (10 ^ k)
  have hl := Nat.mod_lt R hp
  generalize 10 ^ k = p at *
  generalize hq : R / p = d at *
  generalize R % p = l at *
  have hne : (decide (d = 0) && !(more || decide (l ≠ 0))) = false := by
    cases more
    · rcases hz with hz | hz
      · by_cases a : d = 0
        · subst a
          have : l ≠ 0 := by intro e; subst e; simp at hd; omega
          simp [this]
        · simp [a]
      · cases hz
    · simp
  have h1 : cmpN R (5 * p) = -1 ↔ d < 5 := by
    rcases cmpN_cases R (5 * p) with ⟨a, b⟩ | ⟨a, b⟩ | ⟨a, b⟩
    · simp only [a, true_iff]
      rcases Nat.lt_or_ge d 5 with x | x
      · exact x
      · have := Nat.mul_le_mul_left p x; omega
    · rw [a]
      refine ⟨fun x => by omega, fun x => ?_⟩
      have := Nat.mul_le_mul_left p (show d + 1 ≤ 5 by omega)
      rw [Nat.mul_add] at this; omega
    · rw [a]
      refine ⟨fun x => by omega, fun x => ?_⟩
      have := Nat.mul_le_mul_left p (show d + 1 ≤ 5 by omega)
      rw [Nat.mul_add] at this; omega
  have h0 : cmpN R (5 * p) = 0 ↔ d = 5 ∧ l = 0 := by
    rcases cmpN_cases R (5 * p) with ⟨a, b⟩ | ⟨a, b⟩ | ⟨a, b⟩
    · rw [a]
      refine ⟨fun x => by omega, fun ⟨x, y⟩ => ?_⟩
      subst x y; omega
    · simp only [a, true_iff]
      have e : d = 5 := by
        rcases Nat.lt_trichotomy d 5 with x | x | x
        · have := Nat.mul_le_mul_left p (show d + 1 ≤ 5 by omega)
          rw [Nat.mul_add] at this; omega
        · exact x
        · have := Nat.mul_le_mul_left p (show 6 ≤ d by omega); omega
      subst e; exact ⟨rfl, by omega⟩
    · rw [a]
      refine ⟨fun x => by omega, fun ⟨x, y⟩ => ?_⟩
      subst x y; omega
  unfold upH goUp
  rw [hne]
  rcases cmpN_cases R (5 * p) with ⟨a, -⟩ | ⟨a, -⟩ | ⟨a, -⟩
  · have x := h1.1 a
    rw [a]
    have n5 : d ≠ 5 := by omega
    have m5 : ¬ 5 ≤ d := by omega
    rcases hm with rfl | rfl | rfl | rfl | rfl | rfl | rfl <;> simp [n5, m5]
  · obtain ⟨rfl, rfl⟩ := h0.1 a
    rw [a]
    cases more
    · rcases hm with rfl | rfl | rfl | rfl | rfl | rfl | rfl <;> simp
    · rcases hm with rfl | rfl | rfl | rfl | rfl | rfl | rfl <;> simp
  · rw [a]
    have x : 5 ≤ d := by
      rcases Nat.lt_or_ge d 5 with x | x
      · have := h1.2 x; omega
      · exact x
    have y : (decide (d = 5) && !(more || decide (l ≠ 0))) = false := by
      cases e : (decide (d = 5) && !(more || decide (l ≠ 0)))
      · rfl
      · simp at e
        have := h0.2 ⟨e.1, e.2.2⟩
        omega
    rw [y]
    rcases hm with rfl | rfl | rfl | rfl | rfl | rfl | rfl <;> simp [x]

set_option maxRecDepth 100000 in
set_option maxHeartbeats 4000000 in
theorem up_none (m : Int) (neg : Bool) (vq vr : Value) (Q : Nat) (n : Int) (w : World) (rq : Row w vq (Dg.dg Q)) (rr : Row w vr (Dg.dg 0)) :
    Calls Tryd.prog 51 #[.int .i64 m, .bool neg, vq, vr, .int .i64 n, .bool false] w (RetB false w) := by
  obtain ⟨A, ca, rfl⟩ := slice_of rq
  obtain ⟨B, cb, rfl⟩ := slice_of rr
  rw [show (Dg.dg 0).length = 0 by rw [Dg.dg_zero]; rfl]
  clear rq rr
  generalize (Dg.dg Q).length = LQ
  go_enter Tryd.func51, Tryd.ntmps51
  go_wp2
  go_ret
  exact ⟨rfl, by go_grown⟩
theorem row_first {W : World} {v : Value} {Q : Nat} (h : Row W v (Dg.dg Q)) (z : Q ≠ 0) : ∃ g cap, v = .slice (some ⟨g, 0, none⟩) (Dg.dg Q).length cap ∧ 0 < (Dg.dg Q).length ∧ (Dg.dg Q).length ≤ cap ∧ W.cell? ⟨g, 0, none⟩ = some (.int .i64 ((Q % 10 : Nat) : Int)) ∧ g < W.heap.size := by
  have e := Dg.dg_pos z
  rcases h.form with ⟨-, h0⟩ | ⟨g, cap, rfl, h1, -, h3, h4⟩
  · rw [e] at h0; cases h0
  · have l : 0 < (Dg.dg Q).length := by rw [e]; simp
    refine ⟨g, cap, rfl, l, h1, ?_, h3⟩
    have := h4 0 l
    rw [e] at this
    simpa using this

set_option maxRecDepth 100000 in
set_option maxHeartbeats 20000000 in
theorem up_walk (m : Nat) (hm : m = 1 ∨ m = 2 ∨ m = 3 ∨ m = 4 ∨ m = 5 ∨ m = 6 ∨ m = 7) (neg : Bool) (vq vr : Value) (Q R k : Nat) (ni : Int) (more odd : Bool) (hni : ni = (k : Int) + 1) (hk : k ≤ 1000) (hR : (Dg.dg R).length ≤ 20000) (hz : R ≠ 0 ∨ more = true) (ho : odd = decide (Q % 2 = 1)) (w : World) (rq : Row w vq (Dg.dg Q)) (rr : Row w vr (Dg.dg R)) :
    Calls Tryd.prog 51 #[.int .i64 (m : Int), .bool neg, vq, vr, .int .i64 ni, .bool more] w (RetB (upH m neg odd (cH R k more)) w) := by
  have SH := Lib.hid (fun W (h : Row W (.slice (some ⟨w.heap.size, 0, none⟩) 1 1) (Dg.dg 5)) => shift_any _ 5 k (by omega) (by rw [dg_digit (by decide) (by decide)]; simp) W h)
  have H5 : (Dg.dg (5 * 10 ^ k)).length ≤ 20000 := by
    have : 5 * 10 ^ k < 10 ^ (k + 1) := by rw [Nat.pow_succ]; have : 0 < 10 ^ k := Nat.pos_of_ne_zero (by simp); omega
    have := Dg.dg_length_le this
    omega
  have CM := Lib.hid (fun v2 W (h1 : Row W vr (Dg.dg R)) (h2 : Row W v2 (Dg.dg (5 * 10 ^ k))) => rcmp_any vr v2 R (5 * 10 ^ k) hR H5 W h1 h2)
  have N5 := Lib.hid (show Row (w.alloc (.cells #[.int .i64 5] 3)) (.slice (some ⟨w.heap.size, 0, none⟩) 1 1) (Dg.dg 5) by rw [dg_digit (by decide) (by decide)]; exact row_new w 5)
  have f1 : wrap64 (ni - 1) = (k : Int) := by rw [hni]; unfold wrap64; omega
  have f2 : IntKind.i64.wrap (ni - 1) = (k : Int) := by rw [hni, IntKind.wrap_i64]; omega
  have f3 : decide (ni < 1) = false := decide_eq_false (by omega)
  clear hni hk
  have RQ := Lib.hid rq
  have RR := Lib.hid rr
  have OQ : (∃ A c, vq = .slice A 0 c ∧ odd = false) ∨ (∃ g L c, vq = .slice (some ⟨g, 0, none⟩) L c ∧ 0 < L ∧ L ≤ c ∧ g < w.heap.size ∧ ∃ d : Int, w.cell? ⟨g, 0, none⟩ = some (.int .i64 d) ∧ (d.tmod 2 == 1) = odd) := by
    by_cases z : Q = 0
    · subst z
      obtain ⟨A, c, rfl⟩ := slice_of rq
      refine .inl ⟨A, c, ?_, by rw [ho]; rfl⟩
      rw [Dg.dg_zero]; rfl
    · obtain ⟨g, c, rfl, l, lc, hc, hg⟩ := row_first rq z
      refine .inr ⟨g, _, c, rfl, l, lc, hg, _, hc, ?_⟩
      rw [ho, Int.tmod_eq_emod_of_nonneg (by omega), Bool.eq_iff_iff]
      simp
      omega
  obtain ⟨B, cb, rfl⟩ := slice_of rr
  have ZR : ((((Dg.dg R).length : Nat) : Int) == 0) = decide (R = 0) := by
    by_cases z : R = 0
    · subst z; rw [Dg.dg_zero]; rfl
    · rw [decide_eq_false z, Dg.dg_pos (by omega)]; simp; omega
  have HZ : decide (R = 0) = false ∨ more = true := by
    rcases hz with hz | hz
    · exact .inl (decide_eq_false hz)
    · exact .inr hz
  generalize decide (R = 0) = zr at *
  generalize (Dg.dg R).length = LR at *
  clear rq rr hz ho hR H5
  have CC := cmpN_cases R (5 * 10 ^ k)
  unfold cH
  generalize cmpN R (5 * 10 ^ k) = cc at *
  obtain ⟨b, hb0⟩ : ∃ b, upH m neg odd (if cc = 0 ∧ more = true then 1 else cc) = b := ⟨_, rfl⟩
  rw [hb0]
  have HB := Lib.hid hb0
  clear hb0
  rcases OQ with ⟨A, c, rfl, rfl⟩ | ⟨g, L, c, rfl, l0, lc, hg, d, hd, p⟩
  · go_enter Tryd.func51, Tryd.ntmps51
    cases zr
    case' true =>
      obtain rfl : more = true := by rcases HZ with h | h; cases h; exact h
    all_goals
      clear HZ
      go_wp2_with fail
      have B1 := Lib.hid (show Below w.heap.size w (w.alloc (.cells #[.int .i64 5] 3)) by go_grown)
      refine (SH.out _ N5.out).mono ?_
      rintro e w2 ⟨v5, rfl, R5, hb⟩
      have RR2 := (RR.out.below B1.out).below hb
      have B2 := Lib.hid (bstep B1.out hb)
      have R5' := Lib.hid R5
      clear B1 SH N5 R5 hb RR RQ
      obtain ⟨A5, c5, rfl⟩ := slice_of R5'.out
      generalize (Dg.dg (5 * 10 ^ k)).length = L5 at *
      clear f1 f2
      go_wp2_with fail
      refine (CM.out _ _ RR2 R5'.out).mono ?_
      rintro e w3 ⟨rfl, hb2⟩
      have B3 := Lib.hid (bstep B2.out hb2)
      clear CM RR2 R5' hb2 B2
      rcases CC with ⟨rfl, -⟩ | ⟨rfl, -⟩ | ⟨rfl, -⟩
      all_goals try cases more
      all_goals rcases hm with rfl | rfl | rfl | rfl | rfl | rfl | rfl
      all_goals
        go_wp2
        go_ret
        exact ⟨congrArg (fun b => Ending.returned (.bool b)) (by rw [← HB.out]; simp [upH]), B3.out⟩
  · go_enter Tryd.func51, Tryd.ntmps51
    cases zr
    case' true =>
      obtain rfl : more = true := by rcases HZ with h | h; cases h; exact h
    all_goals
      clear HZ
      go_wp2_with fail
      have B1 := Lib.hid (show Below w.heap.size w (w.alloc (.cells #[.int .i64 5] 3)) by go_grown)
      refine (SH.out _ N5.out).mono ?_
      rintro e w2 ⟨v5, rfl, R5, hb⟩
      have RR2 := (RR.out.below B1.out).below hb
      have B2 := Lib.hid (bstep B1.out hb)
      have hd2 : w2.cell? ⟨g, 0, none⟩ = some (.int .i64 d) := (B2.out.cell (p := ⟨g, 0, none⟩) hg).trans hd
      have R5' := Lib.hid R5
      clear B1 SH N5 R5 hb RR RQ
      obtain ⟨A5, c5, rfl⟩ := slice_of R5'.out
      generalize (Dg.dg (5 * 10 ^ k)).length = L5 at *
      clear f1 f2
      go_wp2_with fail
      refine (CM.out _ _ RR2 R5'.out).mono ?_
      rintro e w3 ⟨rfl, hb2⟩
      have B3 := Lib.hid (bstep B2.out hb2)
      have hd3 : w3.cell? ⟨g, 0, none⟩ = some (.int .i64 d) := (B3.out.cell (p := ⟨g, 0, none⟩) hg).trans hd
      clear hd hd2
      clear CM RR2 R5' hb2 B2
      rcases CC with ⟨rfl, -⟩ | ⟨rfl, -⟩ | ⟨rfl, -⟩
      all_goals try cases more
      all_goals rcases hm with rfl | rfl | rfl | rfl | rfl | rfl | rfl
      all_goals
        go_wp2
        go_ret
        exact ⟨congrArg (fun b => Ending.returned (.bool b)) (by rw [← HB.out]; simp [upH]), B3.out⟩
end Go.Proofs.YtncpdoeikebomaaDoor

/-
  The document's numbers without so many digits (Cut of the reference), as a contract of its call.
-/
namespace Go.Proofs.YtncpdoeikebomaaDoor
open Go.RowKit

theorem val_cut {l : List Nat} (h : ∀ d ∈ l, d < 10) {k : Nat} (hk : k ≤ l.length) : Dg.val (l.take k) = Dg.val l % 10 ^ k ∧ Dg.val (l.drop k) = Dg.val l / 10 ^ k := by
  have e : Dg.val l = Dg.val (l.take k) + 10 ^ k * Dg.val (l.drop k) := by
    conv => lhs; rw [← List.take_append_drop k l]
    rw [Dg.val_append, List.length_take, Nat.min_eq_left hk]
  have b := Dg.val_lt (l.take k) (fun d hd => h d (List.mem_of_mem_take hd))
  rw [List.length_take, Nat.min_eq_left hk] at b
  have hp : 0 < 10 ^ k := Nat.pos_of_ne_zero (by simp)
  rw [e]
  constructor
  · rw [Nat.add_mul_mod_self_left, Nat.mod_eq_of_lt b]
  · rw [Nat.add_mul_div_left _ _ hp, Nat.div_eq_of_lt b, Nat.zero_add]
theorem cut_parts (c n : Nat) : trim ((Dg.dg c).take (min n (Dg.dg c).length)) = Dg.dg (c % 10 ^ n) ∧ trim ((Dg.dg c).drop (min n (Dg.dg c).length)) = Dg.dg (c / 10 ^ n) := by
  have k := val_cut (l := Dg.dg c) (Dg.dg_lt c) (Nat.min_le_right n (Dg.dg c).length)
  rw [Dg.val_dg] at k
  have b := (Dg.dg_bounds c).1
  unfold trim
  rw [k.1, k.2]
  rcases Nat.le_total n (Dg.dg c).length with x | x
  · rw [Nat.min_eq_left x]; exact ⟨rfl, rfl⟩
  · rw [Nat.min_eq_right x, Nat.mod_eq_of_lt b, Nat.div_eq_of_lt b, Nat.mod_eq_of_lt (Nat.lt_of_lt_of_le b (Nat.pow_le_pow_right (by decide) x)), Nat.div_eq_of_lt (Nat.lt_of_lt_of_le b (Nat.pow_le_pow_right (by decide) x))]
    exact ⟨rfl, rfl⟩
/-- What is left of a size without its last digits is what the program's plain words say. -/
theorem cut_plain (m : Nat) (hm : m = 1 ∨ m = 2 ∨ m = 3 ∨ m = 4 ∨ m = 5 ∨ m = 6 ∨ m = 7) (neg : Bool) (c k : Nat) (more : Bool) (hc : c < 10 ^ 77) (hz : c % 10 ^ (k + 1) ≠ 0 ∨ more = true) :
    c / 10 ^ (k + 1) + (if upH m neg (decide (c / 10 ^ (k + 1) % 2 = 1)) (cH (c % 10 ^ (k + 1)) k more) then 1 else 0) = cutN m neg c (k + 1) more := by
  rw [upH_go m hm neg _ _ k more hz]
  unfold cutN upN dropD dropM
  rcases Nat.lt_or_ge k 78 with x | x
  · rw [Nat.min_eq_left (show k + 1 ≤ 78 by omega), if_neg (show ¬ (k + 1 = 0) by omega), Nat.add_sub_cancel]
    have e1 : c % 10 ^ (k + 1) / 10 ^ k = c / 10 ^ k % 10 := by rw [Nat.pow_succ, Nat.mod_mul_right_div_self]
    have e2 : c % 10 ^ (k + 1) % 10 ^ k = c % 10 ^ k := by rw [Nat.pow_succ, Nat.mod_mul_right_mod]
    rw [e1, e2]
  · rw [Nat.min_eq_right (show 78 ≤ k + 1 by omega), if_neg (show ¬ ((78 : Nat) = 0) by decide)]
    have lk : c < 10 ^ k := Nat.lt_of_lt_of_le hc (Nat.pow_le_pow_right (by decide) (by omega))
    have lk1 : c < 10 ^ (k + 1) := Nat.lt_of_lt_of_le hc (Nat.pow_le_pow_right (by decide) (by omega))
    have l78 : c < 10 ^ 78 := Nat.lt_of_lt_of_le hc (by decide +kernel)
    rw [Nat.mod_eq_of_lt lk1, Nat.div_eq_of_lt lk1, Nat.div_eq_of_lt lk, Nat.mod_eq_of_lt lk, Nat.div_eq_of_lt l78, show (78 - 1 : Nat) = 77 from rfl, Nat.div_eq_of_lt hc, Nat.mod_eq_of_lt hc]
theorem cut_plain0 (m : Nat) (neg : Bool) (c n : Nat) (hc : c < 10 ^ 77) (hz : c % 10 ^ n = 0) : c / 10 ^ n = cutN m neg c n false := by
  have e : c % 10 ^ min n 78 = 0 ∧ c / 10 ^ n = c / 10 ^ min n 78 := by
    rcases Nat.le_total n 78 with x | x
    · rw [Nat.min_eq_left x]; exact ⟨hz, rfl⟩
    · have l78 : c < 10 ^ 78 := Nat.lt_of_lt_of_le hc (by decide +kernel)
      have ln : c < 10 ^ n := Nat.lt_of_lt_of_le l78 (Nat.pow_le_pow_right (by decide) x)
      rw [Nat.mod_eq_of_lt ln] at hz
      rw [Nat.min_eq_right x, hz]
      simp
  unfold cutN upN
  have u : goUp m neg (decide (c / 10 ^ min n 78 % 2 = 1)) (dropD c (min n 78)) (dropM c (min n 78) false) = false := by
    have d : dropD c (min n 78) = 0 ∧ dropM c (min n 78) false = false := by
      generalize min n 78 = t at *
      have h := e.1
      unfold dropD dropM
      rcases Nat.eq_zero_or_pos t with z | z
      · subst z; simp [Nat.mod_one]
      · obtain ⟨j, rfl⟩ : ∃ j, t = j + 1 := ⟨t - 1, by omega⟩
        rw [if_neg (by omega), Nat.add_sub_cancel, Bool.false_or]
        have h1 : c % 10 ^ (j + 1) = 0 := h
        have e1 : c / 10 ^ j % 10 = c % 10 ^ (j + 1) / 10 ^ j := by rw [Nat.pow_succ, Nat.mod_mul_right_div_self]
        have e2 : c % 10 ^ j = c % 10 ^ (j + 1) % 10 ^ j := by rw [Nat.pow_succ, Nat.mod_mul_right_mod]
        rw [e1, e2, h1]
        simp
    rw [d.1, d.2]
    unfold goUp
    simp
  rw [u, e.2]
  simp

set_option linter.unusedVariables false in
set_option maxRecDepth 100000 in
set_option maxHeartbeats 4000000 in
theorem cut_mid (m : Nat) (na : Bool) (c : Nat) (x : Int) (n : Nat) (more b : Bool) (C : Nat) (hn : n ≤ 1000) (hx : -1000000000000 ≤ x ∧ x ≤ 1000000000000) (g L cap : Nat) (_lL : L ≤ 1000) (lc : L ≤ cap) (lm : cap ≤ 9223372036854775807) (ne : n ≠ cap) (le : n ≤ L) (w : World) (r : Row w (.slice (some ⟨g, 0, none⟩) L cap) (Dg.dg c))
    (TD0 : ∀ W, Row W (.slice (some ⟨g, 0, none⟩) L cap) (Dg.dg c) → Calls Tryd.prog 50 #[.slice (some ⟨g, n, none⟩) (L - n) (cap - n)] W (RetRow (Dg.dg (c / 10 ^ n)) W))
    (TT0 : ∀ W, Row W (.slice (some ⟨g, 0, none⟩) L cap) (Dg.dg c) → Calls Tryd.prog 50 #[.slice (some ⟨g, 0, none⟩) n cap] W (RetRow (Dg.dg (c % 10 ^ n)) W))
    (UP0 : ∀ vq vr W, Row W vq (Dg.dg (c / 10 ^ n)) → Row W vr (Dg.dg (c % 10 ^ n)) → Calls Tryd.prog 51 #[.int .i64 (m : Int), .bool na, vq, vr, .int .i64 (n : Int), .bool more] W (RetB b W))
    (AD0 : ∀ v1 v2 W, Row W v1 (Dg.dg (c / 10 ^ n)) → Row W v2 (Dg.dg 1) → Calls Tryd.prog 52 #[v1, v2] W (RetRow (Dg.dg (c / 10 ^ n + 1)) W))
    (HB' : c / 10 ^ n + (if b = true then 1 else 0) = C) :
    Calls Tryd.prog 16 #[Fv na (.slice (some ⟨g, 0, none⟩) L cap) x, .bool more, .int .i64 (n : Int), .int .i64 (m : Int)] w (RetF (fun n' v' x' W => n' = na ∧ x' = x + (n : Int) ∧ Row W v' (Dg.dg C)) w) := by
  have f1 : wrap64 (x + (n : Int)) = x + (n : Int) := by unfold wrap64; omega
  have f2 : IntKind.i64.wrap (x + (n : Int)) = x + (n : Int) := by rw [IntKind.wrap_i64]; omega
  have t2 : decide ((L : Int) < (n : Int)) = false := decide_eq_false (by omega)
  have t3 : decide (L < n) = false := decide_eq_false (by omega)
  have R := Lib.hid r
  have TD := Lib.hid TD0
  have TT := Lib.hid TT0
  have UP := Lib.hid UP0
  have AD := Lib.hid AD0
  clear r TD0 TT0 UP0 AD0 hx hn
  go_enter Tryd.func16, Tryd.ntmps16
  go_upto_region 1 with fail
  have B := Lib.hid (ballD1 (ballD1 (Below.refl w.heap.size w) (.cells #[.bool na, .slice (some ⟨g, 0, none⟩) L cap, .int .i64 x] 36)) (.cells #[.bool false, .slice none 0 0, .int .i64 0] 36))
  have A0 := Lib.hid (show HoldsF ((w.alloc (.cells #[.bool na, .slice (some ⟨g, 0, none⟩) L cap, .int .i64 x] 36)).alloc (.cells #[.bool false, .slice none 0 0, .int .i64 0] 36)) w.heap.size na (.slice (some ⟨g, 0, none⟩) L cap) x from by simp [HoldsF, go_sem])
  have A1 := Lib.hid (show HoldsF ((w.alloc (.cells #[.bool na, .slice (some ⟨g, 0, none⟩) L cap, .int .i64 x] 36)).alloc (.cells #[.bool false, .slice none 0 0, .int .i64 0] 36)) (w.heap.size + 1) false (.slice none 0 0) 0 from by simp [HoldsF, go_sem])
  have A2 := Lib.hid (show ((w.alloc (.cells #[.bool na, .slice (some ⟨g, 0, none⟩) L cap, .int .i64 x] 36)).alloc (.cells #[.bool false, .slice none 0 0, .int .i64 0] 36)).heap[w.heap.size + 1]? = some (.cells #[.bool false, .slice none 0 0, .int .i64 0] 36 (0, 0)) from heap_new2 _ _ _)
  replace R := Lib.hid ((R.out.alloc' (.cells #[.bool na, .slice (some ⟨g, 0, none⟩) L cap, .int .i64 x] 36)).alloc' (.cells #[.bool false, .slice none 0 0, .int .i64 0] 36))
  change Code.wp _ _ _ _ ((w.alloc (.cells #[.bool na, .slice (some ⟨g, 0, none⟩) L cap, .int .i64 x] 36)).alloc (.cells #[.bool false, .slice none 0 0, .int .i64 0] 36))
  generalize ((w.alloc (.cells #[.bool na, .slice (some ⟨g, 0, none⟩) L cap, .int .i64 x] 36)).alloc (.cells #[.bool false, .slice none 0 0, .int .i64 0] 36)) = V at *
  obtain ⟨⟨a1, a2, a3⟩, -, a9⟩ := A0.out
  go_wp2_with fail
  refine (TD.out _ R.out).mono ?_
  rintro e w1 ⟨vq, rfl, RQ, hb⟩
  replace A2 := Lib.hid ((hb.block (w.heap.size + 1) A1.out.2.2).trans A2.out)
  replace A0 := Lib.hid (A0.out.below hb)
  replace A1 := Lib.hid (A1.out.below hb)
  replace B := Lib.hid (bstep B.out hb)
  replace R := Lib.hid (R.out.below hb)
  have HQ := Lib.hid (RQ)
  clear RQ TD hb a1 a2 a3 a9
  obtain ⟨⟨a1, a2, a3⟩, -, a9⟩ := A0.out
  go_wp2_with fail
  refine (TT.out _ R.out).mono ?_
  rintro e w2 ⟨vr, rfl, RR, hb⟩
  replace A2 := Lib.hid ((hb.block (w.heap.size + 1) A1.out.2.2).trans A2.out)
  replace A0 := Lib.hid (A0.out.below hb)
  replace A1 := Lib.hid (A1.out.below hb)
  replace B := Lib.hid (bstep B.out hb)
  replace HQ := Lib.hid (HQ.out.below hb)
  have HR := Lib.hid (RR)
  clear RR TT R hb a1 a2 a3 a9
  obtain ⟨⟨a1, a2, a3⟩, -, a9⟩ := A0.out
  obtain ⟨QA, QC, rfl⟩ := slice_of HQ.out
  obtain ⟨RA, RC, rfl⟩ := slice_of HR.out
  generalize (Dg.dg (c % 10 ^ n)).length = LR at *
  generalize hLQ : (Dg.dg (c / 10 ^ n)).length = LQ at *
  go_wp2_with fail
  refine (UP.out _ _ _ HQ.out HR.out).mono ?_
  rintro e w3 ⟨rfl, hb⟩
  replace A2 := Lib.hid ((hb.block (w.heap.size + 1) A1.out.2.2).trans A2.out)
  replace A0 := Lib.hid (A0.out.below hb)
  replace A1 := Lib.hid (A1.out.below hb)
  replace B := Lib.hid (bstep B.out hb)
  replace HQ := Lib.hid (HQ.out.below hb)
  clear HR UP hb a1 a2 a3 a9
  obtain ⟨⟨a1, a2, a3⟩, -, a9⟩ := A0.out
  cases b
  · rw [if_neg (by decide), Nat.add_zero] at HB'
    have HB := Lib.hid HB'
    clear HB'
    obtain ⟨⟨b1, b2, b3⟩, ⟨b4, b5, b6⟩, b9⟩ := A1.out
    go_wp2
    refine bodyPost_ret (v := Fv na (.slice QA LQ QC) (x + (n : Int))) (by simp [results, Tryd.results16, go_sem, *]) rfl ⟨na, _, _, ⟨rfl, rfl, ?_⟩, rfl, Below.set1' (Below.set1' (Below.set1' B.out _ _ (by omega) _) _ _ (by omega) _) _ _ (by omega) _⟩
    rw [← HB.out]
    exact Row.set3 HQ.out (row_apart HQ.out A2.out (by decide)) _ _ _
  · rw [if_pos rfl] at HB'
    have HB := Lib.hid HB'
    clear HB'
    go_wp2_with fail
    have N1 := Lib.hid (show Row (w3.alloc (.cells #[.int .i64 1] 3)) (.slice (some ⟨w3.heap.size, 0, none⟩) 1 1) (Dg.dg 1) by rw [dg_digit (by decide) (by decide)]; exact row_new w3 1)
    replace HQ := Lib.hid (HQ.out.alloc' (.cells #[.int .i64 1] 3))
    replace A2 := Lib.hid ((((Below.refl w3.heap.size w3).alloc (Nat.le_refl _) (.cells #[.int .i64 1] 3)).block (w.heap.size + 1) A1.out.2.2).trans A2.out)
    replace A0 := Lib.hid (A0.out.alloc (.cells #[.int .i64 1] 3))
    replace A1 := Lib.hid (A1.out.alloc (.cells #[.int .i64 1] 3))
    replace B := Lib.hid (ballD1 B.out (.cells #[.int .i64 1] 3))
    refine (AD.out _ _ _ HQ.out N1.out).mono ?_
    rintro e w4 ⟨vs, rfl, RS, hb⟩
    replace A2 := Lib.hid ((hb.block (w.heap.size + 1) A1.out.2.2).trans A2.out)
    replace A0 := Lib.hid (A0.out.below hb)
    replace A1 := Lib.hid (A1.out.below hb)
    replace B := Lib.hid (bstep B.out hb)
    have HS := Lib.hid (RS)
    clear RS N1 HQ AD hb a1 a2 a3 a9
    obtain ⟨⟨a1, a2, a3⟩, -, a9⟩ := A0.out
    obtain ⟨SA, SC, rfl⟩ := slice_of HS.out
    generalize (Dg.dg (c / 10 ^ n + 1)).length = LS at *
    obtain ⟨⟨b1, b2, b3⟩, ⟨b4, b5, b6⟩, b9⟩ := A1.out
    go_wp2
    refine bodyPost_ret (v := Fv na (.slice SA LS SC) (x + (n : Int))) (by simp [results, Tryd.results16, go_sem, *]) rfl ⟨na, _, _, ⟨rfl, rfl, ?_⟩, rfl, Below.set1' (Below.set1' (Below.set1' B.out _ _ (by omega) _) _ _ (by omega) _) _ _ (by omega) _⟩
    rw [← HB.out]
    exact Row.set3 HS.out (row_apart HS.out A2.out (by decide)) _ _ _

set_option linter.unusedVariables false in
set_option maxRecDepth 100000 in
set_option maxHeartbeats 4000000 in
theorem cut_full (m : Nat) (na : Bool) (c : Nat) (x : Int) (n : Nat) (more b : Bool) (C : Nat) (hn : n ≤ 1000) (hx : -1000000000000 ≤ x ∧ x ≤ 1000000000000) (g : Nat) (w : World) (r : Row w (.slice (some ⟨g, 0, none⟩) n n) (Dg.dg c))
    (TD0 : ∀ W, Row W (.slice (some ⟨g, 0, none⟩) n n) (Dg.dg c) → Calls Tryd.prog 50 #[.slice (some ⟨g, 0, none⟩) 0 0] W (RetRow (Dg.dg (c / 10 ^ n)) W))
    (TT0 : ∀ W, Row W (.slice (some ⟨g, 0, none⟩) n n) (Dg.dg c) → Calls Tryd.prog 50 #[.slice (some ⟨g, 0, none⟩) n n] W (RetRow (Dg.dg (c % 10 ^ n)) W))
    (UP0 : ∀ vq vr W, Row W vq (Dg.dg (c / 10 ^ n)) → Row W vr (Dg.dg (c % 10 ^ n)) → Calls Tryd.prog 51 #[.int .i64 (m : Int), .bool na, vq, vr, .int .i64 (n : Int), .bool more] W (RetB b W))
    (AD0 : ∀ v1 v2 W, Row W v1 (Dg.dg (c / 10 ^ n)) → Row W v2 (Dg.dg 1) → Calls Tryd.prog 52 #[v1, v2] W (RetRow (Dg.dg (c / 10 ^ n + 1)) W))
    (HB' : c / 10 ^ n + (if b = true then 1 else 0) = C) :
    Calls Tryd.prog 16 #[Fv na (.slice (some ⟨g, 0, none⟩) n n) x, .bool more, .int .i64 (n : Int), .int .i64 (m : Int)] w (RetF (fun n' v' x' W => n' = na ∧ x' = x + (n : Int) ∧ Row W v' (Dg.dg C)) w) := by
  have f1 : wrap64 (x + (n : Int)) = x + (n : Int) := by unfold wrap64; omega
  have f2 : IntKind.i64.wrap (x + (n : Int)) = x + (n : Int) := by rw [IntKind.wrap_i64]; omega
  have R := Lib.hid r
  have TD := Lib.hid TD0
  have TT := Lib.hid TT0
  have UP := Lib.hid UP0
  have AD := Lib.hid AD0
  clear r TD0 TT0 UP0 AD0 hx hn
  go_enter Tryd.func16, Tryd.ntmps16
  go_upto_region 1 with fail
  have B := Lib.hid (ballD1 (ballD1 (Below.refl w.heap.size w) (.cells #[.bool na, .slice (some ⟨g, 0, none⟩) n n, .int .i64 x] 36)) (.cells #[.bool false, .slice none 0 0, .int .i64 0] 36))
  have A0 := Lib.hid (show HoldsF ((w.alloc (.cells #[.bool na, .slice (some ⟨g, 0, none⟩) n n, .int .i64 x] 36)).alloc (.cells #[.bool false, .slice none 0 0, .int .i64 0] 36)) w.heap.size na (.slice (some ⟨g, 0, none⟩) n n) x from by simp [HoldsF, go_sem])
  have A1 := Lib.hid (show HoldsF ((w.alloc (.cells #[.bool na, .slice (some ⟨g, 0, none⟩) n n, .int .i64 x] 36)).alloc (.cells #[.bool false, .slice none 0 0, .int .i64 0] 36)) (w.heap.size + 1) false (.slice none 0 0) 0 from by simp [HoldsF, go_sem])
  have A2 := Lib.hid (show ((w.alloc (.cells #[.bool na, .slice (some ⟨g, 0, none⟩) n n, .int .i64 x] 36)).alloc (.cells #[.bool false, .slice none 0 0, .int .i64 0] 36)).heap[w.heap.size + 1]? = some (.cells #[.bool false, .slice none 0 0, .int .i64 0] 36 (0, 0)) from heap_new2 _ _ _)
  replace R := Lib.hid ((R.out.alloc' (.cells #[.bool na, .slice (some ⟨g, 0, none⟩) n n, .int .i64 x] 36)).alloc' (.cells #[.bool false, .slice none 0 0, .int .i64 0] 36))
  change Code.wp _ _ _ _ ((w.alloc (.cells #[.bool na, .slice (some ⟨g, 0, none⟩) n n, .int .i64 x] 36)).alloc (.cells #[.bool false, .slice none 0 0, .int .i64 0] 36))
  generalize ((w.alloc (.cells #[.bool na, .slice (some ⟨g, 0, none⟩) n n, .int .i64 x] 36)).alloc (.cells #[.bool false, .slice none 0 0, .int .i64 0] 36)) = V at *
  obtain ⟨⟨a1, a2, a3⟩, -, a9⟩ := A0.out
  go_wp2_with fail
  refine (TD.out _ R.out).mono ?_
  rintro e w1 ⟨vq, rfl, RQ, hb⟩
  replace A2 := Lib.hid ((hb.block (w.heap.size + 1) A1.out.2.2).trans A2.out)
  replace A0 := Lib.hid (A0.out.below hb)
  replace A1 := Lib.hid (A1.out.below hb)
  replace B := Lib.hid (bstep B.out hb)
  replace R := Lib.hid (R.out.below hb)
  have HQ := Lib.hid (RQ)
  clear RQ TD hb a1 a2 a3 a9
  obtain ⟨⟨a1, a2, a3⟩, -, a9⟩ := A0.out
  go_wp2_with fail
  refine (TT.out _ R.out).mono ?_
  rintro e w2 ⟨vr, rfl, RR, hb⟩
  replace A2 := Lib.hid ((hb.block (w.heap.size + 1) A1.out.2.2).trans A2.out)
  replace A0 := Lib.hid (A0.out.below hb)
  replace A1 := Lib.hid (A1.out.below hb)
  replace B := Lib.hid (bstep B.out hb)
  replace HQ := Lib.hid (HQ.out.below hb)
  have HR := Lib.hid (RR)
  clear RR TT R hb a1 a2 a3 a9
  obtain ⟨⟨a1, a2, a3⟩, -, a9⟩ := A0.out
  obtain ⟨QA, QC, rfl⟩ := slice_of HQ.out
  obtain ⟨RA, RC, rfl⟩ := slice_of HR.out
  generalize (Dg.dg (c % 10 ^ n)).length = LR at *
  generalize hLQ : (Dg.dg (c / 10 ^ n)).length = LQ at *
  go_wp2_with fail
  refine (UP.out _ _ _ HQ.out HR.out).mono ?_
  rintro e w3 ⟨rfl, hb⟩
  replace A2 := Lib.hid ((hb.block (w.heap.size + 1) A1.out.2.2).trans A2.out)
  replace A0 := Lib.hid (A0.out.below hb)
  replace A1 := Lib.hid (A1.out.below hb)
  replace B := Lib.hid (bstep B.out hb)
  replace HQ := Lib.hid (HQ.out.below hb)
  clear HR UP hb a1 a2 a3 a9
  obtain ⟨⟨a1, a2, a3⟩, -, a9⟩ := A0.out
  cases b
  · rw [if_neg (by decide), Nat.add_zero] at HB'
    have HB := Lib.hid HB'
    clear HB'
    obtain ⟨⟨b1, b2, b3⟩, ⟨b4, b5, b6⟩, b9⟩ := A1.out
    go_wp2
    refine bodyPost_ret (v := Fv na (.slice QA LQ QC) (x + (n : Int))) (by simp [results, Tryd.results16, go_sem, *]) rfl ⟨na, _, _, ⟨rfl, rfl, ?_⟩, rfl, Below.set1' (Below.set1' (Below.set1' B.out _ _ (by omega) _) _ _ (by omega) _) _ _ (by omega) _⟩
    rw [← HB.out]
    exact Row.set3 HQ.out (row_apart HQ.out A2.out (by decide)) _ _ _
  · rw [if_pos rfl] at HB'
    have HB := Lib.hid HB'
    clear HB'
    go_wp2_with fail
    have N1 := Lib.hid (show Row (w3.alloc (.cells #[.int .i64 1] 3)) (.slice (some ⟨w3.heap.size, 0, none⟩) 1 1) (Dg.dg 1) by rw [dg_digit (by decide) (by decide)]; exact row_new w3 1)
    replace HQ := Lib.hid (HQ.out.alloc' (.cells #[.int .i64 1] 3))
    replace A2 := Lib.hid ((((Below.refl w3.heap.size w3).alloc (Nat.le_refl _) (.cells #[.int .i64 1] 3)).block (w.heap.size + 1) A1.out.2.2).trans A2.out)
    replace A0 := Lib.hid (A0.out.alloc (.cells #[.int .i64 1] 3))
    replace A1 := Lib.hid (A1.out.alloc (.cells #[.int .i64 1] 3))
    replace B := Lib.hid (ballD1 B.out (.cells #[.int .i64 1] 3))
    refine (AD.out _ _ _ HQ.out N1.out).mono ?_
    rintro e w4 ⟨vs, rfl, RS, hb⟩
    replace A2 := Lib.hid ((hb.block (w.heap.size + 1) A1.out.2.2).trans A2.out)
    replace A0 := Lib.hid (A0.out.below hb)
    replace A1 := Lib.hid (A1.out.below hb)
    replace B := Lib.hid (bstep B.out hb)
    have HS := Lib.hid (RS)
    clear RS N1 HQ AD hb a1 a2 a3 a9
    obtain ⟨⟨a1, a2, a3⟩, -, a9⟩ := A0.out
    obtain ⟨SA, SC, rfl⟩ := slice_of HS.out
    generalize (Dg.dg (c / 10 ^ n + 1)).length = LS at *
    obtain ⟨⟨b1, b2, b3⟩, ⟨b4, b5, b6⟩, b9⟩ := A1.out
    go_wp2
    refine bodyPost_ret (v := Fv na (.slice SA LS SC) (x + (n : Int))) (by simp [results, Tryd.results16, go_sem, *]) rfl ⟨na, _, _, ⟨rfl, rfl, ?_⟩, rfl, Below.set1' (Below.set1' (Below.set1' B.out _ _ (by omega) _) _ _ (by omega) _) _ _ (by omega) _⟩
    rw [← HB.out]
    exact Row.set3 HS.out (row_apart HS.out A2.out (by decide)) _ _ _

set_option linter.unusedVariables false in
set_option maxRecDepth 100000 in
set_option maxHeartbeats 4000000 in
theorem cut_past (m : Nat) (na : Bool) (c : Nat) (x : Int) (n : Nat) (more b : Bool) (C : Nat) (hn : n ≤ 1000) (hx : -1000000000000 ≤ x ∧ x ≤ 1000000000000) (g L cap : Nat) (_lL : L ≤ 1000) (lc : L ≤ cap) (lm : cap ≤ 9223372036854775807) (ne : L ≠ cap) (le : L < n) (w : World) (r : Row w (.slice (some ⟨g, 0, none⟩) L cap) (Dg.dg c))
    (TD0 : ∀ W, Row W (.slice (some ⟨g, 0, none⟩) L cap) (Dg.dg c) → Calls Tryd.prog 50 #[.slice (some ⟨g, L, none⟩) 0 (cap - L)] W (RetRow (Dg.dg (c / 10 ^ n)) W))
    (TT0 : ∀ W, Row W (.slice (some ⟨g, 0, none⟩) L cap) (Dg.dg c) → Calls Tryd.prog 50 #[.slice (some ⟨g, 0, none⟩) L cap] W (RetRow (Dg.dg (c % 10 ^ n)) W))
    (UP0 : ∀ vq vr W, Row W vq (Dg.dg (c / 10 ^ n)) → Row W vr (Dg.dg (c % 10 ^ n)) → Calls Tryd.prog 51 #[.int .i64 (m : Int), .bool na, vq, vr, .int .i64 (n : Int), .bool more] W (RetB b W))
    (AD0 : ∀ v1 v2 W, Row W v1 (Dg.dg (c / 10 ^ n)) → Row W v2 (Dg.dg 1) → Calls Tryd.prog 52 #[v1, v2] W (RetRow (Dg.dg (c / 10 ^ n + 1)) W))
    (HB' : c / 10 ^ n + (if b = true then 1 else 0) = C) :
    Calls Tryd.prog 16 #[Fv na (.slice (some ⟨g, 0, none⟩) L cap) x, .bool more, .int .i64 (n : Int), .int .i64 (m : Int)] w (RetF (fun n' v' x' W => n' = na ∧ x' = x + (n : Int) ∧ Row W v' (Dg.dg C)) w) := by
  have f1 : wrap64 (x + (n : Int)) = x + (n : Int) := by unfold wrap64; omega
  have f2 : IntKind.i64.wrap (x + (n : Int)) = x + (n : Int) := by rw [IntKind.wrap_i64]; omega
  have t2 : decide ((L : Int) < (n : Int)) = true := decide_eq_true (by omega)
  have t3 : decide (L < n) = true := decide_eq_true (by omega)
  have R := Lib.hid r
  have TD := Lib.hid TD0
  have TT := Lib.hid TT0
  have UP := Lib.hid UP0
  have AD := Lib.hid AD0
  clear r TD0 TT0 UP0 AD0 hx hn
  go_enter Tryd.func16, Tryd.ntmps16
  go_upto_region 1 with fail
  have B := Lib.hid (ballD1 (ballD1 (Below.refl w.heap.size w) (.cells #[.bool na, .slice (some ⟨g, 0, none⟩) L cap, .int .i64 x] 36)) (.cells #[.bool false, .slice none 0 0, .int .i64 0] 36))
  have A0 := Lib.hid (show HoldsF ((w.alloc (.cells #[.bool na, .slice (some ⟨g, 0, none⟩) L cap, .int .i64 x] 36)).alloc (.cells #[.bool false, .slice none 0 0, .int .i64 0] 36)) w.heap.size na (.slice (some ⟨g, 0, none⟩) L cap) x from by simp [HoldsF, go_sem])
  have A1 := Lib.hid (show HoldsF ((w.alloc (.cells #[.bool na, .slice (some ⟨g, 0, none⟩) L cap, .int .i64 x] 36)).alloc (.cells #[.bool false, .slice none 0 0, .int .i64 0] 36)) (w.heap.size + 1) false (.slice none 0 0) 0 from by simp [HoldsF, go_sem])
  have A2 := Lib.hid (show ((w.alloc (.cells #[.bool na, .slice (some ⟨g, 0, none⟩) L cap, .int .i64 x] 36)).alloc (.cells #[.bool false, .slice none 0 0, .int .i64 0] 36)).heap[w.heap.size + 1]? = some (.cells #[.bool false, .slice none 0 0, .int .i64 0] 36 (0, 0)) from heap_new2 _ _ _)
  replace R := Lib.hid ((R.out.alloc' (.cells #[.bool na, .slice (some ⟨g, 0, none⟩) L cap, .int .i64 x] 36)).alloc' (.cells #[.bool false, .slice none 0 0, .int .i64 0] 36))
  change Code.wp _ _ _ _ ((w.alloc (.cells #[.bool na, .slice (some ⟨g, 0, none⟩) L cap, .int .i64 x] 36)).alloc (.cells #[.bool false, .slice none 0 0, .int .i64 0] 36))
  generalize ((w.alloc (.cells #[.bool na, .slice (some ⟨g, 0, none⟩) L cap, .int .i64 x] 36)).alloc (.cells #[.bool false, .slice none 0 0, .int .i64 0] 36)) = V at *
  obtain ⟨⟨a1, a2, a3⟩, -, a9⟩ := A0.out
  go_wp2_with fail
  refine (TD.out _ R.out).mono ?_
  rintro e w1 ⟨vq, rfl, RQ, hb⟩
  replace A2 := Lib.hid ((hb.block (w.heap.size + 1) A1.out.2.2).trans A2.out)
  replace A0 := Lib.hid (A0.out.below hb)
  replace A1 := Lib.hid (A1.out.below hb)
  replace B := Lib.hid (bstep B.out hb)
  replace R := Lib.hid (R.out.below hb)
  have HQ := Lib.hid (RQ)
  clear RQ TD hb a1 a2 a3 a9
  obtain ⟨⟨a1, a2, a3⟩, -, a9⟩ := A0.out
  go_wp2_with fail
  refine (TT.out _ R.out).mono ?_
  rintro e w2 ⟨vr, rfl, RR, hb⟩
  replace A2 := Lib.hid ((hb.block (w.heap.size + 1) A1.out.2.2).trans A2.out)
  replace A0 := Lib.hid (A0.out.below hb)
  replace A1 := Lib.hid (A1.out.below hb)
  replace B := Lib.hid (bstep B.out hb)
  replace HQ := Lib.hid (HQ.out.below hb)
  have HR := Lib.hid (RR)
  clear RR TT R hb a1 a2 a3 a9
  obtain ⟨⟨a1, a2, a3⟩, -, a9⟩ := A0.out
  obtain ⟨QA, QC, rfl⟩ := slice_of HQ.out
  obtain ⟨RA, RC, rfl⟩ := slice_of HR.out
  generalize (Dg.dg (c % 10 ^ n)).length = LR at *
  generalize hLQ : (Dg.dg (c / 10 ^ n)).length = LQ at *
  go_wp2_with fail
  refine (UP.out _ _ _ HQ.out HR.out).mono ?_
  rintro e w3 ⟨rfl, hb⟩
  replace A2 := Lib.hid ((hb.block (w.heap.size + 1) A1.out.2.2).trans A2.out)
  replace A0 := Lib.hid (A0.out.below hb)
  replace A1 := Lib.hid (A1.out.below hb)
  replace B := Lib.hid (bstep B.out hb)
  replace HQ := Lib.hid (HQ.out.below hb)
  clear HR UP hb a1 a2 a3 a9
  obtain ⟨⟨a1, a2, a3⟩, -, a9⟩ := A0.out
  cases b
  · rw [if_neg (by decide), Nat.add_zero] at HB'
    have HB := Lib.hid HB'
    clear HB'
    obtain ⟨⟨b1, b2, b3⟩, ⟨b4, b5, b6⟩, b9⟩ := A1.out
    go_wp2
    refine bodyPost_ret (v := Fv na (.slice QA LQ QC) (x + (n : Int))) (by simp [results, Tryd.results16, go_sem, *]) rfl ⟨na, _, _, ⟨rfl, rfl, ?_⟩, rfl, Below.set1' (Below.set1' (Below.set1' B.out _ _ (by omega) _) _ _ (by omega) _) _ _ (by omega) _⟩
    rw [← HB.out]
    exact Row.set3 HQ.out (row_apart HQ.out A2.out (by decide)) _ _ _
  · rw [if_pos rfl] at HB'
    have HB := Lib.hid HB'
    clear HB'
    go_wp2_with fail
    have N1 := Lib.hid (show Row (w3.alloc (.cells #[.int .i64 1] 3)) (.slice (some ⟨w3.heap.size, 0, none⟩) 1 1) (Dg.dg 1) by rw [dg_digit (by decide) (by decide)]; exact row_new w3 1)
    replace HQ := Lib.hid (HQ.out.alloc' (.cells #[.int .i64 1] 3))
    replace A2 := Lib.hid ((((Below.refl w3.heap.size w3).alloc (Nat.le_refl _) (.cells #[.int .i64 1] 3)).block (w.heap.size + 1) A1.out.2.2).trans A2.out)
    replace A0 := Lib.hid (A0.out.alloc (.cells #[.int .i64 1] 3))
    replace A1 := Lib.hid (A1.out.alloc (.cells #[.int .i64 1] 3))
    replace B := Lib.hid (ballD1 B.out (.cells #[.int .i64 1] 3))
    refine (AD.out _ _ _ HQ.out N1.out).mono ?_
    rintro e w4 ⟨vs, rfl, RS, hb⟩
    replace A2 := Lib.hid ((hb.block (w.heap.size + 1) A1.out.2.2).trans A2.out)
    replace A0 := Lib.hid (A0.out.below hb)
    replace A1 := Lib.hid (A1.out.below hb)
    replace B := Lib.hid (bstep B.out hb)
    have HS := Lib.hid (RS)
    clear RS N1 HQ AD hb a1 a2 a3 a9
    obtain ⟨⟨a1, a2, a3⟩, -, a9⟩ := A0.out
    obtain ⟨SA, SC, rfl⟩ := slice_of HS.out
    generalize (Dg.dg (c / 10 ^ n + 1)).length = LS at *
    obtain ⟨⟨b1, b2, b3⟩, ⟨b4, b5, b6⟩, b9⟩ := A1.out
    go_wp2
    refine bodyPost_ret (v := Fv na (.slice SA LS SC) (x + (n : Int))) (by simp [results, Tryd.results16, go_sem, *]) rfl ⟨na, _, _, ⟨rfl, rfl, ?_⟩, rfl, Below.set1' (Below.set1' (Below.set1' B.out _ _ (by omega) _) _ _ (by omega) _) _ _ (by omega) _⟩
    rw [← HB.out]
    exact Row.set3 HS.out (row_apart HS.out A2.out (by decide)) _ _ _

set_option linter.unusedVariables false in
set_option maxRecDepth 100000 in
set_option maxHeartbeats 4000000 in
theorem cut_pastfull (m : Nat) (na : Bool) (c : Nat) (x : Int) (n : Nat) (more b : Bool) (C : Nat) (hn : n ≤ 1000) (hx : -1000000000000 ≤ x ∧ x ≤ 1000000000000) (g L : Nat) (_lL : L ≤ 1000) (le : L < n) (w : World) (r : Row w (.slice (some ⟨g, 0, none⟩) L L) (Dg.dg c))
    (TD0 : ∀ W, Row W (.slice (some ⟨g, 0, none⟩) L L) (Dg.dg c) → Calls Tryd.prog 50 #[.slice (some ⟨g, 0, none⟩) 0 0] W (RetRow (Dg.dg (c / 10 ^ n)) W))
    (TT0 : ∀ W, Row W (.slice (some ⟨g, 0, none⟩) L L) (Dg.dg c) → Calls Tryd.prog 50 #[.slice (some ⟨g, 0, none⟩) L L] W (RetRow (Dg.dg (c % 10 ^ n)) W))
    (UP0 : ∀ vq vr W, Row W vq (Dg.dg (c / 10 ^ n)) → Row W vr (Dg.dg (c % 10 ^ n)) → Calls Tryd.prog 51 #[.int .i64 (m : Int), .bool na, vq, vr, .int .i64 (n : Int), .bool more] W (RetB b W))
    (AD0 : ∀ v1 v2 W, Row W v1 (Dg.dg (c / 10 ^ n)) → Row W v2 (Dg.dg 1) → Calls Tryd.prog 52 #[v1, v2] W (RetRow (Dg.dg (c / 10 ^ n + 1)) W))
    (HB' : c / 10 ^ n + (if b = true then 1 else 0) = C) :
    Calls Tryd.prog 16 #[Fv na (.slice (some ⟨g, 0, none⟩) L L) x, .bool more, .int .i64 (n : Int), .int .i64 (m : Int)] w (RetF (fun n' v' x' W => n' = na ∧ x' = x + (n : Int) ∧ Row W v' (Dg.dg C)) w) := by
  have f1 : wrap64 (x + (n : Int)) = x + (n : Int) := by unfold wrap64; omega
  have f2 : IntKind.i64.wrap (x + (n : Int)) = x + (n : Int) := by rw [IntKind.wrap_i64]; omega
  have t2 : decide ((L : Int) < (n : Int)) = true := decide_eq_true (by omega)
  have t3 : decide (L < n) = true := decide_eq_true (by omega)
  have R := Lib.hid r
  have TD := Lib.hid TD0
  have TT := Lib.hid TT0
  have UP := Lib.hid UP0
  have AD := Lib.hid AD0
  clear r TD0 TT0 UP0 AD0 hx hn
  go_enter Tryd.func16, Tryd.ntmps16
  go_upto_region 1 with fail
  have B := Lib.hid (ballD1 (ballD1 (Below.refl w.heap.size w) (.cells #[.bool na, .slice (some ⟨g, 0, none⟩) L L, .int .i64 x] 36)) (.cells #[.bool false, .slice none 0 0, .int .i64 0] 36))
  have A0 := Lib.hid (show HoldsF ((w.alloc (.cells #[.bool na, .slice (some ⟨g, 0, none⟩) L L, .int .i64 x] 36)).alloc (.cells #[.bool false, .slice none 0 0, .int .i64 0] 36)) w.heap.size na (.slice (some ⟨g, 0, none⟩) L L) x from by simp [HoldsF, go_sem])
  have A1 := Lib.hid (show HoldsF ((w.alloc (.cells #[.bool na, .slice (some ⟨g, 0, none⟩) L L, .int .i64 x] 36)).alloc (.cells #[.bool false, .slice none 0 0, .int .i64 0] 36)) (w.heap.size + 1) false (.slice none 0 0) 0 from by simp [HoldsF, go_sem])
  have A2 := Lib.hid (show ((w.alloc (.cells #[.bool na, .slice (some ⟨g, 0, none⟩) L L, .int .i64 x] 36)).alloc (.cells #[.bool false, .slice none 0 0, .int .i64 0] 36)).heap[w.heap.size + 1]? = some (.cells #[.bool false, .slice none 0 0, .int .i64 0] 36 (0, 0)) from heap_new2 _ _ _)
  replace R := Lib.hid ((R.out.alloc' (.cells #[.bool na, .slice (some ⟨g, 0, none⟩) L L, .int .i64 x] 36)).alloc' (.cells #[.bool false, .slice none 0 0, .int .i64 0] 36))
  change Code.wp _ _ _ _ ((w.alloc (.cells #[.bool na, .slice (some ⟨g, 0, none⟩) L L, .int .i64 x] 36)).alloc (.cells #[.bool false, .slice none 0 0, .int .i64 0] 36))
  generalize ((w.alloc (.cells #[.bool na, .slice (some ⟨g, 0, none⟩) L L, .int .i64 x] 36)).alloc (.cells #[.bool false, .slice none 0 0, .int .i64 0] 36)) = V at *
  obtain ⟨⟨a1, a2, a3⟩, -, a9⟩ := A0.out
  go_wp2_with fail
  refine (TD.out _ R.out).mono ?_
  rintro e w1 ⟨vq, rfl, RQ, hb⟩
  replace A2 := Lib.hid ((hb.block (w.heap.size + 1) A1.out.2.2).trans A2.out)
  replace A0 := Lib.hid (A0.out.below hb)
  replace A1 := Lib.hid (A1.out.below hb)
  replace B := Lib.hid (bstep B.out hb)
  replace R := Lib.hid (R.out.below hb)
  have HQ := Lib.hid (RQ)
  clear RQ TD hb a1 a2 a3 a9
  obtain ⟨⟨a1, a2, a3⟩, -, a9⟩ := A0.out
  go_wp2_with fail
  refine (TT.out _ R.out).mono ?_
  rintro e w2 ⟨vr, rfl, RR, hb⟩
  replace A2 := Lib.hid ((hb.block (w.heap.size + 1) A1.out.2.2).trans A2.out)
  replace A0 := Lib.hid (A0.out.below hb)
  replace A1 := Lib.hid (A1.out.below hb)
  replace B := Lib.hid (bstep B.out hb)
  replace HQ := Lib.hid (HQ.out.below hb)
  have HR := Lib.hid (RR)
  clear RR TT R hb a1 a2 a3 a9
  obtain ⟨⟨a1, a2, a3⟩, -, a9⟩ := A0.out
  obtain ⟨QA, QC, rfl⟩ := slice_of HQ.out
  obtain ⟨RA, RC, rfl⟩ := slice_of HR.out
  generalize (Dg.dg (c % 10 ^ n)).length = LR at *
  generalize hLQ : (Dg.dg (c / 10 ^ n)).length = LQ at *
  go_wp2_with fail
  refine (UP.out _ _ _ HQ.out HR.out).mono ?_
  rintro e w3 ⟨rfl, hb⟩
  replace A2 := Lib.hid ((hb.block (w.heap.size + 1) A1.out.2.2).trans A2.out)
  replace A0 := Lib.hid (A0.out.below hb)
  replace A1 := Lib.hid (A1.out.below hb)
  replace B := Lib.hid (bstep B.out hb)
  replace HQ := Lib.hid (HQ.out.below hb)
  clear HR UP hb a1 a2 a3 a9
  obtain ⟨⟨a1, a2, a3⟩, -, a9⟩ := A0.out
  cases b
  · rw [if_neg (by decide), Nat.add_zero] at HB'
    have HB := Lib.hid HB'
    clear HB'
    obtain ⟨⟨b1, b2, b3⟩, ⟨b4, b5, b6⟩, b9⟩ := A1.out
    go_wp2
    refine bodyPost_ret (v := Fv na (.slice QA LQ QC) (x + (n : Int))) (by simp [results, Tryd.results16, go_sem, *]) rfl ⟨na, _, _, ⟨rfl, rfl, ?_⟩, rfl, Below.set1' (Below.set1' (Below.set1' B.out _ _ (by omega) _) _ _ (by omega) _) _ _ (by omega) _⟩
    rw [← HB.out]
    exact Row.set3 HQ.out (row_apart HQ.out A2.out (by decide)) _ _ _
  · rw [if_pos rfl] at HB'
    have HB := Lib.hid HB'
    clear HB'
    go_wp2_with fail
    have N1 := Lib.hid (show Row (w3.alloc (.cells #[.int .i64 1] 3)) (.slice (some ⟨w3.heap.size, 0, none⟩) 1 1) (Dg.dg 1) by rw [dg_digit (by decide) (by decide)]; exact row_new w3 1)
    replace HQ := Lib.hid (HQ.out.alloc' (.cells #[.int .i64 1] 3))
    replace A2 := Lib.hid ((((Below.refl w3.heap.size w3).alloc (Nat.le_refl _) (.cells #[.int .i64 1] 3)).block (w.heap.size + 1) A1.out.2.2).trans A2.out)
    replace A0 := Lib.hid (A0.out.alloc (.cells #[.int .i64 1] 3))
    replace A1 := Lib.hid (A1.out.alloc (.cells #[.int .i64 1] 3))
    replace B := Lib.hid (ballD1 B.out (.cells #[.int .i64 1] 3))
    refine (AD.out _ _ _ HQ.out N1.out).mono ?_
    rintro e w4 ⟨vs, rfl, RS, hb⟩
    replace A2 := Lib.hid ((hb.block (w.heap.size + 1) A1.out.2.2).trans A2.out)
    replace A0 := Lib.hid (A0.out.below hb)
    replace A1 := Lib.hid (A1.out.below hb)
    replace B := Lib.hid (bstep B.out hb)
    have HS := Lib.hid (RS)
    clear RS N1 HQ AD hb a1 a2 a3 a9
    obtain ⟨⟨a1, a2, a3⟩, -, a9⟩ := A0.out
    obtain ⟨SA, SC, rfl⟩ := slice_of HS.out
    generalize (Dg.dg (c / 10 ^ n + 1)).length = LS at *
    obtain ⟨⟨b1, b2, b3⟩, ⟨b4, b5, b6⟩, b9⟩ := A1.out
    go_wp2
    refine bodyPost_ret (v := Fv na (.slice SA LS SC) (x + (n : Int))) (by simp [results, Tryd.results16, go_sem, *]) rfl ⟨na, _, _, ⟨rfl, rfl, ?_⟩, rfl, Below.set1' (Below.set1' (Below.set1' B.out _ _ (by omega) _) _ _ (by omega) _) _ _ (by omega) _⟩
    rw [← HB.out]
    exact Row.set3 HS.out (row_apart HS.out A2.out (by decide)) _ _ _

set_option linter.unusedVariables false in
set_option maxRecDepth 100000 in
set_option maxHeartbeats 4000000 in
theorem cut_nil (m : Nat) (na : Bool) (c : Nat) (x : Int) (n : Nat) (more b : Bool) (C : Nat) (hn : n ≤ 1000) (hx : -1000000000000 ≤ x ∧ x ≤ 1000000000000) (n0 : 0 < n) (w : World) (r : Row w (.slice none 0 0) (Dg.dg c))
    (TD0 : ∀ W, Row W (.slice none 0 0) (Dg.dg c) → Calls Tryd.prog 50 #[.slice none 0 0] W (RetRow (Dg.dg (c / 10 ^ n)) W))
    (TT0 : ∀ W, Row W (.slice none 0 0) (Dg.dg c) → Calls Tryd.prog 50 #[.slice none 0 0] W (RetRow (Dg.dg (c % 10 ^ n)) W))
    (UP0 : ∀ vq vr W, Row W vq (Dg.dg (c / 10 ^ n)) → Row W vr (Dg.dg (c % 10 ^ n)) → Calls Tryd.prog 51 #[.int .i64 (m : Int), .bool na, vq, vr, .int .i64 (n : Int), .bool more] W (RetB b W))
    (AD0 : ∀ v1 v2 W, Row W v1 (Dg.dg (c / 10 ^ n)) → Row W v2 (Dg.dg 1) → Calls Tryd.prog 52 #[v1, v2] W (RetRow (Dg.dg (c / 10 ^ n + 1)) W))
    (HB' : c / 10 ^ n + (if b = true then 1 else 0) = C) :
    Calls Tryd.prog 16 #[Fv na (.slice none 0 0) x, .bool more, .int .i64 (n : Int), .int .i64 (m : Int)] w (RetF (fun n' v' x' W => n' = na ∧ x' = x + (n : Int) ∧ Row W v' (Dg.dg C)) w) := by
  have f1 : wrap64 (x + (n : Int)) = x + (n : Int) := by unfold wrap64; omega
  have f2 : IntKind.i64.wrap (x + (n : Int)) = x + (n : Int) := by rw [IntKind.wrap_i64]; omega
  have t2 : decide (0 < (n : Int)) = true := decide_eq_true (by omega)
  have R := Lib.hid r
  have TD := Lib.hid TD0
  have TT := Lib.hid TT0
  have UP := Lib.hid UP0
  have AD := Lib.hid AD0
  clear r TD0 TT0 UP0 AD0 hx hn
  go_enter Tryd.func16, Tryd.ntmps16
  go_upto_region 1 with fail
  have B := Lib.hid (ballD1 (ballD1 (Below.refl w.heap.size w) (.cells #[.bool na, .slice none 0 0, .int .i64 x] 36)) (.cells #[.bool false, .slice none 0 0, .int .i64 0] 36))
  have A0 := Lib.hid (show HoldsF ((w.alloc (.cells #[.bool na, .slice none 0 0, .int .i64 x] 36)).alloc (.cells #[.bool false, .slice none 0 0, .int .i64 0] 36)) w.heap.size na (.slice none 0 0) x from by simp [HoldsF, go_sem])
  have A1 := Lib.hid (show HoldsF ((w.alloc (.cells #[.bool na, .slice none 0 0, .int .i64 x] 36)).alloc (.cells #[.bool false, .slice none 0 0, .int .i64 0] 36)) (w.heap.size + 1) false (.slice none 0 0) 0 from by simp [HoldsF, go_sem])
  have A2 := Lib.hid (show ((w.alloc (.cells #[.bool na, .slice none 0 0, .int .i64 x] 36)).alloc (.cells #[.bool false, .slice none 0 0, .int .i64 0] 36)).heap[w.heap.size + 1]? = some (.cells #[.bool false, .slice none 0 0, .int .i64 0] 36 (0, 0)) from heap_new2 _ _ _)
  replace R := Lib.hid ((R.out.alloc' (.cells #[.bool na, .slice none 0 0, .int .i64 x] 36)).alloc' (.cells #[.bool false, .slice none 0 0, .int .i64 0] 36))
  change Code.wp _ _ _ _ ((w.alloc (.cells #[.bool na, .slice none 0 0, .int .i64 x] 36)).alloc (.cells #[.bool false, .slice none 0 0, .int .i64 0] 36))
  generalize ((w.alloc (.cells #[.bool na, .slice none 0 0, .int .i64 x] 36)).alloc (.cells #[.bool false, .slice none 0 0, .int .i64 0] 36)) = V at *
  obtain ⟨⟨a1, a2, a3⟩, -, a9⟩ := A0.out
  go_wp2_with fail
  refine (TD.out _ R.out).mono ?_
  rintro e w1 ⟨vq, rfl, RQ, hb⟩
  replace A2 := Lib.hid ((hb.block (w.heap.size + 1) A1.out.2.2).trans A2.out)
  replace A0 := Lib.hid (A0.out.below hb)
  replace A1 := Lib.hid (A1.out.below hb)
  replace B := Lib.hid (bstep B.out hb)
  replace R := Lib.hid (R.out.below hb)
  have HQ := Lib.hid (RQ)
  clear RQ TD hb a1 a2 a3 a9
  obtain ⟨⟨a1, a2, a3⟩, -, a9⟩ := A0.out
  go_wp2_with fail
  refine (TT.out _ R.out).mono ?_
  rintro e w2 ⟨vr, rfl, RR, hb⟩
  replace A2 := Lib.hid ((hb.block (w.heap.size + 1) A1.out.2.2).trans A2.out)
  replace A0 := Lib.hid (A0.out.below hb)
  replace A1 := Lib.hid (A1.out.below hb)
  replace B := Lib.hid (bstep B.out hb)
  replace HQ := Lib.hid (HQ.out.below hb)
  have HR := Lib.hid (RR)
  clear RR TT R hb a1 a2 a3 a9
  obtain ⟨⟨a1, a2, a3⟩, -, a9⟩ := A0.out
  obtain ⟨QA, QC, rfl⟩ := slice_of HQ.out
  obtain ⟨RA, RC, rfl⟩ := slice_of HR.out
  generalize (Dg.dg (c % 10 ^ n)).length = LR at *
  generalize hLQ : (Dg.dg (c / 10 ^ n)).length = LQ at *
  go_wp2_with fail
  refine (UP.out _ _ _ HQ.out HR.out).mono ?_
  rintro e w3 ⟨rfl, hb⟩
  replace A2 := Lib.hid ((hb.block (w.heap.size + 1) A1.out.2.2).trans A2.out)
  replace A0 := Lib.hid (A0.out.below hb)
  replace A1 := Lib.hid (A1.out.below hb)
  replace B := Lib.hid (bstep B.out hb)
  replace HQ := Lib.hid (HQ.out.below hb)
  clear HR UP hb a1 a2 a3 a9
  obtain ⟨⟨a1, a2, a3⟩, -, a9⟩ := A0.out
  cases b
  · rw [if_neg (by decide), Nat.add_zero] at HB'
    have HB := Lib.hid HB'
    clear HB'
    obtain ⟨⟨b1, b2, b3⟩, ⟨b4, b5, b6⟩, b9⟩ := A1.out
    go_wp2
    refine bodyPost_ret (v := Fv na (.slice QA LQ QC) (x + (n : Int))) (by simp [results, Tryd.results16, go_sem, *]) rfl ⟨na, _, _, ⟨rfl, rfl, ?_⟩, rfl, Below.set1' (Below.set1' (Below.set1' B.out _ _ (by omega) _) _ _ (by omega) _) _ _ (by omega) _⟩
    rw [← HB.out]
    exact Row.set3 HQ.out (row_apart HQ.out A2.out (by decide)) _ _ _
  · rw [if_pos rfl] at HB'
    have HB := Lib.hid HB'
    clear HB'
    go_wp2_with fail
    have N1 := Lib.hid (show Row (w3.alloc (.cells #[.int .i64 1] 3)) (.slice (some ⟨w3.heap.size, 0, none⟩) 1 1) (Dg.dg 1) by rw [dg_digit (by decide) (by decide)]; exact row_new w3 1)
    replace HQ := Lib.hid (HQ.out.alloc' (.cells #[.int .i64 1] 3))
    replace A2 := Lib.hid ((((Below.refl w3.heap.size w3).alloc (Nat.le_refl _) (.cells #[.int .i64 1] 3)).block (w.heap.size + 1) A1.out.2.2).trans A2.out)
    replace A0 := Lib.hid (A0.out.alloc (.cells #[.int .i64 1] 3))
    replace A1 := Lib.hid (A1.out.alloc (.cells #[.int .i64 1] 3))
    replace B := Lib.hid (ballD1 B.out (.cells #[.int .i64 1] 3))
    refine (AD.out _ _ _ HQ.out N1.out).mono ?_
    rintro e w4 ⟨vs, rfl, RS, hb⟩
    replace A2 := Lib.hid ((hb.block (w.heap.size + 1) A1.out.2.2).trans A2.out)
    replace A0 := Lib.hid (A0.out.below hb)
    replace A1 := Lib.hid (A1.out.below hb)
    replace B := Lib.hid (bstep B.out hb)
    have HS := Lib.hid (RS)
    clear RS N1 HQ AD hb a1 a2 a3 a9
    obtain ⟨⟨a1, a2, a3⟩, -, a9⟩ := A0.out
    obtain ⟨SA, SC, rfl⟩ := slice_of HS.out
    generalize (Dg.dg (c / 10 ^ n + 1)).length = LS at *
    obtain ⟨⟨b1, b2, b3⟩, ⟨b4, b5, b6⟩, b9⟩ := A1.out
    go_wp2
    refine bodyPost_ret (v := Fv na (.slice SA LS SC) (x + (n : Int))) (by simp [results, Tryd.results16, go_sem, *]) rfl ⟨na, _, _, ⟨rfl, rfl, ?_⟩, rfl, Below.set1' (Below.set1' (Below.set1' B.out _ _ (by omega) _) _ _ (by omega) _) _ _ (by omega) _⟩
    rw [← HB.out]
    exact Row.set3 HS.out (row_apart HS.out A2.out (by decide)) _ _ _

set_option linter.unusedVariables false in
set_option maxRecDepth 100000 in
set_option maxHeartbeats 4000000 in
theorem cut_nil0 (m : Nat) (na : Bool) (c : Nat) (x : Int) (n : Nat) (more b : Bool) (C : Nat) (hn : n ≤ 1000) (hx : -1000000000000 ≤ x ∧ x ≤ 1000000000000) (ni : Int) (n0 : ni ≤ 0) (hn0 : n = 0) (w : World) (r : Row w (.slice none 0 0) (Dg.dg c))
    (TD0 : ∀ W, Row W (.slice none 0 0) (Dg.dg c) → Calls Tryd.prog 50 #[.slice none 0 0] W (RetRow (Dg.dg (c / 10 ^ n)) W))
    (TT0 : ∀ W, Row W (.slice none 0 0) (Dg.dg c) → Calls Tryd.prog 50 #[.slice none 0 0] W (RetRow (Dg.dg (c % 10 ^ n)) W))
    (UP0 : ∀ vq vr W, Row W vq (Dg.dg (c / 10 ^ n)) → Row W vr (Dg.dg (c % 10 ^ n)) → Calls Tryd.prog 51 #[.int .i64 (m : Int), .bool na, vq, vr, .int .i64 0, .bool more] W (RetB b W))
    (AD0 : ∀ v1 v2 W, Row W v1 (Dg.dg (c / 10 ^ n)) → Row W v2 (Dg.dg 1) → Calls Tryd.prog 52 #[v1, v2] W (RetRow (Dg.dg (c / 10 ^ n + 1)) W))
    (HB' : c / 10 ^ n + (if b = true then 1 else 0) = C) :
    Calls Tryd.prog 16 #[Fv na (.slice none 0 0) x, .bool more, .int .i64 ni, .int .i64 (m : Int)] w (RetF (fun n' v' x' W => n' = na ∧ x' = x ∧ Row W v' (Dg.dg C)) w) := by
  have f1 : wrap64 x = x := by unfold wrap64; omega
  have f2 : IntKind.i64.wrap x = x := by rw [IntKind.wrap_i64]; omega
  have t2 : decide (ni < 0) = true ∨ ni = 0 := by by_cases z : ni < 0; exact .inl (decide_eq_true z); exact .inr (by omega)
  have R := Lib.hid r
  have TD := Lib.hid TD0
  have TT := Lib.hid TT0
  have UP := Lib.hid UP0
  have AD := Lib.hid AD0
  clear r TD0 TT0 UP0 AD0 hx hn
  rcases t2 with t2 | rfl
  all_goals
  go_enter Tryd.func16, Tryd.ntmps16
  go_upto_region 1 with fail
  have B := Lib.hid (ballD1 (ballD1 (Below.refl w.heap.size w) (.cells #[.bool na, .slice none 0 0, .int .i64 x] 36)) (.cells #[.bool false, .slice none 0 0, .int .i64 0] 36))
  have A0 := Lib.hid (show HoldsF ((w.alloc (.cells #[.bool na, .slice none 0 0, .int .i64 x] 36)).alloc (.cells #[.bool false, .slice none 0 0, .int .i64 0] 36)) w.heap.size na (.slice none 0 0) x from by simp [HoldsF, go_sem])
  have A1 := Lib.hid (show HoldsF ((w.alloc (.cells #[.bool na, .slice none 0 0, .int .i64 x] 36)).alloc (.cells #[.bool false, .slice none 0 0, .int .i64 0] 36)) (w.heap.size + 1) false (.slice none 0 0) 0 from by simp [HoldsF, go_sem])
  have A2 := Lib.hid (show ((w.alloc (.cells #[.bool na, .slice none 0 0, .int .i64 x] 36)).alloc (.cells #[.bool false, .slice none 0 0, .int .i64 0] 36)).heap[w.heap.size + 1]? = some (.cells #[.bool false, .slice none 0 0, .int .i64 0] 36 (0, 0)) from heap_new2 _ _ _)
  replace R := Lib.hid ((R.out.alloc' (.cells #[.bool na, .slice none 0 0, .int .i64 x] 36)).alloc' (.cells #[.bool false, .slice none 0 0, .int .i64 0] 36))
  change Code.wp _ _ _ _ ((w.alloc (.cells #[.bool na, .slice none 0 0, .int .i64 x] 36)).alloc (.cells #[.bool false, .slice none 0 0, .int .i64 0] 36))
  generalize ((w.alloc (.cells #[.bool na, .slice none 0 0, .int .i64 x] 36)).alloc (.cells #[.bool false, .slice none 0 0, .int .i64 0] 36)) = V at *
  obtain ⟨⟨a1, a2, a3⟩, -, a9⟩ := A0.out
  go_wp2_with fail
  refine (TD.out _ R.out).mono ?_
  rintro e w1 ⟨vq, rfl, RQ, hb⟩
  replace A2 := Lib.hid ((hb.block (w.heap.size + 1) A1.out.2.2).trans A2.out)
  replace A0 := Lib.hid (A0.out.below hb)
  replace A1 := Lib.hid (A1.out.below hb)
  replace B := Lib.hid (bstep B.out hb)
  replace R := Lib.hid (R.out.below hb)
  have HQ := Lib.hid (RQ)
  clear RQ TD hb a1 a2 a3 a9
  obtain ⟨⟨a1, a2, a3⟩, -, a9⟩ := A0.out
  go_wp2_with fail
  refine (TT.out _ R.out).mono ?_
  rintro e w2 ⟨vr, rfl, RR, hb⟩
  replace A2 := Lib.hid ((hb.block (w.heap.size + 1) A1.out.2.2).trans A2.out)
  replace A0 := Lib.hid (A0.out.below hb)
  replace A1 := Lib.hid (A1.out.below hb)
  replace B := Lib.hid (bstep B.out hb)
  replace HQ := Lib.hid (HQ.out.below hb)
  have HR := Lib.hid (RR)
  clear RR TT R hb a1 a2 a3 a9
  obtain ⟨⟨a1, a2, a3⟩, -, a9⟩ := A0.out
  obtain ⟨QA, QC, rfl⟩ := slice_of HQ.out
  obtain ⟨RA, RC, rfl⟩ := slice_of HR.out
  generalize (Dg.dg (c % 10 ^ n)).length = LR at *
  generalize hLQ : (Dg.dg (c / 10 ^ n)).length = LQ at *
  go_wp2_with fail
  refine (UP.out _ _ _ HQ.out HR.out).mono ?_
  rintro e w3 ⟨rfl, hb⟩
  replace A2 := Lib.hid ((hb.block (w.heap.size + 1) A1.out.2.2).trans A2.out)
  replace A0 := Lib.hid (A0.out.below hb)
  replace A1 := Lib.hid (A1.out.below hb)
  replace B := Lib.hid (bstep B.out hb)
  replace HQ := Lib.hid (HQ.out.below hb)
  clear HR UP hb a1 a2 a3 a9
  obtain ⟨⟨a1, a2, a3⟩, -, a9⟩ := A0.out
  cases b
  · rw [if_neg (by decide), Nat.add_zero] at HB'
    have HB := Lib.hid HB'
    clear HB'
    obtain ⟨⟨b1, b2, b3⟩, ⟨b4, b5, b6⟩, b9⟩ := A1.out
    go_wp2
    refine bodyPost_ret (v := Fv na (.slice QA LQ QC) (x)) (by simp [results, Tryd.results16, go_sem, *]) rfl ⟨na, _, _, ⟨rfl, rfl, ?_⟩, rfl, Below.set1' (Below.set1' (Below.set1' B.out _ _ (by omega) _) _ _ (by omega) _) _ _ (by omega) _⟩
    rw [← HB.out]
    exact Row.set3 HQ.out (row_apart HQ.out A2.out (by decide)) _ _ _
  · rw [if_pos rfl] at HB'
    have HB := Lib.hid HB'
    clear HB'
    go_wp2_with fail
    have N1 := Lib.hid (show Row (w3.alloc (.cells #[.int .i64 1] 3)) (.slice (some ⟨w3.heap.size, 0, none⟩) 1 1) (Dg.dg 1) by rw [dg_digit (by decide) (by decide)]; exact row_new w3 1)
    replace HQ := Lib.hid (HQ.out.alloc' (.cells #[.int .i64 1] 3))
    replace A2 := Lib.hid ((((Below.refl w3.heap.size w3).alloc (Nat.le_refl _) (.cells #[.int .i64 1] 3)).block (w.heap.size + 1) A1.out.2.2).trans A2.out)
    replace A0 := Lib.hid (A0.out.alloc (.cells #[.int .i64 1] 3))
    replace A1 := Lib.hid (A1.out.alloc (.cells #[.int .i64 1] 3))
    replace B := Lib.hid (ballD1 B.out (.cells #[.int .i64 1] 3))
    refine (AD.out _ _ _ HQ.out N1.out).mono ?_
    rintro e w4 ⟨vs, rfl, RS, hb⟩
    replace A2 := Lib.hid ((hb.block (w.heap.size + 1) A1.out.2.2).trans A2.out)
    replace A0 := Lib.hid (A0.out.below hb)
    replace A1 := Lib.hid (A1.out.below hb)
    replace B := Lib.hid (bstep B.out hb)
    have HS := Lib.hid (RS)
    clear RS N1 HQ AD hb a1 a2 a3 a9
    obtain ⟨⟨a1, a2, a3⟩, -, a9⟩ := A0.out
    obtain ⟨SA, SC, rfl⟩ := slice_of HS.out
    generalize (Dg.dg (c / 10 ^ n + 1)).length = LS at *
    obtain ⟨⟨b1, b2, b3⟩, ⟨b4, b5, b6⟩, b9⟩ := A1.out
    go_wp2
    refine bodyPost_ret (v := Fv na (.slice SA LS SC) (x)) (by simp [results, Tryd.results16, go_sem, *]) rfl ⟨na, _, _, ⟨rfl, rfl, ?_⟩, rfl, Below.set1' (Below.set1' (Below.set1' B.out _ _ (by omega) _) _ _ (by omega) _) _ _ (by omega) _⟩
    rw [← HB.out]
    exact Row.set3 HS.out (row_apart HS.out A2.out (by decide)) _ _ _

set_option linter.unusedVariables false in
set_option maxRecDepth 100000 in
set_option maxHeartbeats 4000000 in
theorem cut_under (m : Nat) (na : Bool) (c : Nat) (x : Int) (n : Nat) (more b : Bool) (C : Nat) (hn : n ≤ 1000) (hx : -1000000000000 ≤ x ∧ x ≤ 1000000000000) (g L cap : Nat) (ni : Int) (_lL : L ≤ 1000) (lc : L ≤ cap) (lm : cap ≤ 9223372036854775807) (n0 : ni < 0) (_hn0 : n = 0) (w : World) (r : Row w (.slice (some ⟨g, 0, none⟩) L cap) (Dg.dg c))
    (TD0 : ∀ W, Row W (.slice (some ⟨g, 0, none⟩) L cap) (Dg.dg c) → Calls Tryd.prog 50 #[.slice (some ⟨g, 0, none⟩) L cap] W (RetRow (Dg.dg (c / 10 ^ n)) W))
    (TT0 : ∀ W, Row W (.slice (some ⟨g, 0, none⟩) L cap) (Dg.dg c) → Calls Tryd.prog 50 #[.slice (some ⟨g, 0, none⟩) 0 cap] W (RetRow (Dg.dg (c % 10 ^ n)) W))
    (UP0 : ∀ vq vr W, Row W vq (Dg.dg (c / 10 ^ n)) → Row W vr (Dg.dg (c % 10 ^ n)) → Calls Tryd.prog 51 #[.int .i64 (m : Int), .bool na, vq, vr, .int .i64 0, .bool more] W (RetB b W))
    (AD0 : ∀ v1 v2 W, Row W v1 (Dg.dg (c / 10 ^ n)) → Row W v2 (Dg.dg 1) → Calls Tryd.prog 52 #[v1, v2] W (RetRow (Dg.dg (c / 10 ^ n + 1)) W))
    (HB' : c / 10 ^ n + (if b = true then 1 else 0) = C) :
    Calls Tryd.prog 16 #[Fv na (.slice (some ⟨g, 0, none⟩) L cap) x, .bool more, .int .i64 ni, .int .i64 (m : Int)] w (RetF (fun n' v' x' W => n' = na ∧ x' = x ∧ Row W v' (Dg.dg C)) w) := by
  have f1 : wrap64 x = x := by unfold wrap64; omega
  have f2 : IntKind.i64.wrap x = x := by rw [IntKind.wrap_i64]; omega
  have t2 : decide (ni < 0) = true := decide_eq_true n0
  have R := Lib.hid r
  have TD := Lib.hid TD0
  have TT := Lib.hid TT0
  have UP := Lib.hid UP0
  have AD := Lib.hid AD0
  clear r TD0 TT0 UP0 AD0 hx hn
  go_enter Tryd.func16, Tryd.ntmps16
  go_upto_region 1 with fail
  have B := Lib.hid (ballD1 (ballD1 (Below.refl w.heap.size w) (.cells #[.bool na, .slice (some ⟨g, 0, none⟩) L cap, .int .i64 x] 36)) (.cells #[.bool false, .slice none 0 0, .int .i64 0] 36))
  have A0 := Lib.hid (show HoldsF ((w.alloc (.cells #[.bool na, .slice (some ⟨g, 0, none⟩) L cap, .int .i64 x] 36)).alloc (.cells #[.bool false, .slice none 0 0, .int .i64 0] 36)) w.heap.size na (.slice (some ⟨g, 0, none⟩) L cap) x from by simp [HoldsF, go_sem])
  have A1 := Lib.hid (show HoldsF ((w.alloc (.cells #[.bool na, .slice (some ⟨g, 0, none⟩) L cap, .int .i64 x] 36)).alloc (.cells #[.bool false, .slice none 0 0, .int .i64 0] 36)) (w.heap.size + 1) false (.slice none 0 0) 0 from by simp [HoldsF, go_sem])
  have A2 := Lib.hid (show ((w.alloc (.cells #[.bool na, .slice (some ⟨g, 0, none⟩) L cap, .int .i64 x] 36)).alloc (.cells #[.bool false, .slice none 0 0, .int .i64 0] 36)).heap[w.heap.size + 1]? = some (.cells #[.bool false, .slice none 0 0, .int .i64 0] 36 (0, 0)) from heap_new2 _ _ _)
  replace R := Lib.hid ((R.out.alloc' (.cells #[.bool na, .slice (some ⟨g, 0, none⟩) L cap, .int .i64 x] 36)).alloc' (.cells #[.bool false, .slice none 0 0, .int .i64 0] 36))
  change Code.wp _ _ _ _ ((w.alloc (.cells #[.bool na, .slice (some ⟨g, 0, none⟩) L cap, .int .i64 x] 36)).alloc (.cells #[.bool false, .slice none 0 0, .int .i64 0] 36))
  generalize ((w.alloc (.cells #[.bool na, .slice (some ⟨g, 0, none⟩) L cap, .int .i64 x] 36)).alloc (.cells #[.bool false, .slice none 0 0, .int .i64 0] 36)) = V at *
  obtain ⟨⟨a1, a2, a3⟩, -, a9⟩ := A0.out
  go_wp2_with fail
  refine (TD.out _ R.out).mono ?_
  rintro e w1 ⟨vq, rfl, RQ, hb⟩
  replace A2 := Lib.hid ((hb.block (w.heap.size + 1) A1.out.2.2).trans A2.out)
  replace A0 := Lib.hid (A0.out.below hb)
  replace A1 := Lib.hid (A1.out.below hb)
  replace B := Lib.hid (bstep B.out hb)
  replace R := Lib.hid (R.out.below hb)
  have HQ := Lib.hid (RQ)
  clear RQ TD hb a1 a2 a3 a9
  obtain ⟨⟨a1, a2, a3⟩, -, a9⟩ := A0.out
  go_wp2_with fail
  refine (TT.out _ R.out).mono ?_
  rintro e w2 ⟨vr, rfl, RR, hb⟩
  replace A2 := Lib.hid ((hb.block (w.heap.size + 1) A1.out.2.2).trans A2.out)
  replace A0 := Lib.hid (A0.out.below hb)
  replace A1 := Lib.hid (A1.out.below hb)
  replace B := Lib.hid (bstep B.out hb)
  replace HQ := Lib.hid (HQ.out.below hb)
  have HR := Lib.hid (RR)
  clear RR TT R hb a1 a2 a3 a9
  obtain ⟨⟨a1, a2, a3⟩, -, a9⟩ := A0.out
  obtain ⟨QA, QC, rfl⟩ := slice_of HQ.out
  obtain ⟨RA, RC, rfl⟩ := slice_of HR.out
  generalize (Dg.dg (c % 10 ^ n)).length = LR at *
  generalize hLQ : (Dg.dg (c / 10 ^ n)).length = LQ at *
  go_wp2_with fail
  refine (UP.out _ _ _ HQ.out HR.out).mono ?_
  rintro e w3 ⟨rfl, hb⟩
  replace A2 := Lib.hid ((hb.block (w.heap.size + 1) A1.out.2.2).trans A2.out)
  replace A0 := Lib.hid (A0.out.below hb)
  replace A1 := Lib.hid (A1.out.below hb)
  replace B := Lib.hid (bstep B.out hb)
  replace HQ := Lib.hid (HQ.out.below hb)
  clear HR UP hb a1 a2 a3 a9
  obtain ⟨⟨a1, a2, a3⟩, -, a9⟩ := A0.out
  cases b
  · rw [if_neg (by decide), Nat.add_zero] at HB'
    have HB := Lib.hid HB'
    clear HB'
    obtain ⟨⟨b1, b2, b3⟩, ⟨b4, b5, b6⟩, b9⟩ := A1.out
    go_wp2
    refine bodyPost_ret (v := Fv na (.slice QA LQ QC) (x)) (by simp [results, Tryd.results16, go_sem, *]) rfl ⟨na, _, _, ⟨rfl, rfl, ?_⟩, rfl, Below.set1' (Below.set1' (Below.set1' B.out _ _ (by omega) _) _ _ (by omega) _) _ _ (by omega) _⟩
    rw [← HB.out]
    exact Row.set3 HQ.out (row_apart HQ.out A2.out (by decide)) _ _ _
  · rw [if_pos rfl] at HB'
    have HB := Lib.hid HB'
    clear HB'
    go_wp2_with fail
    have N1 := Lib.hid (show Row (w3.alloc (.cells #[.int .i64 1] 3)) (.slice (some ⟨w3.heap.size, 0, none⟩) 1 1) (Dg.dg 1) by rw [dg_digit (by decide) (by decide)]; exact row_new w3 1)
    replace HQ := Lib.hid (HQ.out.alloc' (.cells #[.int .i64 1] 3))
    replace A2 := Lib.hid ((((Below.refl w3.heap.size w3).alloc (Nat.le_refl _) (.cells #[.int .i64 1] 3)).block (w.heap.size + 1) A1.out.2.2).trans A2.out)
    replace A0 := Lib.hid (A0.out.alloc (.cells #[.int .i64 1] 3))
    replace A1 := Lib.hid (A1.out.alloc (.cells #[.int .i64 1] 3))
    replace B := Lib.hid (ballD1 B.out (.cells #[.int .i64 1] 3))
    refine (AD.out _ _ _ HQ.out N1.out).mono ?_
    rintro e w4 ⟨vs, rfl, RS, hb⟩
    replace A2 := Lib.hid ((hb.block (w.heap.size + 1) A1.out.2.2).trans A2.out)
    replace A0 := Lib.hid (A0.out.below hb)
    replace A1 := Lib.hid (A1.out.below hb)
    replace B := Lib.hid (bstep B.out hb)
    have HS := Lib.hid (RS)
    clear RS N1 HQ AD hb a1 a2 a3 a9
    obtain ⟨⟨a1, a2, a3⟩, -, a9⟩ := A0.out
    obtain ⟨SA, SC, rfl⟩ := slice_of HS.out
    generalize (Dg.dg (c / 10 ^ n + 1)).length = LS at *
    obtain ⟨⟨b1, b2, b3⟩, ⟨b4, b5, b6⟩, b9⟩ := A1.out
    go_wp2
    refine bodyPost_ret (v := Fv na (.slice SA LS SC) (x)) (by simp [results, Tryd.results16, go_sem, *]) rfl ⟨na, _, _, ⟨rfl, rfl, ?_⟩, rfl, Below.set1' (Below.set1' (Below.set1' B.out _ _ (by omega) _) _ _ (by omega) _) _ _ (by omega) _⟩
    rw [← HB.out]
    exact Row.set3 HS.out (row_apart HS.out A2.out (by decide)) _ _ _

theorem part_of {W : World} {g cap : Nat} {l : List Nat} (r : Row W (.slice (some ⟨g, 0, none⟩) l.length cap) l) : l.length ≤ cap ∧ cap ≤ maxLen ∧ g < W.heap.size ∧ ∀ k, k < l.length → W.cell? ⟨g, k, none⟩ = some (.int .i64 ((l.getD k 0 : Nat) : Int)) := by
  rcases r.form with ⟨h, _⟩ | ⟨g', cap', h, h1, h2, h3, h4⟩
  · cases h
  · cases h; exact ⟨h1, h2, h3, h4⟩
theorem row_take {W : World} {g cap : Nat} {l : List Nat} (r : Row W (.slice (some ⟨g, 0, none⟩) l.length cap) l) {k : Nat} (hk : k ≤ l.length) : Row W (.slice (some ⟨g, 0, none⟩) (l.take k).length cap) (l.take k) := by
  have e : (l.take k).length = k := by rw [List.length_take, Nat.min_eq_left hk]
  rcases r.2 with ⟨h, _⟩ | ⟨g', cap', cur, h, h0, h1, h2, h3, h4, h5⟩
  · cases h
  · cases h
    refine ⟨by simp, .inr ⟨g, cap, cur, rfl, h0, h1, by rw [e]; omega, h3, h4, ?_⟩⟩
    rw [e, Nat.mul_one, List.map_take, ← h5, List.take_take, Nat.mul_one, Nat.min_eq_left hk]
theorem part_drop {W : World} {g cap : Nat} {l : List Nat} (r : Row W (.slice (some ⟨g, 0, none⟩) l.length cap) l) {k : Nat} (hk : k ≤ l.length) : Part W g k (cap - k) (l.drop k) := by
  obtain ⟨h1, h2, h3, h4⟩ := part_of r
  refine ⟨by rw [List.length_drop]; omega, by omega, h3, fun j hj => ?_⟩
  rw [List.length_drop] at hj
  rw [h4 (k + j) (by omega)]
  simp [List.getD]
theorem drop_dig {c k : Nat} : ∀ d ∈ (Dg.dg c).drop k, d < 10 := fun d hd => Dg.dg_lt c d (List.mem_of_mem_drop hd)
theorem take_dig {c k : Nat} : ∀ d ∈ (Dg.dg c).take k, d < 10 := fun d hd => Dg.dg_lt c d (List.mem_of_mem_take hd)
/-- Leaving out the noughts above of the digits from the k-th on, and up to it. -/
theorem trim_drop (g cap c n k : Nat) (hk : k = min n (Dg.dg c).length) (hl : (Dg.dg c).length ≤ 1000) (W : World) (r : Row W (.slice (some ⟨g, 0, none⟩) (Dg.dg c).length cap) (Dg.dg c)) : Calls Tryd.prog 50 #[.slice (some ⟨g, k, none⟩) ((Dg.dg c).length - k) (cap - k)] W (RetRow (Dg.dg (c / 10 ^ n)) W) := by
  have := trimP_any g k (cap - k) ((Dg.dg c).drop k) (by rw [List.length_drop]; omega) drop_dig W (part_drop r (by omega))
  rw [List.length_drop] at this
  rw [← (cut_parts c n).2, ← hk]
  exact this
theorem trim_take (g cap c n k : Nat) (hk : k = min n (Dg.dg c).length) (hl : (Dg.dg c).length ≤ 1000) (W : World) (r : Row W (.slice (some ⟨g, 0, none⟩) (Dg.dg c).length cap) (Dg.dg c)) : Calls Tryd.prog 50 #[.slice (some ⟨g, 0, none⟩) k cap] W (RetRow (Dg.dg (c % 10 ^ n)) W) := by
  have := trim_any _ ((Dg.dg c).take k) (by rw [List.length_take]; omega) take_dig W (row_take r (k := k) (by omega))
  rw [List.length_take, Nat.min_eq_left (by omega)] at this
  rw [← (cut_parts c n).1, ← hk]
  exact this
theorem trim_past (g cap c n : Nat) (hk : (Dg.dg c).length ≤ n) (W : World) (hg : g < W.heap.size) (hcap : cap ≤ maxLen) (o : Nat) : Calls Tryd.prog 50 #[.slice (some ⟨g, o, none⟩) 0 cap] W (RetRow (Dg.dg (c / 10 ^ n)) W) := by
  have := trimP_any g o cap [] (by simp) (by simp) W ⟨Nat.zero_le _, hcap, hg, by simp⟩
  have e : c / 10 ^ n = 0 := Nat.div_eq_of_lt (Nat.lt_of_lt_of_le (Dg.dg_bounds c).1 (Nat.pow_le_pow_right (by decide) hk))
  rw [e, Dg.dg_zero]
  unfold trim at this
  rw [show Dg.val [] = 0 from rfl, Dg.dg_zero] at this
  exact this
theorem trim_nil (W : World) : Calls Tryd.prog 50 #[.slice none 0 0] W (RetRow [] W) := by
  have := trim_any (.slice none 0 0) [] (by simp) (by simp) W Row.nil
  unfold trim at this
  rw [show Dg.val [] = 0 from rfl, Dg.dg_zero] at this
  exact this
/-- What rounding answers, and what it makes of a size. -/
theorem upR_some (m : Nat) (hm : m = 1 ∨ m = 2 ∨ m = 3 ∨ m = 4 ∨ m = 5 ∨ m = 6 ∨ m = 7) (na : Bool) (c n : Nat) (more : Bool) (hc : c < 10 ^ 77) (hn : n ≤ 1000) (hz : more = false ∨ (c ≠ 0 ∧ 1 ≤ n)) :
    ∃ b : Bool, (∀ vq vr W, Row W vq (Dg.dg (c / 10 ^ n)) → Row W vr (Dg.dg (c % 10 ^ n)) → Calls Tryd.prog 51 #[.int .i64 (m : Int), .bool na, vq, vr, .int .i64 (n : Int), .bool more] W (RetB b W)) ∧ c / 10 ^ n + (if b = true then 1 else 0) = cutN m na c n more := by
  by_cases h : c % 10 ^ n = 0 ∧ more = false
  · obtain ⟨h1, rfl⟩ := h
    refine ⟨false, fun vq vr W hq hr => ?_, ?_⟩
    · rw [h1] at hr; exact up_none m na vq vr _ n W hq hr
    · rw [if_neg (by decide), Nat.add_zero]; exact cut_plain0 m na c n hc h1
  · have hz' : c % 10 ^ n ≠ 0 ∨ more = true := by
      by_cases a : c % 10 ^ n = 0
      · right; cases more
        · exact absurd ⟨a, rfl⟩ h
        · rfl
      · exact .inl a
    have n1 : 1 ≤ n := by
      rcases hz with rfl | ⟨_, hz⟩
      · rcases Nat.eq_zero_or_pos n with z | z
        · subst z
          exact absurd ⟨by rw [Nat.pow_zero, Nat.mod_one], rfl⟩ h
        · exact z
      · exact hz
    obtain ⟨k, rfl⟩ : ∃ k, n = k + 1 := ⟨n - 1, by omega⟩
    refine ⟨_, fun vq vr W hq hr => up_walk m hm na vq vr _ _ k ((k + 1 : Nat) : Int) more _ (by omega) (by omega) ?_ hz' rfl W hq hr, cut_plain m hm na c k more hc hz'⟩
    have : c % 10 ^ (k + 1) < 10 ^ 77 := Nat.lt_of_le_of_lt (Nat.mod_le _ _) hc
    have := Dg.dg_length_le this
    omega
theorem rcut_any (m : Nat) (hm : m = 1 ∨ m = 2 ∨ m = 3 ∨ m = 4 ∨ m = 5 ∨ m = 6 ∨ m = 7) (na : Bool) (v : Value) (c : Nat) (x ni : Int) (n : Nat) (more : Bool) (hn : n = ni.toNat) (n1 : n ≤ 1000) (hc : c < 10 ^ 77) (hx : -1000000000000 ≤ x ∧ x ≤ 1000000000000) (hz : more = false ∨ (c ≠ 0 ∧ 1 ≤ n)) (w : World) (r : Row w v (Dg.dg c)) :
    Calls Tryd.prog 16 #[Fv na v x, .bool more, .int .i64 ni, .int .i64 (m : Int)] w (RetF (fun n' v' x' W => n' = na ∧ x' = x + (n : Int) ∧ Row W v' (Dg.dg (cutN m na c n more))) w) := by
  obtain ⟨b, UP, HB⟩ := upR_some m hm na c n more hc n1 hz
  have hL : (Dg.dg c).length ≤ 77 := Dg.dg_length_le hc
  have AD : ∀ v1 v2 W, Row W v1 (Dg.dg (c / 10 ^ n)) → Row W v2 (Dg.dg 1) → Calls Tryd.prog 52 #[v1, v2] W (RetRow (Dg.dg (c / 10 ^ n + 1)) W) := by
    intro v1 v2 W h1 h2
    have l1 : (Dg.dg (c / 10 ^ n)).length ≤ 77 := Dg.dg_length_le (Nat.lt_of_le_of_lt (Nat.div_le_self _ _) hc)
    have l2 : (Dg.dg 1).length ≤ 1 := Dg.dg_length_le (by decide)
    have := radd_any v1 v2 _ _ (by omega) (by omega) (Dg.dg_lt _) (Dg.dg_lt _) W h1 h2
    rw [Dg.val_dg, Dg.val_dg] at this
    exact this
  rcases Int.lt_or_le ni 0 with neg | pos
  · obtain rfl : n = 0 := by omega
    have ex : x + ((0 : Nat) : Int) = x := by omega
    rw [ex]
    rcases r.form with ⟨rfl, e⟩ | ⟨g, cap, rfl, h1, h2, h3, -⟩
    · have c0 : c = 0 := by have := Dg.val_dg c; rw [e] at this; exact this.symm
      subst c0
      have TN : ∀ W, Calls Tryd.prog 50 #[.slice none 0 0] W (RetRow (Dg.dg 0) W) := fun W => by rw [Dg.dg_zero]; exact trim_nil W
      exact cut_nil0 m na 0 x 0 more b _ (by omega) hx ni (by omega) rfl w r (fun W _ => TN W) (fun W _ => TN W) UP AD HB
    · have lm : cap ≤ 9223372036854775807 := h2
      refine cut_under m na c x 0 more b _ (by omega) hx g _ cap ni (by omega) h1 lm neg rfl w r (fun W rW => ?_) (fun W rW => trim_take g cap c 0 0 (by omega) (by omega) W rW) UP AD HB
      have := trim_drop g cap c 0 0 (by omega) (by omega) W rW
      exact this
  · obtain rfl : ni = (n : Int) := by omega
    rcases r.form with ⟨rfl, e⟩ | ⟨g, cap, rfl, h1, h2, h3, -⟩
    · have c0 : c = 0 := by have := Dg.val_dg c; rw [e] at this; exact this.symm
      subst c0
      have TN : ∀ W, Calls Tryd.prog 50 #[.slice none 0 0] W (RetRow [] W) := fun W => trim_nil W
      have d0 : Dg.dg (0 / 10 ^ n) = [] := by rw [Nat.zero_div, Dg.dg_zero]
      have m0 : Dg.dg (0 % 10 ^ n) = [] := by rw [Nat.zero_mod, Dg.dg_zero]
      rcases Nat.eq_zero_or_pos n with z | z
      · subst z
        have := cut_nil0 m na 0 x 0 more b _ (by omega) hx 0 (by omega) rfl w r (fun W _ => by rw [d0]; exact TN W) (fun W _ => by rw [m0]; exact TN W) UP AD HB
        rw [show x + ((0 : Nat) : Int) = x by omega]
        exact this
      · exact cut_nil m na 0 x n more b _ (by omega) hx z w r (fun W _ => by rw [d0]; exact TN W) (fun W _ => by rw [m0]; exact TN W) UP AD HB
    · have lm : cap ≤ 9223372036854775807 := h2
      rcases Nat.lt_or_ge (Dg.dg c).length n with past | le
      · have TT : ∀ W, Row W (.slice (some ⟨g, 0, none⟩) (Dg.dg c).length cap) (Dg.dg c) → Calls Tryd.prog 50 #[.slice (some ⟨g, 0, none⟩) (Dg.dg c).length cap] W (RetRow (Dg.dg (c % 10 ^ n)) W) := fun W rW => trim_take g cap c n _ (by omega) (by omega) W rW
        by_cases ec : (Dg.dg c).length = cap
        · rw [← ec] at r TT ⊢
          exact cut_pastfull m na c x n more b _ (by omega) hx g _ (by omega) past w r (fun W rW => trim_past g 0 c n (by omega) W (part_of rW).2.2.1 (Nat.zero_le _) 0) TT UP AD HB
        · exact cut_past m na c x n more b _ (by omega) hx g _ cap (by omega) h1 lm ec past w r (fun W rW => trim_past g _ c n (by omega) W (part_of rW).2.2.1 (by omega) _) TT UP AD HB
      · have TT : ∀ W, Row W (.slice (some ⟨g, 0, none⟩) (Dg.dg c).length cap) (Dg.dg c) → Calls Tryd.prog 50 #[.slice (some ⟨g, 0, none⟩) n cap] W (RetRow (Dg.dg (c % 10 ^ n)) W) := fun W rW => trim_take g cap c n n (by omega) (by omega) W rW
        by_cases ec : n = cap
        · have el : (Dg.dg c).length = n := by omega
          subst ec
          rw [el] at r TT ⊢
          exact cut_full m na c x n more b _ (by omega) hx g w r (fun W rW => trim_past g 0 c n (by omega) W (by rw [← el] at rW; exact (part_of rW).2.2.1) (Nat.zero_le _) 0) TT UP AD HB
        · exact cut_mid m na c x n more b _ (by omega) hx g _ cap (by omega) h1 lm ec le w r (fun W rW => trim_drop g cap c n n (by omega) (by omega) W rW) TT UP AD HB
end Go.Proofs.YtncpdoeikebomaaDoor

/-
  The statement RoundScales, walked: it answers true, where the document's examples do.
-/
namespace Go.Proofs.YtncpdoeikebomaaDoor
open Go.RowKit

theorem cutN_min (m : Nat) (na : Bool) (c n : Nat) (more : Bool) : cutN m na c (min n 90) more = cutN m na c n more := by
  unfold cutN upN
  rw [show min (min n 90) 78 = min n 78 by omega]
theorem cutN_exact (m : Nat) (na : Bool) (c : Nat) : cutN m na c 0 false = c := by
  unfold cutN
  rw [up_of (by rw [Nat.zero_min, Nat.pow_zero, Nat.mod_one])]
  simp
theorem cutN_none (m : Nat) (na : Bool) (n : Nat) : cutN m na 0 n false = 0 := by
  unfold cutN
  rw [up_of (by rw [Nat.zero_mod])]
  simp
/-- What the document's words of so many places come to is what the program's plain words say. -/
theorem scale_plain (m : Nat) (na : Bool) (c : Nat) (x y nn : Int) (hz : c = 0 → na = false) (hn : nn = y - x) (Q : Nat)
    (hQ : (0 ≤ nn ∧ Q = cutN m na c (min nn.toNat 90) false) ∨ (nn < 0 ∧ (c = 0 ∨ -nn ≤ 40) ∧ Q = c * 10 ^ (min (-nn).toNat 40))) :
    (34 < nd Q → scF m na c x y = none) ∧ (nd Q ≤ 34 → scF m na c x y = some (na && !decide (Q = 0), Q, y)) := by
  by_cases z : c = 0
  · have q0 : Q = 0 := by
      rcases hQ with ⟨_, h⟩ | ⟨_, _, h⟩
      · rw [h, cutN_min, z, cutN_none]
      · rw [h, z, Nat.zero_mul]
    subst q0
    rw [scF_zero m na x y z, hz z]
    refine ⟨fun h => ?_, fun _ => rfl⟩
    have : nd 0 = 0 := by unfold nd; rw [Dg.dg_zero]; rfl
    omega
  · rcases hQ with ⟨h0, h⟩ | ⟨h0, h1, h⟩
    · have sc : scN m na c x y = some Q := by
        rw [cutN_min] at h
        unfold scN
        by_cases xy : x < y
        · rw [if_pos xy, h, hn]
        · have : nn = 0 := by omega
          rw [if_neg xy, if_pos (by omega), h, this, show (x - y).toNat = 0 by omega]
          rw [show (0 : Int).toNat = 0 from rfl, cutN_exact]
          simp
      exact ⟨fun d => scF_much z sc (by omega), fun d => scF_some z sc d⟩
    · have h1 : -nn ≤ 40 := by rcases h1 with h1 | h1; exact absurd h1 z; exact h1
      rw [show min (-nn).toNat 40 = (-nn).toNat by omega] at h
      by_cases far : x - y ≤ 38
      · have sc : scN m na c x y = some Q := by
          unfold scN
          rw [if_neg (by omega), if_pos far, h, show (x - y).toNat = (-nn).toNat by omega]
        exact ⟨fun d => scF_much z sc (by omega), fun d => scF_some z sc d⟩
      · have sc : scN m na c x y = none := by
          unfold scN
          rw [if_neg (by omega), if_neg far]
        refine ⟨fun _ => scF_none z sc, fun d => ?_⟩
        have b := (Dg.dg_bounds Q).1
        unfold nd at d
        have b2 : Q < 10 ^ 34 := Nat.lt_of_lt_of_le b (Nat.pow_le_pow_right (by decide) d)
        have b3 : 10 ^ 39 ≤ 10 ^ (-nn).toNat := Nat.pow_le_pow_right (by decide) (by omega)
        have b4 : 1 * 10 ^ (-nn).toNat ≤ c * 10 ^ (-nn).toNat := Nat.mul_le_mul_right _ (by omega)
        have b5 : (10 : Nat) ^ 34 < 10 ^ 39 := by decide
        omega
theorem scale_far (m : Nat) (na : Bool) (c : Nat) (x y nn : Int) (hn : nn = y - x) (z : c ≠ 0) (h : 40 < -nn) : scF m na c x y = none := by
  refine scF_none z ?_
  unfold scN
  rw [if_neg (by omega), if_neg (by omega)]

theorem HoldsF.put2 {W : World} {g : Nat} {n : Bool} {v : Value} {x y : Int} (H : HoldsF W g n v x) : HoldsF (W.setCell ⟨g, 2, none⟩ (.int .i64 y)) g n v y := by
  obtain ⟨⟨a, b, c⟩, ⟨a', b', c'⟩, s⟩ := H
  simp [HoldsF, go_sem, *]
theorem HoldsF.put0 {W : World} {g : Nat} {n n' : Bool} {v : Value} {x : Int} (H : HoldsF W g n v x) : HoldsF (W.setCell ⟨g, 0, none⟩ (.bool n')) g n' v x := by
  obtain ⟨⟨a, b, c⟩, ⟨a', b', c'⟩, s⟩ := H
  simp [HoldsF, go_sem, *]
theorem HoldsF.put3 {W : World} {g : Nat} {n n' : Bool} {v v' : Value} {x y : Int} (H : HoldsF W g n v x) : HoldsF (((W.setCell ⟨g, 0, none⟩ (.bool n')).setCell ⟨g, 1, none⟩ v').setCell ⟨g, 2, none⟩ (.int .i64 y)) g n' v' y := by
  obtain ⟨⟨a, b, c⟩, ⟨a', b', c'⟩, s⟩ := H
  simp [HoldsF, go_sem, *]
theorem HoldsF.newF {W : World} {g : Nat} {t : TypeId} {n : Bool} {v : Value} {x : Int} (hg : g = W.heap.size) : HoldsF (W.alloc (.cells #[.bool n, v, .int .i64 x] t)) g n v x := by
  subst hg
  simp [HoldsF, go_sem]
theorem Row.alloc {W : World} {v : Value} {l : List Nat} (h : Row W v l) (o : Obj) : Row (W.alloc o) v l := h.alloc' o
/-- A block of the document's numbers. -/
def BlkD (W : World) (g : Nat) : Prop := g < W.heap.size ∧ ∃ cs f, W.heap[g]? = some (.cells cs 36 f)
theorem BlkD.below {W w1 : World} {g : Nat} (h : BlkD W g) (hb : Below W.heap.size W w1) : BlkD w1 g := by
  obtain ⟨s, cs, f, h⟩ := h
  exact ⟨Nat.lt_of_lt_of_le s hb.size, cs, f, (hb.block g s).trans h⟩
theorem BlkD.alloc {W : World} {g : Nat} (h : BlkD W g) (o : Obj) : BlkD (W.alloc o) g := h.below ((Below.refl _ _).alloc (Nat.le_refl _) o)
theorem BlkD.new {W : World} {g : Nat} {cs : Array Value} (hg : g = W.heap.size) : BlkD (W.alloc (.cells cs 36)) g := by
  subst hg
  exact ⟨by simp, cs, _, heap_alloc_new _ _⟩
/-- A row lies elsewhere. -/
def Off (v : Value) (l : List Nat) (B : Nat) : Prop := ∀ g cap, v = .slice (some ⟨g, 0, none⟩) l.length cap → g ≠ B
theorem off_of {W : World} {v : Value} {l : List Nat} {B : Nat} (h : Row W v l) (hB : BlkD W B) : Off v l B := by
  obtain ⟨_, cs, f, hB⟩ := hB
  exact row_apart h hB (by decide)
theorem len_nd (Q : Nat) : (((Dg.dg Q).length : Nat) : Int) = (nd Q : Int) := rfl
theorem nd_zero_iff (Q : Nat) : decide ((0 : Int) < (nd Q : Int)) = !decide (Q = 0) := by
  by_cases z : Q = 0
  · subst z; rw [show nd 0 = 0 by unfold nd; rw [Dg.dg_zero]; rfl]; rfl
  · have : 0 < nd Q := by unfold nd; rw [Dg.dg_pos z]; simp
    rw [decide_eq_false z, decide_eq_true (by omega)]; rfl

set_option linter.unusedSimpArgs false in
set_option maxRecDepth 100000 in
set_option maxHeartbeats 40000000 in
theorem roundScales_walk (AW : ∀ w : World, Tab w → Calls Tryd.prog 14 #[] w (RetB true w)) (n : Bool) (h l : Nat) (x : Int) (k m : Int) (h0 : WW h l) (x1 : -9223372036854775808 ≤ x) (x2 : x ≤ 9223372036854775807) (_k1 : -9223372036854775808 ≤ k) (_k2 : k ≤ 9223372036854775807) (_m1 : -9223372036854775808 ≤ m) (_m2 : m ≤ 9223372036854775807) (w : World) (ht : Tab w) :
    Calls Tryd.prog 4 #[Dv n h l x, .int .i64 k, .int .i64 m] w (RetB true w) := by
  have HT := Lib.hid ht
  have AWH := Lib.hid AW
  have M1 := Lib.hid (make_any n h l x h0 x1 x2)
  clear ht AW h0 x1 x2
  go_enter Tryd.func4, Tryd.ntmps4
  go_wp2_with fail
  refine (AWH.out _ (HT.out.below (by go_grown))).mono ?_
  rintro e' w1 ⟨rfl, hb1⟩
  have A0 := Lib.hid (HoldsD.below (by simp [HoldsD, go_sem]) hb1 : HoldsD w1 w.heap.size n h l x)
  have B : Below w.heap.size w w1 := bstep (by go_grown) hb1
  clear hb1 AWH
  obtain ⟨⟨c1_1, c1_2, c1_3, c1_4⟩, -, c1_9⟩ := A0.out
  go_wp2_with fail
  refine (M1.out _ (HT.out.below B)).mono ?_
  rintro e y1 ⟨na, ah, al, ea, NA, rfl, hb⟩
  clear c1_1 c1_2 c1_3 c1_4 c1_9
  replace A0 := Lib.hid (A0.out.below hb)
  replace B := bstep B hb
  clear hb
  clear M1
  clear A0
  replace B := ballD1 B (.cells #[.bool na, .int .u64 (ah : Int), .int .u64 (al : Int), .int .i64 ea] 28)
  have P7 := Lib.hid (show HoldsD (y1.alloc (.cells #[.bool na, .int .u64 (ah : Int), .int .u64 (al : Int), .int .i64 ea] 28)) y1.heap.size na ah al ea from by simp [HoldsD, go_sem])
  go_upto_region 4 with fail
  obtain ⟨gP7, hg⟩ : ∃ g, g = y1.heap.size := ⟨_, rfl⟩
  rw [← hg] at P7
  rw [← hg]
  generalize y1.alloc (.cells #[.bool na, .int .u64 (ah : Int), .int .u64 (al : Int), .int .i64 ea] 28) = V1 at *
  clear hg
  have HN := Lib.hid NA
  clear NA
  by_cases good : 1 ≤ m ∧ m ≤ 7 ∧ -6111 ≤ k ∧ k ≤ 6176
  case' neg =>
    have bad : k < -6111 ∨ 6176 < k ∨ m < 1 ∨ 7 < m := by omega
    clear good
    have HS := Lib.hid (scale_no na ah al ea k m bad)
    obtain ⟨⟨c2_1, c2_2, c2_3, c2_4⟩, -, c2_9⟩ := P7.out
    go_wp2_with fail
    refine (HS.out _).mono ?_
    rintro e y2 ⟨n8, h8, l8, x8, k8, N8, rfl, hb⟩
    clear c2_1 c2_2 c2_3 c2_4 c2_9
    replace P7 := Lib.hid (P7.out.below hb)
    replace B := bstep B hb
    clear hb
    clear HS
    obtain ⟨-, rfl, rfl, rfl, rfl, rfl⟩ := N8
    clear P7
    replace B := ballD1 B (.cells #[.bool false, .int .u64 0, .int .u64 0, .int .i64 0] 28)
    have P8 := Lib.hid (show HoldsD (y2.alloc (.cells #[.bool false, .int .u64 0, .int .u64 0, .int .i64 0] 28)) y2.heap.size false 0 0 0 from by simp [HoldsD, go_sem])
    go_upto_region 5 with fail
    obtain ⟨gP8, hg⟩ : ∃ g, g = y2.heap.size := ⟨_, rfl⟩
    rw [← hg] at P8
    rw [← hg]
    generalize y2.alloc (.cells #[.bool false, .int .u64 0, .int .u64 0, .int .i64 0] 28) = V2 at *
    clear hg
    obtain ⟨⟨c3_1, c3_2, c3_3, c3_4⟩, -, c3_9⟩ := P8.out
    have hb4 : decide (m < 1) = true ∨ (decide (m < 1) = false ∧ decide (7 < m) = true) ∨ (decide (m < 1) = false ∧ decide (7 < m) = false ∧ decide (k < -6111) = true) ∨ (decide (m < 1) = false ∧ decide (7 < m) = false ∧ decide (k < -6111) = false ∧ decide (6176 < k) = true) := by
      simp only [decide_eq_true_eq, decide_eq_false_iff_not]; omega
    clear bad
    rcases hb4 with t1 | ⟨t1, t2⟩ | ⟨t1, t2, t3⟩ | ⟨t1, t2, t3, t4⟩
    all_goals
      go_wp2
      go_ret
      exact ⟨rfl, B⟩
  case' pos =>
    obtain ⟨mo, hmo, emo⟩ : ∃ mo : Nat, (mo = 1 ∨ mo = 2 ∨ mo = 3 ∨ mo = 4 ∨ mo = 5 ∨ mo = 6 ∨ mo = 7) ∧ m = (mo : Int) := ⟨m.toNat, by omega, by omega⟩
    obtain ⟨c, hc⟩ : ∃ c, c = nv ah al := ⟨_, rfl⟩
    obtain ⟨y, hy⟩ : ∃ y : Int, -k = y := ⟨_, rfl⟩
    obtain ⟨nn, hnn⟩ : ∃ q : Int, y - ea = q := ⟨_, rfl⟩
    obtain ⟨o, ho⟩ : ∃ o, o = scF mo na c ea y := ⟨_, rfl⟩
    have NM := HN.out.2.1
    rw [← hc] at NM
    have SC0 := scale_any mo hmo na ah al ea k HN.out.1 HN.out.2.1 (by omega) (by omega)
    rw [← hc, hy, ← ho, ← emo] at SC0
    have SC := Lib.hid SC0
    have RF0 := ref_any na ah al ea HN.out.1
    rw [← hc] at RF0
    have RF := Lib.hid RF0
    have c77 : c < 10 ^ 77 := Nat.lt_of_lt_of_le NM.1 (by decide)
    have CU0 : ∀ (ni : Int) (v : Value) (W : World), ni ≤ 90 → Row W v (Dg.dg c) → Calls Tryd.prog 16 #[Fv na v ea, .bool false, .int .i64 ni, .int .i64 m] W (RetF (fun n' v' x' W' => n' = na ∧ x' = ea + (ni.toNat : Int) ∧ Row W' v' (Dg.dg (cutN mo na c ni.toNat false))) W) := by
      intro ni v W hni hr
      rw [emo]
      exact rcut_any mo hmo na v c ea ni _ false rfl (by omega) c77 (by have := NM.2; omega) (.inl rfl) W hr
    have CU := Lib.hid CU0
    have SHF := Lib.hid (fun (j : Nat) (v : Value) (W : World) (hj : j ≤ 40) (hr : Row W v (Dg.dg c)) => shift_any v c j (by omega) (by have : (Dg.dg c).length ≤ 77 := Dg.dg_length_le c77; omega) W hr)
    have SP := Lib.hid (fun Q => scale_plain mo na c ea y nn (by rw [hc]; exact HN.out.2.2) hnn.symm Q)
    have SF := Lib.hid (scale_far mo na c ea y nn hnn.symm)
    rw [← ho] at SP SF
    have t1 : decide (m < 1) = false := decide_eq_false (by omega)
    have t2 : decide (7 < m) = false := decide_eq_false (by omega)
    have t3 : decide (k < -6111) = false := decide_eq_false (by omega)
    have t4 : decide (6176 < k) = false := decide_eq_false (by omega)
    have f1 : wrap64 (-k) = y := by rw [hy]; unfold wrap64; omega
    have f2 : IntKind.i64.wrap (-k) = y := by rw [hy, IntKind.wrap_i64]; omega
    have yb : -6176 ≤ y ∧ y ≤ 6111 := by omega
    have nb : -12287 ≤ nn ∧ nn ≤ 12287 := by have := NM.2; omega
    have f3 : wrap64 (y - ea) = nn := by rw [hnn]; unfold wrap64; omega
    have f4 : IntKind.i64.wrap (y - ea) = nn := by rw [hnn, IntKind.wrap_i64]; omega
    have NB := Lib.hid nb
    clear hc SC0 RF0 CU0 c77 hmo emo ho hnn hy yb nb NM good
    obtain ⟨⟨c2_1, c2_2, c2_3, c2_4⟩, -, c2_9⟩ := P7.out
    go_wp2_with fail
    refine (SC.out _ (HT.out.below B)).mono ?_
    rintro e y2 ⟨n8, h8, l8, x8, k8, N8, rfl, hb⟩
    clear c2_1 c2_2 c2_3 c2_4 c2_9
    replace P7 := Lib.hid (P7.out.below hb)
    replace B := bstep B hb
    clear hb
    clear SC
    have H8 := Lib.hid N8
    clear N8
    replace P7 := Lib.hid (P7.out.alloc (.cells #[.bool n8, .int .u64 (h8 : Int), .int .u64 (l8 : Int), .int .i64 x8] 28))
    replace B := ballD1 B (.cells #[.bool n8, .int .u64 (h8 : Int), .int .u64 (l8 : Int), .int .i64 x8] 28)
    have P8 := Lib.hid (show HoldsD (y2.alloc (.cells #[.bool n8, .int .u64 (h8 : Int), .int .u64 (l8 : Int), .int .i64 x8] 28)) y2.heap.size n8 h8 l8 x8 from by simp [HoldsD, go_sem])
    go_upto_region 5 with fail
    obtain ⟨gP8, hg⟩ : ∃ g, g = y2.heap.size := ⟨_, rfl⟩
    rw [← hg] at P8
    rw [← hg]
    generalize y2.alloc (.cells #[.bool n8, .int .u64 (h8 : Int), .int .u64 (l8 : Int), .int .i64 x8] 28) = V2 at *
    clear hg
    obtain ⟨⟨c3_1, c3_2, c3_3, c3_4⟩, -, c3_9⟩ := P7.out
    go_wp2_with fail
    refine (RF.out _).mono ?_
    rintro e y3 ⟨na', v, ea', ⟨rfl, rfl, RV⟩, rfl, hb⟩
    clear c3_1 c3_2 c3_3 c3_4 c3_9
    replace P7 := Lib.hid (P7.out.below hb)
    replace P8 := Lib.hid (P8.out.below hb)
    replace B := bstep B hb
    clear hb
    clear RF
    have RP := Lib.hid RV
    clear RV
    clear P7
    obtain ⟨VA, VC, rfl⟩ := slice_of RP.out
    have LV := len_nd c
    have ZV := nd_zero_iff c
    generalize (Dg.dg c).length = LVn at *
    replace P8 := Lib.hid (P8.out.alloc (.cells #[.bool na', (.slice VA LVn VC), .int .i64 ea'] 36))
    replace RP := Lib.hid (RP.out.alloc (.cells #[.bool na', (.slice VA LVn VC), .int .i64 ea'] 36))
    replace B := ballD1 B (.cells #[.bool na', (.slice VA LVn VC), .int .i64 ea'] 36)
    have PP := Lib.hid (HoldsF.newF rfl : HoldsF (y3.alloc (.cells #[.bool na', (.slice VA LVn VC), .int .i64 ea'] 36)) y3.heap.size na' (.slice VA LVn VC) ea')
    go_upto_region 8 with fail
    obtain ⟨gPP, hg⟩ : ∃ g, g = y3.heap.size := ⟨_, rfl⟩
    rw [← hg] at PP
    rw [← hg]
    change Code.wp _ _ _ _ (y3.alloc (.cells #[.bool na', (.slice VA LVn VC), .int .i64 ea'] 36))
    generalize y3.alloc (.cells #[.bool na', (.slice VA LVn VC), .int .i64 ea'] 36) = V4 at *
    clear hg
    rcases (show 90 < nn ∨ (0 ≤ nn ∧ nn ≤ 90) ∨ nn < 0 by omega) with q1 | q1 | q1
    · have tq : decide (90 < nn) = true := decide_eq_true q1
      have CX := Lib.hid (fun v W r => CU.out 90 v W (by omega) r)
      have tn : decide ((90 : Int) < 0) = false := by decide
      clear CU
      obtain ⟨⟨c4_1, c4_2, c4_3⟩, -, c4_9⟩ := PP.out
      go_wp2_with fail
      refine (CX.out _ _ RP.out).mono ?_
      rintro e y5 ⟨nq, vq, xq, ⟨eq1, -, RQ0⟩, rfl, hb⟩
      clear c4_1 c4_2 c4_3 c4_9
      replace P8 := Lib.hid (P8.out.below hb)
      replace RP := Lib.hid (RP.out.below hb)
      replace PP := Lib.hid (PP.out.below hb)
      replace B := bstep B hb
      clear hb
      clear CX
      replace eq1 := eq1.symm
      subst eq1
      obtain ⟨Q, hQ⟩ : ∃ Q, Q = cutN mo na' c (90 : Int).toNat false := ⟨_, rfl⟩
      rw [← hQ] at RQ0
      obtain ⟨QA, QC, rfl⟩ := slice_of RQ0
      have RQ := Lib.hid RQ0
      clear RQ0
      generalize hLen : (Dg.dg Q).length = LQn at *
      have lt8 := P8.out.2.2
      have ltP := PP.out.2.2
      have ltB := B.size
      replace P8 := Lib.hid (P8.out.alloc (.cells #[.bool na', (.slice QA LQn QC), .int .i64 xq] 36))
      replace RP := Lib.hid (RP.out.alloc (.cells #[.bool na', (.slice QA LQn QC), .int .i64 xq] 36))
      replace PP := Lib.hid (PP.out.alloc (.cells #[.bool na', (.slice QA LQn QC), .int .i64 xq] 36))
      replace RQ := Lib.hid (RQ.out.alloc (.cells #[.bool na', (.slice QA LQn QC), .int .i64 xq] 36))
      replace B := ballD1 B (.cells #[.bool na', (.slice QA LQn QC), .int .i64 xq] 36)
      have PQ := Lib.hid (HoldsF.newF rfl : HoldsF (y5.alloc (.cells #[.bool na', (.slice QA LQn QC), .int .i64 xq] 36)) y5.heap.size na' (.slice QA LQn QC) xq)
      have BK := Lib.hid (BlkD.new rfl : BlkD (y5.alloc (.cells #[.bool na', (.slice QA LQn QC), .int .i64 xq] 36)) y5.heap.size)
      go_upto_region 12 with fail
      obtain ⟨gPQ, hg⟩ : ∃ g, g = y5.heap.size := ⟨_, rfl⟩
      rw [← hg] at PQ BK lt8 ltB ltP
      rw [← hg]
      change Code.wp _ _ _ _ (y5.alloc (.cells #[.bool na', (.slice QA LQn QC), .int .i64 xq] 36))
      generalize y5.alloc (.cells #[.bool na', (.slice QA LQn QC), .int .i64 xq] 36) = V6 at *
      clear hg
      have ne8 : gP8 ≠ gPQ := Nat.ne_of_lt lt8
      have nePP : gPP ≠ gPQ := Nat.ne_of_lt ltP
      have leQ : w.heap.size ≤ gPQ := ltB
      clear lt8 ltB ltP
      have OFF := Lib.hid (off_of RQ.out BK.out)
      have ZQ := nd_zero_iff Q
      have LQ := len_nd Q
      rw [hLen] at LQ
      obtain ⟨spA, spB⟩ := SP.out Q (.inl ⟨by omega, by rw [hQ, show min nn.toNat 90 = (90 : Int).toNat by omega]⟩)
      have SPA := Lib.hid spA
      have SPB := Lib.hid spB
      clear spA spB SP SF hQ
      by_cases big : 34 < nd Q
      · have tb : decide ((34 : Int) < (LQn : Int)) = true := decide_eq_true (by omega)
        have tb' : decide (34 < LQn) = true := decide_eq_true (by omega)
        obtain rfl := SPA.out big
        obtain ⟨-, rfl, rfl, rfl, rfl, rfl⟩ := H8.out
        clear SPA SPB big ZQ LQ
        obtain ⟨⟨c5_1, c5_2, c5_3⟩, -, c5_9⟩ := PQ.out
        obtain ⟨⟨c6_1, c6_2, c6_3, c6_4⟩, -, c6_9⟩ := P8.out
        go_wp2
        go_ret
        exact ⟨rfl, B⟩
      · have tb : decide ((34 : Int) < (LQn : Int)) = false := decide_eq_false (by omega)
        have tb' : decide (34 < LQn) = false := decide_eq_false (by omega)
        rw [SPB.out (by omega)] at H8
        obtain ⟨h8w, rfl, rfl, h8q, h8x⟩ := H8.out
        replace h8x := h8x.symm
        subst h8x
        have LK := Lib.hid (fun v W (r : Row W v (Dg.dg (nv h8 l8))) => like_yes (na' && !decide (Q = 0)) h8 l8 y v h8w W r)
        rw [h8q] at LK
        clear h8w h8q H8 SPA SPB big
        have zq : decide ((0 : Int) < (LQn : Int)) = !decide (Q = 0) := by rw [LQ]; exact ZQ
        have zq' : decide (0 < LQn) = !decide (Q = 0) := by rw [← zq]; exact decide_eq_decide.2 (by omega)
        clear ZQ LQ
        generalize decide (Q = 0) = dz at *
        obtain ⟨⟨c5_1, c5_2, c5_3⟩, ⟨c5_4, c5_5, c5_6⟩, c5_9⟩ := PQ.out
        go_upto_region 19 with fail
        clear c5_1 c5_2 c5_3 c5_4 c5_5 c5_6 c5_9
        replace PQ := Lib.hid (PQ.out.put2 (y := y))
        replace P8 := Lib.hid (P8.out.far (p := ⟨gPQ, 2, none⟩) ne8 (.int .i64 y))
        replace RQ := Lib.hid (RQ.out.set OFF.out 2 (.int .i64 y))
        replace B := Below.setCell (p := ⟨gPQ, 2, none⟩) B leQ (.int .i64 y)
        change Code.wp _ _ _ _ (V6.setCell ⟨gPQ, 2, none⟩ (.int .i64 y))
        generalize (V6.setCell ⟨gPQ, 2, none⟩ (.int .i64 y)) = S1 at *
        cases na'
        · obtain ⟨⟨c6_1, c6_2, c6_3⟩, ⟨c6_4, c6_5, c6_6⟩, c6_9⟩ := PQ.out
          go_upto_region 20 with fail
          clear c6_1 c6_2 c6_3 c6_4 c6_5 c6_6 c6_9
          replace PQ := Lib.hid (PQ.out.put0 (n' := false))
          replace P8 := Lib.hid (P8.out.far (p := ⟨gPQ, 0, none⟩) ne8 (.bool false))
          replace RQ := Lib.hid (RQ.out.set OFF.out 0 (.bool false))
          replace B := Below.setCell (p := ⟨gPQ, 0, none⟩) B leQ (.bool false)
          change Code.wp _ _ _ _ (S1.setCell ⟨gPQ, 0, none⟩ (.bool false))
          generalize (S1.setCell ⟨gPQ, 0, none⟩ (.bool false)) = S2 at *
          obtain ⟨⟨c7_1, c7_2, c7_3⟩, -, c7_9⟩ := PQ.out
          obtain ⟨⟨c8_1, c8_2, c8_3, c8_4⟩, -, c8_9⟩ := P8.out
          go_wp2_with fail
          refine (LK.out _ _ RQ.out).mono ?_
          rintro e z ⟨rfl, hb⟩
          replace B := bstep B hb
          clear hb LK
          clear c7_1 c7_2 c7_3 c7_9 c8_1 c8_2 c8_3 c8_4 c8_9
          go_wp2
          go_ret
          exact ⟨rfl, B⟩
        · obtain ⟨⟨c6_1, c6_2, c6_3⟩, ⟨c6_4, c6_5, c6_6⟩, c6_9⟩ := PQ.out
          go_upto_region 20 with fail
          clear c6_1 c6_2 c6_3 c6_4 c6_5 c6_6 c6_9
          replace PQ := Lib.hid (PQ.out.put0 (n' := (!dz)))
          replace P8 := Lib.hid (P8.out.far (p := ⟨gPQ, 0, none⟩) ne8 (.bool (!dz)))
          replace RQ := Lib.hid (RQ.out.set OFF.out 0 (.bool (!dz)))
          replace B := Below.setCell (p := ⟨gPQ, 0, none⟩) B leQ (.bool (!dz))
          change Code.wp _ _ _ _ (S1.setCell ⟨gPQ, 0, none⟩ (.bool (!dz)))
          generalize (S1.setCell ⟨gPQ, 0, none⟩ (.bool (!dz))) = S2 at *
          obtain ⟨⟨c7_1, c7_2, c7_3⟩, -, c7_9⟩ := PQ.out
          obtain ⟨⟨c8_1, c8_2, c8_3, c8_4⟩, -, c8_9⟩ := P8.out
          go_wp2_with fail
          refine (LK.out _ _ RQ.out).mono ?_
          rintro e z ⟨rfl, hb⟩
          replace B := bstep B hb
          clear hb LK
          clear c7_1 c7_2 c7_3 c7_9 c8_1 c8_2 c8_3 c8_4 c8_9
          go_wp2
          go_ret
          exact ⟨rfl, B⟩
    · have tq : decide (90 < nn) = false := decide_eq_false (by omega)
      have CX := Lib.hid (fun v W r => CU.out nn v W (by omega) r)
      have tn : decide (nn < 0) = false := decide_eq_false (by omega)
      clear CU
      obtain ⟨⟨c4_1, c4_2, c4_3⟩, -, c4_9⟩ := PP.out
      go_wp2_with fail
      refine (CX.out _ _ RP.out).mono ?_
      rintro e y5 ⟨nq, vq, xq, ⟨eq1, -, RQ0⟩, rfl, hb⟩
      clear c4_1 c4_2 c4_3 c4_9
      replace P8 := Lib.hid (P8.out.below hb)
      replace RP := Lib.hid (RP.out.below hb)
      replace PP := Lib.hid (PP.out.below hb)
      replace B := bstep B hb
      clear hb
      clear CX
      replace eq1 := eq1.symm
      subst eq1
      obtain ⟨Q, hQ⟩ : ∃ Q, Q = cutN mo na' c nn.toNat false := ⟨_, rfl⟩
      rw [← hQ] at RQ0
      obtain ⟨QA, QC, rfl⟩ := slice_of RQ0
      have RQ := Lib.hid RQ0
      clear RQ0
      generalize hLen : (Dg.dg Q).length = LQn at *
      have lt8 := P8.out.2.2
      have ltP := PP.out.2.2
      have ltB := B.size
      replace P8 := Lib.hid (P8.out.alloc (.cells #[.bool na', (.slice QA LQn QC), .int .i64 xq] 36))
      replace RP := Lib.hid (RP.out.alloc (.cells #[.bool na', (.slice QA LQn QC), .int .i64 xq] 36))
      replace PP := Lib.hid (PP.out.alloc (.cells #[.bool na', (.slice QA LQn QC), .int .i64 xq] 36))
      replace RQ := Lib.hid (RQ.out.alloc (.cells #[.bool na', (.slice QA LQn QC), .int .i64 xq] 36))
      replace B := ballD1 B (.cells #[.bool na', (.slice QA LQn QC), .int .i64 xq] 36)
      have PQ := Lib.hid (HoldsF.newF rfl : HoldsF (y5.alloc (.cells #[.bool na', (.slice QA LQn QC), .int .i64 xq] 36)) y5.heap.size na' (.slice QA LQn QC) xq)
      have BK := Lib.hid (BlkD.new rfl : BlkD (y5.alloc (.cells #[.bool na', (.slice QA LQn QC), .int .i64 xq] 36)) y5.heap.size)
      go_upto_region 12 with fail
      obtain ⟨gPQ, hg⟩ : ∃ g, g = y5.heap.size := ⟨_, rfl⟩
      rw [← hg] at PQ BK lt8 ltB ltP
      rw [← hg]
      change Code.wp _ _ _ _ (y5.alloc (.cells #[.bool na', (.slice QA LQn QC), .int .i64 xq] 36))
      generalize y5.alloc (.cells #[.bool na', (.slice QA LQn QC), .int .i64 xq] 36) = V6 at *
      clear hg
      have ne8 : gP8 ≠ gPQ := Nat.ne_of_lt lt8
      have nePP : gPP ≠ gPQ := Nat.ne_of_lt ltP
      have leQ : w.heap.size ≤ gPQ := ltB
      clear lt8 ltB ltP
      have OFF := Lib.hid (off_of RQ.out BK.out)
      have ZQ := nd_zero_iff Q
      have LQ := len_nd Q
      rw [hLen] at LQ
      obtain ⟨spA, spB⟩ := SP.out Q (.inl ⟨q1.1, by rw [hQ, show min nn.toNat 90 = nn.toNat by omega]⟩)
      have SPA := Lib.hid spA
      have SPB := Lib.hid spB
      clear spA spB SP SF hQ
      by_cases big : 34 < nd Q
      · have tb : decide ((34 : Int) < (LQn : Int)) = true := decide_eq_true (by omega)
        have tb' : decide (34 < LQn) = true := decide_eq_true (by omega)
        obtain rfl := SPA.out big
        obtain ⟨-, rfl, rfl, rfl, rfl, rfl⟩ := H8.out
        clear SPA SPB big ZQ LQ
        obtain ⟨⟨c5_1, c5_2, c5_3⟩, -, c5_9⟩ := PQ.out
        obtain ⟨⟨c6_1, c6_2, c6_3, c6_4⟩, -, c6_9⟩ := P8.out
        go_wp2
        go_ret
        exact ⟨rfl, B⟩
      · have tb : decide ((34 : Int) < (LQn : Int)) = false := decide_eq_false (by omega)
        have tb' : decide (34 < LQn) = false := decide_eq_false (by omega)
        rw [SPB.out (by omega)] at H8
        obtain ⟨h8w, rfl, rfl, h8q, h8x⟩ := H8.out
        replace h8x := h8x.symm
        subst h8x
        have LK := Lib.hid (fun v W (r : Row W v (Dg.dg (nv h8 l8))) => like_yes (na' && !decide (Q = 0)) h8 l8 y v h8w W r)
        rw [h8q] at LK
        clear h8w h8q H8 SPA SPB big
        have zq : decide ((0 : Int) < (LQn : Int)) = !decide (Q = 0) := by rw [LQ]; exact ZQ
        have zq' : decide (0 < LQn) = !decide (Q = 0) := by rw [← zq]; exact decide_eq_decide.2 (by omega)
        clear ZQ LQ
        generalize decide (Q = 0) = dz at *
        obtain ⟨⟨c5_1, c5_2, c5_3⟩, ⟨c5_4, c5_5, c5_6⟩, c5_9⟩ := PQ.out
        go_upto_region 19 with fail
        clear c5_1 c5_2 c5_3 c5_4 c5_5 c5_6 c5_9
        replace PQ := Lib.hid (PQ.out.put2 (y := y))
        replace P8 := Lib.hid (P8.out.far (p := ⟨gPQ, 2, none⟩) ne8 (.int .i64 y))
        replace RQ := Lib.hid (RQ.out.set OFF.out 2 (.int .i64 y))
        replace B := Below.setCell (p := ⟨gPQ, 2, none⟩) B leQ (.int .i64 y)
        change Code.wp _ _ _ _ (V6.setCell ⟨gPQ, 2, none⟩ (.int .i64 y))
        generalize (V6.setCell ⟨gPQ, 2, none⟩ (.int .i64 y)) = S1 at *
        cases na'
        · obtain ⟨⟨c6_1, c6_2, c6_3⟩, ⟨c6_4, c6_5, c6_6⟩, c6_9⟩ := PQ.out
          go_upto_region 20 with fail
          clear c6_1 c6_2 c6_3 c6_4 c6_5 c6_6 c6_9
          replace PQ := Lib.hid (PQ.out.put0 (n' := false))
          replace P8 := Lib.hid (P8.out.far (p := ⟨gPQ, 0, none⟩) ne8 (.bool false))
          replace RQ := Lib.hid (RQ.out.set OFF.out 0 (.bool false))
          replace B := Below.setCell (p := ⟨gPQ, 0, none⟩) B leQ (.bool false)
          change Code.wp _ _ _ _ (S1.setCell ⟨gPQ, 0, none⟩ (.bool false))
          generalize (S1.setCell ⟨gPQ, 0, none⟩ (.bool false)) = S2 at *
          obtain ⟨⟨c7_1, c7_2, c7_3⟩, -, c7_9⟩ := PQ.out
          obtain ⟨⟨c8_1, c8_2, c8_3, c8_4⟩, -, c8_9⟩ := P8.out
          go_wp2_with fail
          refine (LK.out _ _ RQ.out).mono ?_
          rintro e z ⟨rfl, hb⟩
          replace B := bstep B hb
          clear hb LK
          clear c7_1 c7_2 c7_3 c7_9 c8_1 c8_2 c8_3 c8_4 c8_9
          go_wp2
          go_ret
          exact ⟨rfl, B⟩
        · obtain ⟨⟨c6_1, c6_2, c6_3⟩, ⟨c6_4, c6_5, c6_6⟩, c6_9⟩ := PQ.out
          go_upto_region 20 with fail
          clear c6_1 c6_2 c6_3 c6_4 c6_5 c6_6 c6_9
          replace PQ := Lib.hid (PQ.out.put0 (n' := (!dz)))
          replace P8 := Lib.hid (P8.out.far (p := ⟨gPQ, 0, none⟩) ne8 (.bool (!dz)))
          replace RQ := Lib.hid (RQ.out.set OFF.out 0 (.bool (!dz)))
          replace B := Below.setCell (p := ⟨gPQ, 0, none⟩) B leQ (.bool (!dz))
          change Code.wp _ _ _ _ (S1.setCell ⟨gPQ, 0, none⟩ (.bool (!dz)))
          generalize (S1.setCell ⟨gPQ, 0, none⟩ (.bool (!dz))) = S2 at *
          obtain ⟨⟨c7_1, c7_2, c7_3⟩, -, c7_9⟩ := PQ.out
          obtain ⟨⟨c8_1, c8_2, c8_3, c8_4⟩, -, c8_9⟩ := P8.out
          go_wp2_with fail
          refine (LK.out _ _ RQ.out).mono ?_
          rintro e z ⟨rfl, hb⟩
          replace B := bstep B hb
          clear hb LK
          clear c7_1 c7_2 c7_3 c7_9 c8_1 c8_2 c8_3 c8_4 c8_9
          go_wp2
          go_ret
          exact ⟨rfl, B⟩
    · have tq : decide (90 < nn) = false := decide_eq_false (by omega)
      have CX := Lib.hid (fun v W r => CU.out nn v W (by omega) r)
      have tn : decide (nn < 0) = true := decide_eq_true (by omega)
      clear CU
      obtain ⟨⟨c4_1, c4_2, c4_3⟩, -, c4_9⟩ := PP.out
      go_wp2_with fail
      refine (CX.out _ _ RP.out).mono ?_
      rintro e y5 ⟨nq, vq, xq, ⟨eq1, -, RQ0⟩, rfl, hb⟩
      clear c4_1 c4_2 c4_3 c4_9
      replace P8 := Lib.hid (P8.out.below hb)
      replace RP := Lib.hid (RP.out.below hb)
      replace PP := Lib.hid (PP.out.below hb)
      replace B := bstep B hb
      clear hb
      clear CX
      replace eq1 := eq1.symm
      subst eq1
      obtain ⟨Q, hQ⟩ : ∃ Q, Q = cutN mo na' c nn.toNat false := ⟨_, rfl⟩
      rw [← hQ] at RQ0
      obtain ⟨QA, QC, rfl⟩ := slice_of RQ0
      have RQ := Lib.hid RQ0
      clear RQ0
      generalize hLen : (Dg.dg Q).length = LQn at *
      have lt8 := P8.out.2.2
      have ltP := PP.out.2.2
      have ltB := B.size
      replace P8 := Lib.hid (P8.out.alloc (.cells #[.bool na', (.slice QA LQn QC), .int .i64 xq] 36))
      replace RP := Lib.hid (RP.out.alloc (.cells #[.bool na', (.slice QA LQn QC), .int .i64 xq] 36))
      replace PP := Lib.hid (PP.out.alloc (.cells #[.bool na', (.slice QA LQn QC), .int .i64 xq] 36))
      replace RQ := Lib.hid (RQ.out.alloc (.cells #[.bool na', (.slice QA LQn QC), .int .i64 xq] 36))
      replace B := ballD1 B (.cells #[.bool na', (.slice QA LQn QC), .int .i64 xq] 36)
      have PQ := Lib.hid (HoldsF.newF rfl : HoldsF (y5.alloc (.cells #[.bool na', (.slice QA LQn QC), .int .i64 xq] 36)) y5.heap.size na' (.slice QA LQn QC) xq)
      have BK := Lib.hid (BlkD.new rfl : BlkD (y5.alloc (.cells #[.bool na', (.slice QA LQn QC), .int .i64 xq] 36)) y5.heap.size)
      go_upto_region 12 with fail
      obtain ⟨gPQ, hg⟩ : ∃ g, g = y5.heap.size := ⟨_, rfl⟩
      rw [← hg] at PQ BK lt8 ltB ltP
      rw [← hg]
      change Code.wp _ _ _ _ (y5.alloc (.cells #[.bool na', (.slice QA LQn QC), .int .i64 xq] 36))
      generalize y5.alloc (.cells #[.bool na', (.slice QA LQn QC), .int .i64 xq] 36) = V6 at *
      clear hg
      have ne8 : gP8 ≠ gPQ := Nat.ne_of_lt lt8
      have nePP : gPP ≠ gPQ := Nat.ne_of_lt ltP
      have leQ : w.heap.size ≤ gPQ := ltB
      clear lt8 ltB ltP
      clear RQ
      clear hQ hLen
      obtain ⟨pn, hpn⟩ : ∃ p, p = -nn := ⟨_, rfl⟩
      have pn1 : wrap64 (-nn) = pn := by have := NB.out; unfold wrap64; omega
      have pn2 : IntKind.i64.wrap (-nn) = pn := by have := NB.out; rw [IntKind.wrap_i64]; omega
      by_cases far : 40 < pn ∧ c ≠ 0
      · have tf : decide (40 < pn) = true := decide_eq_true far.1
        have tz : decide (c = 0) = false := decide_eq_false far.2
        rw [SF.out far.2 (by omega)] at H8
        obtain ⟨-, rfl, rfl, rfl, rfl, rfl⟩ := H8.out
        rw [tz] at ZV
        have zv : decide ((0 : Int) < (LVn : Int)) = true := by rw [LV]; exact ZV
        have zv' : decide (0 < LVn) = true := by rw [← zv]; exact decide_eq_decide.2 (by omega)
        clear far hpn ZV LV SP SF SHF
        obtain ⟨⟨c5_1, c5_2, c5_3⟩, -, c5_9⟩ := PP.out
        obtain ⟨⟨c6_1, c6_2, c6_3, c6_4⟩, -, c6_9⟩ := P8.out
        go_wp2
        go_ret
        exact ⟨rfl, B⟩
      · have near : c = 0 ∨ -nn ≤ 40 := by
          by_cases z : c = 0
          · exact .inl z
          · exact .inr (by rcases Int.lt_or_le 40 pn with u | u; exact absurd ⟨u, z⟩ far; omega)
        have zv : decide ((0 : Int) < (LVn : Int)) = !decide (c = 0) := by rw [LV]; exact ZV
        have zv' : decide (0 < LVn) = !decide (c = 0) := by rw [← zv]; exact decide_eq_decide.2 (by omega)
        have tf : decide (40 < pn) = false ∨ (decide (40 < pn) = true ∧ decide (c = 0) = true) := by
          by_cases u : 40 < pn
          · exact .inr ⟨decide_eq_true u, decide_eq_true (by rcases near with z | z; exact z; omega)⟩
          · exact .inl (decide_eq_false u)
        have mn : ((min pn.toNat 40 : Nat) : Int) = min pn 40 := by have := NB.out; omega
        have mq : min (-nn).toNat 40 = min pn.toNat 40 := by rw [hpn]
        have SHG := Lib.hid (fun v W r => SHF.out (min pn.toNat 40) v W (by omega) r)
        rw [mn] at SHG
        have NEAR := Lib.hid near
        have Q1 := Lib.hid q1
        clear far hpn ZV LV SHF near mn q1
        obtain ⟨⟨c5_1, c5_2, c5_3⟩, -, c5_9⟩ := PP.out
        have tf2 : (decide (40 < pn) && decide (0 < LVn)) = false := by rcases tf with t | ⟨t, u⟩; rw [t]; rfl; rw [zv', u]; simp
        rcases tf with tf | ⟨tf, tz⟩
        case' inr =>
          rw [tz] at zv zv'
          simp only [Bool.not_true] at zv zv'
        all_goals
          go_upto_region 15 with fail
          clear c5_1 c5_2 c5_3 c5_9
          obtain ⟨⟨a1, a2, a3⟩, -, a9⟩ := PP.out
          refine wp_region_held_drew (S := fun w' => w'.cell? ⟨gPP, 0, none⟩ = some (.bool na') ∧ w'.cell? ⟨gPP, 1, none⟩ = some (.slice VA LVn VC) ∧ w'.cell? ⟨gPP, 2, none⟩ = some (.int .i64 ea') ∧ Below w.heap.size w w') (by kernel_rfl) ?_ (fun hHeld => ?_)
          · exact ⟨a1, a2, a3, B.drew⟩
          refine wpAnyH_take (i := 0) (oi := { dst := some 76, op := Go.Op.fieldAddr 36 (Go.Operand.tmp 10) 0, type := 0, pos := "law.go:44", after := #[], guard := none }) (v := ?_) rfl (by kernel_rfl) (by kernel_rfl) (by kernel_rfl) (fun _ _ _ h => h) (Or.inl ⟨by rfl, ?_⟩) (by assumption) ?_
          rotate_left
          · intro w hSw
            try dsimp only at hSw
            go_simp
            try with_reducible rfl
          try simp only [Act.put, List.setIfInBounds_toArray, List.set_cons_zero, List.set_cons_succ]
          refine wpAnyH_take (i := 1) (oi := { dst := some 77, op := Go.Op.load 4 (Go.Operand.tmp 76), type := 4, pos := "law.go:44", after := #[{ on := 0, ground := Go.Ground.data }], guard := none }) (v := ?_) rfl (by kernel_rfl) (by kernel_rfl) (by kernel_rfl) (fun _ _ _ h => h) (Or.inl ⟨by rfl, ?_⟩) (by assumption) ?_
          rotate_left
          · intro w hSw
            try dsimp only at hSw
            go_simp
            try with_reducible rfl
          try simp only [Act.put, List.setIfInBounds_toArray, List.set_cons_zero, List.set_cons_succ]
          refine wpAnyH_take (i := 2) (oi := { dst := some 78, op := Go.Op.fieldAddr 36 (Go.Operand.tmp 10) 1, type := 0, pos := "law.go:44", after := #[], guard := none }) (v := ?_) rfl (by kernel_rfl) (by kernel_rfl) (by kernel_rfl) (fun _ _ _ h => h) (Or.inl ⟨by rfl, ?_⟩) (by assumption) ?_
          rotate_left
          · intro w hSw
            try dsimp only at hSw
            go_simp
            try with_reducible rfl
          try simp only [Act.put, List.setIfInBounds_toArray, List.set_cons_zero, List.set_cons_succ]
          refine wpAnyH_take (i := 3) (oi := { dst := some 79, op := Go.Op.load 34 (Go.Operand.tmp 78), type := 34, pos := "law.go:44", after := #[{ on := 2, ground := Go.Ground.data }], guard := none }) (v := ?_) rfl (by kernel_rfl) (by kernel_rfl) (by kernel_rfl) (fun _ _ _ h => h) (Or.inl ⟨by rfl, ?_⟩) (by assumption) ?_
          rotate_left
          · intro w hSw
            try dsimp only at hSw
            go_simp
            try with_reducible rfl
          try simp only [Act.put, List.setIfInBounds_toArray, List.set_cons_zero, List.set_cons_succ]
          refine wpAnyH_take (i := 4) (oi := { dst := some 80, op := Go.Op.move (Go.Operand.tmp 11), type := 3, pos := "law.go:44", after := #[], guard := none }) (v := ?_) rfl (by kernel_rfl) (by kernel_rfl) (by kernel_rfl) (fun _ _ _ h => h) (Or.inl ⟨by rfl, ?_⟩) (by assumption) ?_
          rotate_left
          · intro w hSw
            try dsimp only at hSw
            go_simp
            try with_reducible rfl
          try simp only [Act.put, List.setIfInBounds_toArray, List.set_cons_zero, List.set_cons_succ]
          refine wpAnyH_take (i := 5) (oi := { dst := some 81, op := Go.Op.unOp Go.UnOp.neg 3 (Go.Operand.tmp 80), type := 3, pos := "law.go:44", after := #[{ on := 4, ground := Go.Ground.data }], guard := none }) (v := ?_) rfl (by kernel_rfl) (by kernel_rfl) (by kernel_rfl) (fun _ _ _ h => h) (Or.inl ⟨by rfl, ?_⟩) (by assumption) ?_
          rotate_left
          · intro w hSw
            try dsimp only at hSw
            go_simp
            try with_reducible rfl
          try simp only [Act.put, List.setIfInBounds_toArray, List.set_cons_zero, List.set_cons_succ]
          refine wpAnyH_take (i := 6) (oi := { dst := some 82, op := Go.Op.call { callee := Go.Callee.builtin Go.Builtin.min, args := #[Go.Operand.tmp 81, Go.Operand.const (Go.Value.int Go.IntKind.i64 40)], argTypes := #[3, 3] }, type := 3, pos := "law.go:44", after := #[{ on := 5, ground := Go.Ground.data }], guard := none }) (v := ?_) rfl (by kernel_rfl) (by kernel_rfl) (by kernel_rfl) (fun _ _ _ h => h) (Or.inl ⟨by rfl, ?_⟩) (by assumption) ?_
          rotate_left
          · intro w hSw
            try dsimp only at hSw
            go_simp
            try with_reducible rfl
          try simp only [Act.put, List.setIfInBounds_toArray, List.set_cons_zero, List.set_cons_succ]
          refine wpAnyH_ready (rs := [7]) (by kernel_rfl) (by simp) ?_
          refine AllReadyH.cons (o := { dst := some 83, op := Go.Op.call { callee := Go.Callee.value (Go.Operand.func 17), args := #[Go.Operand.tmp 79, Go.Operand.tmp 82], argTypes := #[34, 3] }, type := 34, pos := "law.go:44", after := #[{ on := 3, ground := Go.Ground.data }, { on := 6, ground := Go.Ground.data }], guard := none }) rfl (fun K hK => ?_) AllReadyH.nil
          go_simp
          refine (SHG.out _ V6.drew RP.out).mono ?_
          rintro e v1 ⟨vS, rfl, RS, hbv0⟩
          obtain ⟨SA, SCp, rfl⟩ := slice_of RS
          have hbv := bundrew hbv0
          have HBx := Lib.hid (bstep hHeld.2.2.2 hbv0)
          have RQ := Lib.hid RS
          have OFF := Lib.hid (off_of RS (BK.out.below hbv))
          replace PQ := Lib.hid (PQ.out.below hbv)
          replace P8 := Lib.hid (P8.out.below hbv)
          have b1 := keepCell2 a1 hbv
          have b2 := keepCell2 a2 hbv
          have b3 := keepCell2 a3 hbv
          clear hHeld RS hbv hbv0 a1 a2 a3 BK
          refine hK.out _ _ ?_ (fun hHeld => ?_)
          · exact ⟨b1, b2, b3, HBx.out⟩
          clear hK K
          try simp only [Act.put, List.setIfInBounds_toArray, List.set_cons_zero, List.set_cons_succ]
          refine wpAnyH_take (i := 8) (oi := { dst := some 84, op := Go.Op.build 36 #[(0, Go.Operand.tmp 77), (1, Go.Operand.tmp 83)], type := 36, pos := "law.go:44", after := #[{ on := 1, ground := Go.Ground.data }, { on := 7, ground := Go.Ground.data }], guard := none }) (v := ?_) rfl (by kernel_rfl) (by kernel_rfl) (by kernel_rfl) (fun _ _ _ h => h) (Or.inl ⟨by rfl, ?_⟩) (by assumption) ?_
          rotate_left
          · intro w hSw
            try dsimp only at hSw
            go_simp
            try with_reducible rfl
          try simp only [Act.put, List.setIfInBounds_toArray, List.set_cons_zero, List.set_cons_succ]
          have nPP := Lib.hid nePP
          obtain ⟨⟨d1, d2, d3⟩, ⟨d4, d5, d6⟩, d9⟩ := id PQ.out
          refine wpAnyH_ready (rs := [9]) (by kernel_rfl) (by simp) ?_
          refine AllReadyH.cons (o := { dst := none, op := Go.Op.store 36 (Go.Operand.tmp 12) (Go.Operand.tmp 84), type := 0, pos := "law.go:44", after := #[{ on := 8, ground := Go.Ground.data }, { on := 7, ground := Go.Ground.chain }, { on := 0, ground := Go.Ground.phase }, { on := 1, ground := Go.Ground.phase }, { on := 2, ground := Go.Ground.phase }, { on := 3, ground := Go.Ground.phase }, { on := 4, ground := Go.Ground.phase }, { on := 5, ground := Go.Ground.phase }, { on := 6, ground := Go.Ground.phase }, { on := 7, ground := Go.Ground.phase }, { on := 8, ground := Go.Ground.phase }], guard := none }) rfl (fun K hK => ?_) AllReadyH.nil
          go_simp
          clear d1 d2 d3 d4 d5 d6 d9 hHeld
          refine hK.out _ _ ?_ (fun hHeld => ?_)
          · exact ⟨keepSet (keepSet (keepSet b1 (p := ⟨gPQ, 0, none⟩) nPP.out) (p := ⟨gPQ, 1, none⟩) nPP.out) (p := ⟨gPQ, 2, none⟩) nPP.out, keepSet (keepSet (keepSet b2 (p := ⟨gPQ, 0, none⟩) nPP.out) (p := ⟨gPQ, 1, none⟩) nPP.out) (p := ⟨gPQ, 2, none⟩) nPP.out, keepSet (keepSet (keepSet b3 (p := ⟨gPQ, 0, none⟩) nPP.out) (p := ⟨gPQ, 1, none⟩) nPP.out) (p := ⟨gPQ, 2, none⟩) nPP.out, Below.setCell (p := ⟨gPQ, 2, none⟩) (Below.setCell (p := ⟨gPQ, 1, none⟩) (Below.setCell (p := ⟨gPQ, 0, none⟩) HBx.out leQ _) leQ _) leQ _⟩
          clear hK K HBx b1 b2 b3
          try simp only [Act.put, List.setIfInBounds_toArray, List.set_cons_zero, List.set_cons_succ]
          refine wpAnyH_done (by kernel_rfl) ?_ _
          have B9 := Lib.hid hHeld.2.2.2
          clear hHeld B
          have B := B9.out
          clear B9
          replace PQ := Lib.hid (PQ.out.put3 (n' := na') (v' := .slice SA (Dg.dg (c * 10 ^ min pn.toNat 40)).length SCp) (y := 0))
          replace P8 := Lib.hid (((P8.out.far (p := ⟨gPQ, 0, none⟩) ne8 (.bool na')).far (p := ⟨gPQ, 1, none⟩) ne8 (.slice SA (Dg.dg (c * 10 ^ min pn.toNat 40)).length SCp)).far (p := ⟨gPQ, 2, none⟩) ne8 (.int .i64 0))
          have OFF0 := OFF
          clear OFF
          replace RQ := Lib.hid (RQ.out.set3 OFF0.out (.bool na') (.slice SA (Dg.dg (c * 10 ^ min pn.toNat 40)).length SCp) (.int .i64 0))
          generalize (((v1.setCell ⟨gPQ, 0, none⟩ (.bool na')).setCell ⟨gPQ, 1, none⟩ (.slice SA (Dg.dg (c * 10 ^ min pn.toNat 40)).length SCp)).setCell ⟨gPQ, 2, none⟩ (.int .i64 0)) = U1 at *
          clear RP PP SHG
          obtain ⟨Q, hQ⟩ : ∃ Q, Q = c * 10 ^ min pn.toNat 40 := ⟨_, rfl⟩
          rw [← hQ] at RQ OFF0 PQ
          rw [← hQ]
          have OFF := Lib.hid OFF0.out
          generalize hLen : (Dg.dg Q).length = LQn at *
          obtain ⟨QA, hQA⟩ : ∃ q, q = SA := ⟨_, rfl⟩
          obtain ⟨QC, hQC⟩ : ∃ q, q = SCp := ⟨_, rfl⟩
          subst hQA hQC
          have ZQ := nd_zero_iff Q
          have LQ := len_nd Q
          rw [hLen] at LQ
          obtain ⟨spA, spB⟩ := SP.out Q (.inr ⟨Q1.out, NEAR.out, by rw [hQ, mq]⟩)
          have SPA := Lib.hid spA
          have SPB := Lib.hid spB
          clear spA spB SP SF hQ
          by_cases big : 34 < nd Q
          · have tb : decide ((34 : Int) < (LQn : Int)) = true := decide_eq_true (by omega)
            have tb' : decide (34 < LQn) = true := decide_eq_true (by omega)
            obtain rfl := SPA.out big
            obtain ⟨-, rfl, rfl, rfl, rfl, rfl⟩ := H8.out
            clear SPA SPB big ZQ LQ
            obtain ⟨⟨c6_1, c6_2, c6_3⟩, -, c6_9⟩ := PQ.out
            obtain ⟨⟨c7_1, c7_2, c7_3, c7_4⟩, -, c7_9⟩ := P8.out
            go_wp2
            go_ret
            exact ⟨rfl, B⟩
          · have tb : decide ((34 : Int) < (LQn : Int)) = false := decide_eq_false (by omega)
            have tb' : decide (34 < LQn) = false := decide_eq_false (by omega)
            rw [SPB.out (by omega)] at H8
            obtain ⟨h8w, rfl, rfl, h8q, h8x⟩ := H8.out
            replace h8x := h8x.symm
            subst h8x
            have LK := Lib.hid (fun v W (r : Row W v (Dg.dg (nv h8 l8))) => like_yes (na' && !decide (Q = 0)) h8 l8 y v h8w W r)
            rw [h8q] at LK
            clear h8w h8q H8 SPA SPB big
            have zq : decide ((0 : Int) < (LQn : Int)) = !decide (Q = 0) := by rw [LQ]; exact ZQ
            have zq' : decide (0 < LQn) = !decide (Q = 0) := by rw [← zq]; exact decide_eq_decide.2 (by omega)
            clear ZQ LQ
            generalize decide (Q = 0) = dz at *
            obtain ⟨⟨c6_1, c6_2, c6_3⟩, ⟨c6_4, c6_5, c6_6⟩, c6_9⟩ := PQ.out
            go_upto_region 19 with fail
            clear c6_1 c6_2 c6_3 c6_4 c6_5 c6_6 c6_9
            replace PQ := Lib.hid (PQ.out.put2 (y := y))
            replace P8 := Lib.hid (P8.out.far (p := ⟨gPQ, 2, none⟩) ne8 (.int .i64 y))
            replace RQ := Lib.hid (RQ.out.set OFF.out 2 (.int .i64 y))
            replace B := Below.setCell (p := ⟨gPQ, 2, none⟩) B leQ (.int .i64 y)
            change Code.wp _ _ _ _ (U1.setCell ⟨gPQ, 2, none⟩ (.int .i64 y))
            generalize (U1.setCell ⟨gPQ, 2, none⟩ (.int .i64 y)) = S1 at *
            cases na'
            · obtain ⟨⟨c7_1, c7_2, c7_3⟩, ⟨c7_4, c7_5, c7_6⟩, c7_9⟩ := PQ.out
              go_upto_region 20 with fail
              clear c7_1 c7_2 c7_3 c7_4 c7_5 c7_6 c7_9
              replace PQ := Lib.hid (PQ.out.put0 (n' := false))
              replace P8 := Lib.hid (P8.out.far (p := ⟨gPQ, 0, none⟩) ne8 (.bool false))
              replace RQ := Lib.hid (RQ.out.set OFF.out 0 (.bool false))
              replace B := Below.setCell (p := ⟨gPQ, 0, none⟩) B leQ (.bool false)
              change Code.wp _ _ _ _ (S1.setCell ⟨gPQ, 0, none⟩ (.bool false))
              generalize (S1.setCell ⟨gPQ, 0, none⟩ (.bool false)) = S2 at *
              obtain ⟨⟨c8_1, c8_2, c8_3⟩, -, c8_9⟩ := PQ.out
              obtain ⟨⟨c9_1, c9_2, c9_3, c9_4⟩, -, c9_9⟩ := P8.out
              go_wp2_with fail
              refine (LK.out _ _ RQ.out).mono ?_
              rintro e z ⟨rfl, hb⟩
              replace B := bstep B hb
              clear hb LK
              clear c8_1 c8_2 c8_3 c8_9 c9_1 c9_2 c9_3 c9_4 c9_9
              go_wp2
              go_ret
              exact ⟨rfl, B⟩
            · obtain ⟨⟨c7_1, c7_2, c7_3⟩, ⟨c7_4, c7_5, c7_6⟩, c7_9⟩ := PQ.out
              go_upto_region 20 with fail
              clear c7_1 c7_2 c7_3 c7_4 c7_5 c7_6 c7_9
              replace PQ := Lib.hid (PQ.out.put0 (n' := (!dz)))
              replace P8 := Lib.hid (P8.out.far (p := ⟨gPQ, 0, none⟩) ne8 (.bool (!dz)))
              replace RQ := Lib.hid (RQ.out.set OFF.out 0 (.bool (!dz)))
              replace B := Below.setCell (p := ⟨gPQ, 0, none⟩) B leQ (.bool (!dz))
              change Code.wp _ _ _ _ (S1.setCell ⟨gPQ, 0, none⟩ (.bool (!dz)))
              generalize (S1.setCell ⟨gPQ, 0, none⟩ (.bool (!dz))) = S2 at *
              obtain ⟨⟨c8_1, c8_2, c8_3⟩, -, c8_9⟩ := PQ.out
              obtain ⟨⟨c9_1, c9_2, c9_3, c9_4⟩, -, c9_9⟩ := P8.out
              go_wp2_with fail
              refine (LK.out _ _ RQ.out).mono ?_
              rintro e z ⟨rfl, hb⟩
              replace B := bstep B hb
              clear hb LK
              clear c8_1 c8_2 c8_3 c8_9 c9_1 c9_2 c9_3 c9_4 c9_9
              go_wp2
              go_ret
              exact ⟨rfl, B⟩
end Go.Proofs.YtncpdoeikebomaaDoor

/-
  The document's examples (awake), as a contract of its call.
-/
import Derived.Test.YtlcpbmjipplcdaaDoorK
namespace Go.Proofs.YtlcpbmjipplcdaaDoor
open Go.RowKit

theorem of_int (x : Int) (w : World) : Calls Tryd.prog 50 #[.int .u64 x] w fun e w' => e = .returned (.agg #[.int .u64 0, .int .u64 x]) ∧ ∃ c, w' = w.alloc (.cells c 24) := by
  go_enter Tryd.func50, Tryd.ntmps50
  go_wp2
  go_returns
  exact ⟨rfl, _, rfl⟩

theorem words_eq {h l h' l' a b c d : Nat} (f1 : WW h l) (f2 : WW h' l') (g1 : WW a b) (g2 : WW c d) (e : nv2 h l h' l' = nv2 a b c d) : (h = a ∧ l = b) ∧ h' = c ∧ l' = d := by
  have p1 := nv_lt f2
  have p2 := nv_lt g2
  unfold nv2 at e
  have q : nv h l = nv a b ∧ nv h' l' = nv c d := by
    generalize nv h l = x at *
    generalize nv h' l' = y at *
    generalize nv a b = z at *
    generalize nv c d = t at *
    unfold B128 at *
    omega
  exact ⟨nv_inj f1 g1 q.1, nv_inj f2 g2 q.2⟩

theorem mul_top (w : World) : Calls Tryd.prog 31 #[.agg #[.int .u64 18446744073709551615, .int .u64 18446744073709551615], .agg #[.int .u64 18446744073709551615, .int .u64 18446744073709551615]] w fun e w' =>
    e = .returned (.tuple #[.agg #[.int .u64 18446744073709551615, .int .u64 18446744073709551614], .agg #[.int .u64 0, .int .u64 1]]) ∧ Below w.heap.size w w' := by
  refine (mul_any 18446744073709551615 18446744073709551615 18446744073709551615 18446744073709551615 ⟨by decide, by decide⟩ ⟨by decide, by decide⟩ w).mono ?_
  rintro e w' ⟨h, l, h', l', ⟨f1, f2, f3⟩, rfl, hb⟩
  obtain ⟨⟨rfl, rfl⟩, rfl, rfl⟩ := words_eq (a := 18446744073709551615) (b := 18446744073709551614) (c := 0) (d := 1) f1 f2 ⟨by decide, by decide⟩ ⟨by decide, by decide⟩ (f3.trans (by decide +kernel))
  exact ⟨rfl, hb⟩

theorem div_third (w : World) : Calls Tryd.prog 11 #[.agg #[.int .u64 0, .int .u64 1], .agg #[.int .u64 0, .int .u64 0], .agg #[.int .u64 0, .int .u64 3]] w fun e w' =>
    e = .returned (.tuple #[.agg #[.int .u64 6148914691236517205, .int .u64 6148914691236517205], .agg #[.int .u64 0, .int .u64 1], .bool true]) ∧ Below w.heap.size w w' := by
  refine (div_low 0 1 0 0 3 ⟨by decide, by decide⟩ ⟨by decide, by decide⟩ (by decide) (by decide) w).mono ?_
  rintro e w' ⟨h, l, h', l', ⟨f1, f2, f3, f4⟩, rfl, hb⟩
  have hr : nv h' l' < 3 := f3
  have e4 : nv h l * 3 + nv h' l' = 340282366920938463463374607431768211456 := f4
  have q1 : nv h l = nv 6148914691236517205 6148914691236517205 := by
    show nv h l = 113427455640312821154458202477256070485
    omega
  have q2 : nv h' l' = nv 0 1 := by
    show nv h' l' = 1
    omega
  obtain ⟨rfl, rfl⟩ := nv_inj f1 ⟨by decide, by decide⟩ q1
  obtain ⟨rfl, rfl⟩ := nv_inj f2 ⟨by decide, by decide⟩ q2
  exact ⟨rfl, hb⟩

theorem root_ten (w : World) : Calls Tryd.prog 51 #[.agg #[.int .u64 0, .int .u64 0], .agg #[.int .u64 0, .int .u64 10]] w fun e w' =>
    e = .returned (.tuple #[.agg #[.int .u64 0, .int .u64 3], .bool false]) ∧ Below w.heap.size w w' := by
  refine (root_any 0 0 0 10 ⟨by decide, by decide⟩ ⟨by decide, by decide⟩ w).mono ?_
  rintro e w' ⟨h, l, b, ⟨f1, f2, f3, f4⟩, rfl, hb⟩
  have e2 : nv h l * nv h l ≤ 10 := f2
  have e3 : 10 < (nv h l + 1) * (nv h l + 1) := f3
  have q : nv h l = nv 0 3 := by
    show nv h l = 3
    generalize nv h l = x at *
    have : x < 4 := by
      rcases Nat.lt_or_ge x 4 with k | k
      · exact k
      · have := Nat.mul_le_mul k k; omega
    have : x = 0 ∨ x = 1 ∨ x = 2 ∨ x = 3 := by omega
    rcases this with rfl | rfl | rfl | rfl <;> omega
  obtain ⟨rfl, rfl⟩ := nv_inj f1 ⟨by decide, by decide⟩ q
  have hb' : b = false := by
    cases b
    · rfl
    · have := f4.1 rfl
      revert this
      decide
  subst hb'
  exact ⟨rfl, hb⟩

theorem ten38' (w : World) (ht : Tab w) : Calls Tryd.prog 20 #[.int .i64 38] w fun e w' => e = .returned (.tuple #[.agg #[.int .u64 5421010862427522170, .int .u64 687399551400673280], .bool true]) ∧ Below w.heap.size w w' := ten38_any w ht
theorem digits38' (w : World) (ht : Tab w) : Calls Tryd.prog 27 #[.agg #[.int .u64 0, .int .u64 0], .agg #[.int .u64 5421010862427522170, .int .u64 687399551400673280]] w fun e w' => e = .returned (.int .i64 39) ∧ Below w.heap.size w w' := digitsTop38_any w ht
end Go.Proofs.YtlcpbmjipplcdaaDoor

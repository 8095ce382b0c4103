/-
  Several texts in one: each one's own remark stands ahead of it.
-/
import Derived.Test.YtkkddflclakphaaDoorPe
import Derived.Test.YtkkddflclakphaaDoorAc
import Derived.Test.YtkkddflclakphaaDoorEs
import Derived.Test.YtkkddflclakphaaDoorWid
import Derived.RegionTactic
import Derived.Deep.RegionHeld3
import Derived.Test.YtkkddflclakphaaDoorUall
import Derived.Test.YtkkddflclakphaaDoorEa
/-
  Numbers of so many places by plain arithmetic: what a number is rounded to by each mode; no program is spoken of.
-/
namespace Go.Proofs.YtkkddflclakphaaDoor

/-- How many steps a size is, rounded; none, if there are too many noughts behind it. -/
def scN (m : Nat) (neg : Bool) (c : Nat) (x y : Int) : Option Nat :=
  if x < y then some (cutN m neg c (y - x).toNat false) else if x - y ≤ 38 then some (c * 10 ^ (x - y).toNat) else none
/-- A number with the exponent y. -/
def scF (m : Nat) (neg : Bool) (c : Nat) (x y : Int) : Option (Bool × Nat × Int) :=
  if c = 0 then some (false, 0, y) else match scN m neg c x y with
    | none => none
    | some N => if nd N ≤ 34 then some (neg && !decide (N = 0), N, y) else none

theorem drop_iff (N n : Nat) : (dropD N n = 0 ∧ dropM N n false = false) ↔ N % 10 ^ n = 0 := by
  unfold dropD dropM
  rcases Nat.eq_zero_or_pos n with z | z
  · subst z
    simp [Nat.mod_one]
  · obtain ⟨k, rfl⟩ : ∃ k, n = k + 1 := ⟨n - 1, by omega⟩
    rw [if_neg (by omega), Nat.add_sub_cancel, Nat.pow_succ, Nat.mod_mul, Bool.false_or]
    have := p10 k
    constructor
    · rintro ⟨a, b⟩
      have b' : N % 10 ^ k = 0 := by simpa using b
      rw [a, b']
      rfl
    · intro h
      have h1 : N % 10 ^ k = 0 := by omega
      have h2 : 10 ^ k * (N / 10 ^ k % 10) = 0 := by omega
      refine ⟨?_, by simp [h1]⟩
      rcases Nat.mul_eq_zero.mp h2 with k | k
      · omega
      · exact k
/-- Whether something is dropped. -/
theorem up_of {m : Nat} {neg : Bool} {N n : Nat} (h : N % 10 ^ min n 78 = 0) : upN m neg N n false = false := by
  obtain ⟨a, b⟩ := (drop_iff N (min n 78)).2 h
  unfold upN
  rw [a, b, goUp_none]
theorem up_floor {neg : Bool} {N n : Nat} (h : N % 10 ^ min n 78 ≠ 0) : upN 6 neg N n false = neg := by
  unfold upN goUp
  have k : (decide (dropD N (min n 78) = 0) && !dropM N (min n 78) false) = false := by
    cases e : (decide (dropD N (min n 78) = 0) && !dropM N (min n 78) false)
    · rfl
    · exact absurd ((drop_iff N (min n 78)).1 (by simpa using e)) h
  rw [k]
  rfl
theorem up_ceil {neg : Bool} {N n : Nat} (h : N % 10 ^ min n 78 ≠ 0) : upN 7 neg N n false = !neg := by
  unfold upN goUp
  have k : (decide (dropD N (min n 78) = 0) && !dropM N (min n 78) false) = false := by
    cases e : (decide (dropD N (min n 78) = 0) && !dropM N (min n 78) false)
    · rfl
    · exact absurd ((drop_iff N (min n 78)).1 (by simpa using e)) h
  rw [k]
  rfl
theorem up_down {neg : Bool} {N n : Nat} : upN 5 neg N n false = false := by
  unfold upN goUp
  split <;> rfl
theorem lt34_256 {c : Nat} (h : c < 10 ^ 34) : c < B128 * B128 := Nat.lt_of_lt_of_le h (by unfold B128; decide)
/-- What is cut off: nothing, or a part of a step. -/
theorem cut_between {c k : Nat} (hc : c < 10 ^ 34) : (c % 10 ^ min k 78 = 0 ∧ c / 10 ^ min k 78 * 10 ^ k = c) ∨ (c % 10 ^ min k 78 ≠ 0 ∧ c / 10 ^ min k 78 * 10 ^ k < c ∧ c < (c / 10 ^ min k 78 + 1) * 10 ^ k) := by
  have e : c / 10 ^ min k 78 = c / 10 ^ k := div_min (lt34_256 hc)
  have r : c % 10 ^ min k 78 = c % 10 ^ k := by
    rcases Nat.le_total k 78 with z | z
    · rw [Nat.min_eq_left z]
    · rw [Nat.min_eq_right z, Nat.mod_eq_of_lt (Nat.lt_of_lt_of_le hc (by decide)), Nat.mod_eq_of_lt (Nat.lt_of_lt_of_le (Nat.lt_of_lt_of_le hc (show 10 ^ 34 ≤ 10 ^ 78 by decide)) (p10_mono z))]
  rw [e, r]
  have d := Nat.div_add_mod c (10 ^ k)
  have l := Nat.mod_lt c (p10 k)
  rw [Nat.mul_comm] at d
  have s := Nat.succ_mul (c / 10 ^ k) (10 ^ k)
  by_cases z : c % 10 ^ k = 0
  · exact .inl ⟨z, by omega⟩
  · refine .inr ⟨z, by omega, ?_⟩
    rw [show (c / 10 ^ k + 1) * 10 ^ k = c / 10 ^ k * 10 ^ k + 10 ^ k from s]
    omega
theorem vlZ_sign (neg : Bool) (N : Nat) (y : Int) : vlZ (neg && !decide (N = 0)) N y = if neg then -(szN N y : Int) else (szN N y : Int) := by
  unfold vlZ
  by_cases z : N = 0
  · subst z
    rw [szN_zero]
    cases neg <;> rfl
  · rw [decide_eq_false z]
    cases neg <;> rfl
theorem scF_self {m : Nat} {neg : Bool} {N : Nat} {y : Int} (h : nd N ≤ 34) : scF m (neg && !decide (N = 0)) N y y = some (neg && !decide (N = 0), N, y) := by
  unfold scF
  by_cases z : N = 0
  · rw [if_pos z, z]
    cases neg <;> rfl
  · rw [if_neg z]
    unfold scN
    rw [if_neg (by omega), if_pos (by omega), show (y - y).toNat = 0 by omega, Nat.pow_zero, Nat.mul_one]
    show (if nd N ≤ 34 then _ else _) = _
    rw [if_pos h, decide_eq_false z]
    cases neg <;> rfl
/-- What a number of so many places is: a number with that exponent. -/
theorem scF_num {m : Nat} {neg : Bool} {c : Nat} {x y : Int} {s : Bool} {N : Nat} {e : Int} (h : scF m neg c x y = some (s, N, e)) (y1 : -6176 ≤ y) (y2 : y ≤ 6111) : NumD N e ∧ (N = 0 → s = false) ∧ e = y ∧ nd N ≤ 34 := by
  unfold scF at h
  by_cases z : c = 0
  · rw [if_pos z] at h
    simp only [Option.some.injEq, Prod.mk.injEq] at h
    obtain ⟨rfl, rfl, rfl⟩ := h
    exact ⟨⟨by decide, y1, y2⟩, fun _ => rfl, rfl, by rw [nd_zero]; omega⟩
  · rw [if_neg z] at h
    split at h
    · exact absurd h (by simp)
    · rename_i M _
      split at h
      · rename_i q
        simp only [Option.some.injEq, Prod.mk.injEq] at h
        obtain ⟨rfl, rfl, rfl⟩ := h
        refine ⟨⟨Nat.lt_of_lt_of_le (nd_lt M) (p10_mono q), y1, y2⟩, fun k => ?_, rfl, q⟩
        rw [decide_eq_true k]
        cases neg <;> rfl
      · exact absurd h (by simp)
/-- By each mode a number lies between its floor's and its ceiling's, and is one of both. -/
theorem scale_three {m : Nat} {neg : Bool} {c : Nat} {x y : Int} {s1 s2 : Bool} {N1 N2 : Nat} {e1 e2 : Int} (h : NumD c x) (zc : c = 0 → neg = false) (y1 : -6176 ≤ y)
    (h1 : scF 6 neg c x y = some (s1, N1, e1)) (h2 : scF 7 neg c x y = some (s2, N2, e2)) :
    (scF m neg c x y = some (s1, N1, e1) ∨ scF m neg c x y = some (s2, N2, e2)) ∧ vlZ s1 N1 e1 ≤ vlZ neg c x ∧ vlZ neg c x ≤ vlZ s2 N2 e2 := by
  unfold scF at h1 h2
  by_cases z : c = 0
  · rw [if_pos z] at h1 h2
    simp only [Option.some.injEq, Prod.mk.injEq] at h1 h2
    obtain ⟨rfl, rfl, rfl⟩ := h1
    obtain ⟨rfl, rfl, rfl⟩ := h2
    have v : ∀ t : Int, vlZ false 0 t = 0 := by intro t; unfold vlZ; rw [szN_zero]; rfl
    rw [zc z, z, v, v]
    refine ⟨.inl ?_, Int.le_refl _, Int.le_refl _⟩
    unfold scF
    rw [if_pos rfl]
  · rw [if_neg z] at h1 h2
    by_cases xy : x < y
    · obtain ⟨k, hk⟩ : ∃ k : Nat, k = (y - x).toNat := ⟨_, rfl⟩
      have n1 : ∀ m, scN m neg c x y = some (cutN m neg c k false) := by intro m; unfold scN; rw [if_pos xy, hk]
      rw [n1] at h1 h2
      simp only [] at h1 h2
      have m1 : scF m neg c x y = if nd (cutN m neg c k false) ≤ 34 then some (neg && !decide (cutN m neg c k false = 0), cutN m neg c k false, y) else none := by
        unfold scF
        rw [if_neg z, n1]
      have sz : ∀ q, szN q y = szN (q * 10 ^ k) x := by intro q; rw [hk]; exact szN_down h.2.1 (by omega)
      rcases cut_between (k := k) h.1 with ⟨r, e⟩ | ⟨r, e, e'⟩
      · have cc : ∀ m, cutN m neg c k false = c / 10 ^ min k 78 := by intro m; unfold cutN; rw [up_of r]; simp
        rw [cc] at h1 h2 m1
        generalize c / 10 ^ min k 78 = q at *
        split at h1
        · rename_i nq
          rw [if_pos nq] at h2 m1
          simp only [Option.some.injEq, Prod.mk.injEq] at h1 h2
          obtain ⟨rfl, rfl, rfl⟩ := h1
          obtain ⟨rfl, rfl, rfl⟩ := h2
          refine ⟨.inl m1, ?_, ?_⟩ <;> rw [vlZ_sign, sz, e] <;> unfold vlZ <;> exact Int.le_refl _
        · exact absurd h1 (by simp)
      · have c6 : cutN 6 neg c k false = c / 10 ^ min k 78 + (if neg then 1 else 0) := by unfold cutN; rw [up_floor r]
        have c7 : cutN 7 neg c k false = c / 10 ^ min k 78 + (if !neg then 1 else 0) := by unfold cutN; rw [up_ceil r]
        have cm : cutN m neg c k false = c / 10 ^ min k 78 ∨ cutN m neg c k false = c / 10 ^ min k 78 + 1 := by
          unfold cutN
          split
          · exact .inr rfl
          · exact .inl rfl
        rw [c6] at h1
        rw [c7] at h2
        generalize c / 10 ^ min k 78 = q at *
        have l1 : szN q y ≤ szN c x := by rw [sz]; exact szN_mono (Nat.le_of_lt e) x
        have l2 : szN c x ≤ szN (q + 1) y := by rw [sz]; exact szN_mono (Nat.le_of_lt e') x
        cases neg
        · simp only [Bool.false_eq_true, if_false, Nat.add_zero, Bool.not_false, if_true, Bool.false_and] at h1 h2 m1
          split at h1
          · rename_i nq
            split at h2
            · rename_i nq'
              simp only [Option.some.injEq, Prod.mk.injEq] at h1 h2
              obtain ⟨rfl, rfl, rfl⟩ := h1
              obtain ⟨rfl, rfl, rfl⟩ := h2
              refine ⟨?_, ?_, ?_⟩
              · rcases cm with k | k
                · rw [k, if_pos nq] at m1
                  exact .inl m1
                · rw [k, if_pos nq'] at m1
                  exact .inr m1
              · unfold vlZ; simp only [Bool.false_eq_true, if_false]; omega
              · unfold vlZ; simp only [Bool.false_eq_true, if_false]; omega
            · exact absurd h2 (by simp)
          · exact absurd h1 (by simp)
        · simp only [Bool.false_eq_true, if_false, Nat.add_zero, Bool.not_true, if_true] at h1 h2 m1
          split at h1
          · rename_i nq
            split at h2
            · rename_i nq'
              simp only [Option.some.injEq, Prod.mk.injEq] at h1 h2
              obtain ⟨rfl, rfl, rfl⟩ := h1
              obtain ⟨rfl, rfl, rfl⟩ := h2
              refine ⟨?_, ?_, ?_⟩
              · rcases cm with k | k
                · rw [k, if_pos nq'] at m1
                  exact .inr m1
                · rw [k, if_pos nq] at m1
                  exact .inl m1
              · rw [vlZ_sign]; unfold vlZ; simp only [if_true]; omega
              · rw [vlZ_sign]; unfold vlZ; simp only [if_true]; omega
            · exact absurd h2 (by simp)
          · exact absurd h1 (by simp)
    · have n1 : ∀ m, scN m neg c x y = if x - y ≤ 38 then some (c * 10 ^ (x - y).toNat) else none := by intro m; unfold scN; rw [if_neg xy]
      have m1 : scF m neg c x y = match (if x - y ≤ 38 then some (c * 10 ^ (x - y).toNat) else none) with
          | none => none
          | some N => if nd N ≤ 34 then some (neg && !decide (N = 0), N, y) else none := by
        unfold scF
        rw [if_neg z, n1]
      rw [n1] at h1 h2
      by_cases f : x - y ≤ 38
      · rw [if_pos f] at h1 h2 m1
        simp only [] at h1 h2 m1
        rw [h1] at h2
        refine ⟨.inl (m1.trans h1), ?_⟩
        split at h1
        · simp only [Option.some.injEq, Prod.mk.injEq] at h1 h2
          obtain ⟨rfl, rfl, rfl⟩ := h2
          obtain ⟨rfl, rfl, rfl⟩ := h1
          have v : szN (c * 10 ^ (x - y).toNat) y = szN c x := (szN_down y1 (by omega)).symm
          rw [vlZ_sign, v]
          unfold vlZ
          exact ⟨Int.le_refl _, Int.le_refl _⟩
        · exact absurd h1 (by simp)
      · rw [if_neg f] at h1
        exact absurd h1 (by simp)
end Go.Proofs.YtkkddflclakphaaDoor

/-
  Which places and modes there may be (mayBePlaces, isMode of package round), how many steps a size is (steps), each as a contract of its call.
-/
namespace Go.Proofs.YtkkddflclakphaaDoor
open Go.RowKit

set_option maxHeartbeats 400000 in
theorem places_yes (k : Int) (h1 : -6111 ≤ k) (h2 : k ≤ 6176) (w : World) : Calls Tryd.prog 87 #[.int .i64 k] w (RetB true w) := by
  have t1 : decide (-6111 ≤ k) = true := decide_eq_true h1
  have t2 : decide (k ≤ 6176) = true := decide_eq_true h2
  clear h1 h2
  go_enter Tryd.func87, Tryd.ntmps87
  go_wp2
  go_ret
  exact ⟨rfl, Below.refl _ _⟩
set_option maxHeartbeats 400000 in
theorem places_no (k : Int) (h : k < -6111 ∨ 6176 < k) (w : World) : Calls Tryd.prog 87 #[.int .i64 k] w (RetB false w) := by
  rcases h with h | h
  · have t1 : decide (-6111 ≤ k) = false := decide_eq_false (by omega)
    clear h
    go_enter Tryd.func87, Tryd.ntmps87
    go_wp2
    go_ret
    exact ⟨rfl, Below.refl _ _⟩
  · have t1 : decide (-6111 ≤ k) = true := decide_eq_true (by omega)
    have t2 : decide (k ≤ 6176) = false := decide_eq_false (by omega)
    clear h
    go_enter Tryd.func87, Tryd.ntmps87
    go_wp2
    go_ret
    exact ⟨rfl, Below.refl _ _⟩
set_option maxHeartbeats 400000 in
theorem mode_yes (k : Int) (h1 : 1 ≤ k) (h2 : k ≤ 7) (w : World) : Calls Tryd.prog 88 #[.int .i64 k] w (RetB true w) := by
  have t1 : decide (1 ≤ k) = true := decide_eq_true h1
  have t2 : decide (k ≤ 7) = true := decide_eq_true h2
  clear h1 h2
  go_enter Tryd.func88, Tryd.ntmps88
  go_wp2
  go_ret
  exact ⟨rfl, Below.refl _ _⟩
set_option maxHeartbeats 400000 in
theorem mode_no (k : Int) (h : k < 1 ∨ 7 < k) (w : World) : Calls Tryd.prog 88 #[.int .i64 k] w (RetB false w) := by
  rcases h with h | h
  · have t1 : decide (1 ≤ k) = false := decide_eq_false (by omega)
    clear h
    go_enter Tryd.func88, Tryd.ntmps88
    go_wp2
    go_ret
    exact ⟨rfl, Below.refl _ _⟩
  · have t1 : decide (1 ≤ k) = true := decide_eq_true (by omega)
    have t2 : decide (k ≤ 7) = false := decide_eq_false (by omega)
    clear h
    go_enter Tryd.func88, Tryd.ntmps88
    go_wp2
    go_ret
    exact ⟨rfl, Below.refl _ _⟩

def RetUUk (F : Nat → Nat → Nat → Nat → Bool → Prop) (w : World) (e : Ending) (w' : World) : Prop := ∃ h l h' l' ok, F h l h' l' ok ∧ e = .returned (.tuple #[U h l, U h' l', .bool ok]) ∧ Below w.heap.size w w'
/-- How many steps it is. -/
def StepsF (o : Option Nat) (h l h' l' : Nat) (ok : Bool) : Prop := match o with
  | some N => WW h l ∧ WW h' l' ∧ nv2 h l h' l' = N ∧ ok = true
  | none => WW h l ∧ WW h' l' ∧ ok = false

set_option maxRecDepth 100000 in
set_option maxHeartbeats 4000000 in
theorem steps_cut (m : Nat) (hm : m = 1 ∨ m = 2 ∨ m = 3 ∨ m = 4 ∨ m = 5 ∨ m = 6 ∨ m = 7) (na : Bool) (ah al : Nat) (x y : Int) (ha : WW ah al) (h1 : NumD (nv ah al) x) (y2 : y ≤ 6111) (xy : x < y) (w : World) (ht : Tab w) :
    Calls Tryd.prog 89 #[Dv na ah al x, .int .i64 y, .int .i64 (m : Int)] w (RetUUk (StepsF (scN m na (nv ah al) x y)) w) := by
  have HT := Lib.hid ht
  have e0 : scN m na (nv ah al) x y = some (cutN m na (nv ah al) (y - x).toNat false) := by unfold scN; rw [if_pos xy]
  rw [e0]
  have t1 : decide (x < y) = true := decide_eq_true xy
  obtain ⟨k, hk⟩ : ∃ k : Int, k = y - x := ⟨_, rfl⟩
  have e1 : IntKind.i64.wrap (y - x) = k := by rw [IntKind.wrap_i64, hk]; have := h1.2; omega
  have e2 : wrap64 k = k := by unfold wrap64; have := h1.2; omega
  have e4 : IntKind.i64.wrap k = k := by rw [IntKind.wrap_i64]; have := h1.2; omega
  have e3 : y - x = k := hk.symm
  have CU := Lib.hid (cut_any m hm na 0 0 ah al x false k.toNat ww0 ha (by have := h1.2; omega) (by have := h1.2; omega) (by have := h1.2; omega) (by
    rw [nv2_low]
    exact Nat.lt_of_le_of_lt (Nat.add_le_add_right (Nat.div_le_self _ _) 1) (Nat.lt_of_le_of_lt h1.1 (by unfold B128; decide))))
  rw [nv2_low, show ((k.toNat : Nat) : Int) = k by have := h1.2; omega] at CU
  rw [show (y - x).toNat = k.toNat by rw [hk]]
  generalize cutN m na (nv ah al) k.toNat false = N at *
  obtain ⟨mi, hmi⟩ : ∃ i : Int, i = (m : Int) := ⟨_, rfl⟩
  rw [← hmi] at CU ⊢
  clear ht ha h1 y2 xy e0 hk hm hmi
  go_enter Tryd.func89, Tryd.ntmps89
  go_wp2_with fail
  have B : Below w.heap.size w (((w.alloc (.cells #[.bool na, .int .u64 (ah : Int), .int .u64 (al : Int), .int .i64 x] 34)).alloc (.cells #[.int .u64 0, .int .u64 0] 31)).alloc (.cells #[.int .u64 0, .int .u64 0] 31)) := by go_grown
  refine (CU.out _ (HT.out.below B)).mono ?_
  rintro e y1 ⟨n', h, l, h', l', x', more', ⟨rfl, W1, W2, eN, ex, rfl⟩, rfl, hb⟩
  have RES := Lib.hid (And.intro W1 (And.intro W2 eN))
  have P6 := Lib.hid ((show Holds2 _ (w.heap.size + 1) 0 0 from by simp [Holds2, go_sem]).below hb)
  have P7 := Lib.hid ((show Holds2 _ (w.heap.size + 1 + 1) 0 0 from by simp [Holds2, go_sem]).below hb)
  replace B := bstep B hb
  clear hb CU W1 W2 eN ex
  have s6 : w.heap.size + 1 + 1 < y1.heap.size := P7.out.2.2.2.2
  replace P6 := Lib.hid (P6.out.alloc (.cells #[.bool n', .int .u64 (h : Int), .int .u64 (l : Int), .int .u64 (h' : Int), .int .u64 (l' : Int), .int .i64 x', .bool false] 72))
  replace P7 := Lib.hid (P7.out.alloc (.cells #[.bool n', .int .u64 (h : Int), .int .u64 (l : Int), .int .u64 (h' : Int), .int .u64 (l' : Int), .int .i64 x', .bool false] 72))
  have P9 := Lib.hid (show HoldsW (y1.alloc (.cells #[.bool n', .int .u64 (h : Int), .int .u64 (l : Int), .int .u64 (h' : Int), .int .u64 (l' : Int), .int .i64 x', .bool false] 72)) y1.heap.size n' h l h' l' x' false from by simp [HoldsW, go_sem])
  replace B := ballD1 B (.cells #[.bool n', .int .u64 (h : Int), .int .u64 (l : Int), .int .u64 (h' : Int), .int .u64 (l' : Int), .int .i64 x', .bool false] 72)
  go_upto_region 3 with fail
  obtain ⟨g, hg⟩ : ∃ g, g = y1.heap.size := ⟨_, rfl⟩
  rw [← hg] at P9 s6
  rw [← hg]
  generalize y1.alloc (.cells #[.bool n', .int .u64 (h : Int), .int .u64 (l : Int), .int .u64 (h' : Int), .int .u64 (l' : Int), .int .i64 x', .bool false] 72) = V at *
  clear hg
  have n6 : g ≠ w.heap.size + 1 := by omega
  have n7 : g ≠ w.heap.size + 1 + 1 := by omega
  obtain ⟨⟨a1, a2, a3, a4, a5, a6, a7⟩, -, a15⟩ := P9.out
  obtain ⟨b1, b2, b3, b4, b5⟩ := P6.out
  obtain ⟨c1, c2, c3, c4, c5⟩ := P7.out
  go_wp2
  go_region
  all_goals
    go_wp2
    clear a1 a2 a3 a4 a5 a6 a7 a15 b1 b2 b3 b4 b5 c1 c2 c3 c4 c5
    refine ret_via (fun VF => Holds2 VF (w.heap.size + 1) h l ∧ Holds2 VF (w.heap.size + 1 + 1) h' l') (fun VF hq => ?_) ⟨?_, ?_⟩ rfl ⟨h, l, h', l', true, ⟨RES.out.1, RES.out.2.1, RES.out.2.2, rfl⟩, rfl, ?_⟩
    · obtain ⟨⟨d1, d2, -, -, -⟩, ⟨f1, f2, -, -, -⟩⟩ := hq
      simp [results, Tryd.results89, go_sem, d1, d2, f1, f2]
    · repeat' (first | (with_reducible exact P6.out) | (with_reducible refine Holds2.put (a := 0) (b := 0) ?_) | (with_reducible refine Holds2.drew ?_) | (with_reducible refine Holds2.far ?_ ?_ _) | (show _ ≠ _; (try dsimp only); omega))
    · repeat' (first | (with_reducible exact P7.out) | (with_reducible refine Holds2.put (a := 0) (b := 0) ?_) | (with_reducible refine Holds2.drew ?_) | (with_reducible refine Holds2.far ?_ ?_ _) | (show _ ≠ _; (try dsimp only); omega))
    · repeat' (first | (with_reducible exact B) | (with_reducible refine Below.drew ?_) | (with_reducible refine Below.set1' ?_ _ _ ?_ _) | omega)

set_option maxRecDepth 100000 in
set_option maxHeartbeats 4000000 in
theorem steps_up (m : Int) (na : Bool) (ah al : Nat) (x y : Int) (ha : WW ah al) (o : Option Nat) (th tl : Nat) (ok : Bool) (wt : WW th tl) (xy : y ≤ x) (k : Int) (hk : x - y = k) (k2 : k ≤ 20000)
    (TN : ∀ w : World, Tab w → Calls Tryd.prog 31 #[.int .i64 k] w fun e w' => e = .returned (.tuple #[U th tl, .bool ok]) ∧ Below w.heap.size w w')
    (HO : ∀ h l h' l', ProdF ah al th tl h l h' l' → StepsF o h l h' l' ok) (w : World) (ht : Tab w) :
    Calls Tryd.prog 89 #[Dv na ah al x, .int .i64 y, .int .i64 m] w (RetUUk (StepsF o) w) := by
  have HT := Lib.hid ht
  have HH := Lib.hid HO
  have TE := Lib.hid TN
  have t1 : decide (x < y) = false := decide_eq_false (by omega)
  have e4 : IntKind.i64.wrap k = k := by rw [IntKind.wrap_i64]; omega
  have e2 : wrap64 k = k := by unfold wrap64; omega
  have MU := Lib.hid (mul_any ah al th tl ha wt)
  clear ht HO TN xy ha wt k2
  go_enter Tryd.func89, Tryd.ntmps89
  go_wp2_with fail
  have B : Below w.heap.size w (((w.alloc (.cells #[.bool na, .int .u64 (ah : Int), .int .u64 (al : Int), .int .i64 x] 34)).alloc (.cells #[.int .u64 0, .int .u64 0] 31)).alloc (.cells #[.int .u64 0, .int .u64 0] 31)) := by go_grown
  refine (TE.out _ (HT.out.below B)).mono ?_
  rintro e y1 ⟨rfl, hb⟩
  have P3 := Lib.hid ((show HoldsD _ w.heap.size na ah al x from by simp [HoldsD, go_sem]).below hb)
  have P6 := Lib.hid ((show Holds2 _ (w.heap.size + 1) 0 0 from by simp [Holds2, go_sem]).below hb)
  have P7 := Lib.hid ((show Holds2 _ (w.heap.size + 1 + 1) 0 0 from by simp [Holds2, go_sem]).below hb)
  replace B := bstep B hb
  clear hb TE
  have s6 : w.heap.size + 1 + 1 < y1.heap.size := P7.out.2.2.2.2
  replace P3 := Lib.hid (P3.out.alloc (.cells #[.int .u64 (th : Int), .int .u64 (tl : Int)] 31))
  replace P6 := Lib.hid (P6.out.alloc (.cells #[.int .u64 (th : Int), .int .u64 (tl : Int)] 31))
  replace P7 := Lib.hid (P7.out.alloc (.cells #[.int .u64 (th : Int), .int .u64 (tl : Int)] 31))
  have P10 := Lib.hid (Holds2.new2 rfl : Holds2 (y1.alloc (.cells #[.int .u64 (th : Int), .int .u64 (tl : Int)] 31)) y1.heap.size th tl)
  replace B := ballD1 B (.cells #[.int .u64 (th : Int), .int .u64 (tl : Int)] 31)
  go_upto_region 5 with fail
  obtain ⟨g, hg⟩ : ∃ g, g = y1.heap.size := ⟨_, rfl⟩
  rw [← hg] at P10 s6
  rw [← hg]
  generalize y1.alloc (.cells #[.int .u64 (th : Int), .int .u64 (tl : Int)] 31) = V at *
  clear hg
  obtain ⟨⟨a1, a2, a3, a4⟩, -, a9⟩ := P3.out
  obtain ⟨b1, b2, -, -, b5⟩ := P10.out
  go_wp2_with fail
  refine (MU.out _).mono ?_
  rintro e y2 ⟨h, l, h', l', PF, rfl, hb⟩
  have RES := Lib.hid (HH.out h l h' l' PF)
  replace P6 := Lib.hid (((P6.out.below hb).alloc (.cells #[.int .u64 (h : Int), .int .u64 (l : Int)] 31)).alloc (.cells #[.int .u64 (h' : Int), .int .u64 (l' : Int)] 31))
  have s7 : w.heap.size + 1 + 1 < y2.heap.size := (P7.out.below hb).2.2.2.2
  replace P7 := Lib.hid (((P7.out.below hb).alloc (.cells #[.int .u64 (h : Int), .int .u64 (l : Int)] 31)).alloc (.cells #[.int .u64 (h' : Int), .int .u64 (l' : Int)] 31))
  have P12 := Lib.hid (Holds2.alloc (Holds2.new2 rfl) _ : Holds2 ((y2.alloc (.cells #[.int .u64 (h : Int), .int .u64 (l : Int)] 31)).alloc (.cells #[.int .u64 (h' : Int), .int .u64 (l' : Int)] 31)) y2.heap.size h l)
  have P13 := Lib.hid (Holds2.new2 (by simp) : Holds2 ((y2.alloc (.cells #[.int .u64 (h : Int), .int .u64 (l : Int)] 31)).alloc (.cells #[.int .u64 (h' : Int), .int .u64 (l' : Int)] 31)) (y2.heap.size + 1) h' l')
  replace B := ballD1 (ballD1 (bstep B hb) (.cells #[.int .u64 (h : Int), .int .u64 (l : Int)] 31)) (.cells #[.int .u64 (h' : Int), .int .u64 (l' : Int)] 31)
  clear hb PF HH MU a1 a2 a3 a4 a9 b1 b2 b5 P3 P10
  go_upto_region 6 with fail
  obtain ⟨q, hq⟩ : ∃ g, g = y2.heap.size := ⟨_, rfl⟩
  rw [← hq] at P12 P13 s7
  rw [← hq]
  generalize (y2.alloc (.cells #[.int .u64 (h : Int), .int .u64 (l : Int)] 31)).alloc (.cells #[.int .u64 (h' : Int), .int .u64 (l' : Int)] 31) = V2 at *
  clear hq
  have n6 : q ≠ w.heap.size + 1 := by omega
  have n7 : q ≠ w.heap.size + 1 + 1 := by omega
  have n8 : q + 1 ≠ w.heap.size + 1 := by omega
  have n9 : q + 1 ≠ w.heap.size + 1 + 1 := by omega
  obtain ⟨a1, a2, -, -, a5⟩ := P12.out
  obtain ⟨d1, d2, -, -, d5⟩ := P13.out
  obtain ⟨b1, b2, b3, b4, b5⟩ := P6.out
  obtain ⟨c1, c2, c3, c4, c5⟩ := P7.out
  go_wp2
  go_region
  all_goals
    go_wp2
    clear a1 a2 a5 d1 d2 d5 b1 b2 b3 b4 b5 c1 c2 c3 c4 c5
    refine ret_via (fun VF => Holds2 VF (w.heap.size + 1) h l ∧ Holds2 VF (w.heap.size + 1 + 1) h' l') (fun VF hq => ?_) ⟨?_, ?_⟩ rfl ⟨h, l, h', l', ok, RES.out, rfl, ?_⟩
    · obtain ⟨⟨d1, d2, -, -, -⟩, ⟨f1, f2, -, -, -⟩⟩ := hq
      simp [results, Tryd.results89, go_sem, d1, d2, f1, f2]
    · repeat' (first | (with_reducible exact P6.out) | (with_reducible refine Holds2.put (a := 0) (b := 0) ?_) | (with_reducible refine Holds2.drew ?_) | (with_reducible refine Holds2.far ?_ ?_ _) | (show _ ≠ _; (try dsimp only); omega))
    · repeat' (first | (with_reducible exact P7.out) | (with_reducible refine Holds2.put (a := 0) (b := 0) ?_) | (with_reducible refine Holds2.drew ?_) | (with_reducible refine Holds2.far ?_ ?_ _) | (show _ ≠ _; (try dsimp only); omega))
    · repeat' (first | (with_reducible exact B) | (with_reducible refine Below.drew ?_) | (with_reducible refine Below.set1' ?_ _ _ ?_ _) | omega)

theorem ten_fix (k : Nat) (hk : k ≤ 38) : ∃ th tl : Nat, TenF k th tl ∧ ∀ w : World, Tab w → Calls Tryd.prog 31 #[.int .i64 (k : Int)] w fun e w' => e = .returned (.tuple #[U th tl, .bool true]) ∧ Below w.heap.size w w' := by
  have l : 10 ^ k < B128 := Nat.lt_of_le_of_lt (p10_mono hk) (by unfold B128; decide)
  unfold B128 at l
  have T : TenF k (10 ^ k / 18446744073709551616) (10 ^ k % 18446744073709551616) := by
    refine ⟨⟨?_, ?_⟩, ?_⟩
    · omega
    · omega
    · unfold nv
      omega
  refine ⟨_, _, T, fun w ht => (ten_yes k hk w ht).mono ?_⟩
  rintro e w' ⟨h, l, P, rfl, hb⟩
  obtain ⟨rfl, rfl⟩ := nv_inj P.1 T.1 (P.2.trans T.2.symm)
  exact ⟨rfl, hb⟩
theorem steps_any (m : Nat) (hm : m = 1 ∨ m = 2 ∨ m = 3 ∨ m = 4 ∨ m = 5 ∨ m = 6 ∨ m = 7) (na : Bool) (ah al : Nat) (x y : Int) (ha : WW ah al) (h1 : NumD (nv ah al) x) (y1 : -6176 ≤ y) (y2 : y ≤ 6111) (w : World) (ht : Tab w) :
    Calls Tryd.prog 89 #[Dv na ah al x, .int .i64 y, .int .i64 (m : Int)] w (RetUUk (StepsF (scN m na (nv ah al) x y)) w) := by
  by_cases xy : x < y
  · exact steps_cut m hm na ah al x y ha h1 y2 xy w ht
  · have h2 := h1.2
    by_cases k38 : x - y ≤ 38
    · obtain ⟨th, tl, T, TN⟩ := ten_fix (x - y).toNat (by omega)
      rw [show (((x - y).toNat : Nat) : Int) = x - y by omega] at TN
      have e0 : scN m na (nv ah al) x y = some (nv ah al * 10 ^ (x - y).toNat) := by unfold scN; rw [if_neg xy, if_pos k38]
      rw [e0]
      exact steps_up (m : Int) na ah al x y ha (some (nv ah al * 10 ^ (x - y).toNat)) th tl true T.1 (by omega) (x - y) rfl (by omega) TN (fun h l h' l' P => ⟨P.1, P.2.1, by rw [P.2.2, T.2], rfl⟩) w ht
    · have e0 : scN m na (nv ah al) x y = none := by unfold scN; rw [if_neg xy, if_neg k38]
      rw [e0]
      exact steps_up (m : Int) na ah al x y ha none 0 0 false ww0 (by omega) (x - y) rfl (by omega) (fun w _ => ten_no (x - y) (by omega) w) (fun h l h' l' P => ⟨P.1, P.2.1, rfl⟩) w ht
end Go.Proofs.YtkkddflclakphaaDoor

/-
  A number of so many places (Scale of package round), as a contract of its call.
-/
namespace Go.Proofs.YtkkddflclakphaaDoor
open Go.RowKit

theorem keepSet4 {W : World} {g o : Nat} {v : Value} (h : W.cell? ⟨g, o, none⟩ = some v) {k : Nat} {v0 v1 v2 v3 : Value} (hp : g ≠ k) : ((((W.setCell ⟨k, 0, none⟩ v0).setCell ⟨k, 1, none⟩ v1).setCell ⟨k, 2, none⟩ v2).setCell ⟨k, 3, none⟩ v3).cell? ⟨g, o, none⟩ = some v :=
  keepSet (p := ⟨k, 3, none⟩) (keepSet (p := ⟨k, 2, none⟩) (keepSet (p := ⟨k, 1, none⟩) (keepSet (p := ⟨k, 0, none⟩) h hp) hp) hp) hp
theorem keep3 {W w' : World} {g0 o0 g1 o1 g2 o2 : Nat} {v0 v1 v2 : Value} (hb : Below W.heap.size W w') (h : W.cell? ⟨g0, o0, none⟩ = some v0 ∧ W.cell? ⟨g1, o1, none⟩ = some v1 ∧ W.cell? ⟨g2, o2, none⟩ = some v2) : w'.cell? ⟨g0, o0, none⟩ = some v0 ∧ w'.cell? ⟨g1, o1, none⟩ = some v1 ∧ w'.cell? ⟨g2, o2, none⟩ = some v2 := ⟨keepCell2 h.1 hb, keepCell2 h.2.1 hb, keepCell2 h.2.2 hb⟩
theorem keep3d {W : World} {g0 o0 g1 o1 g2 o2 : Nat} {v0 v1 v2 : Value} (h : W.cell? ⟨g0, o0, none⟩ = some v0 ∧ W.cell? ⟨g1, o1, none⟩ = some v1 ∧ W.cell? ⟨g2, o2, none⟩ = some v2) : W.drew.cell? ⟨g0, o0, none⟩ = some v0 ∧ W.drew.cell? ⟨g1, o1, none⟩ = some v1 ∧ W.drew.cell? ⟨g2, o2, none⟩ = some v2 := h
theorem keep3s4 {W : World} {g0 o0 g1 o1 g2 o2 k : Nat} {v0 v1 v2 u0 u1 u2 u3 : Value} (n0 : g0 ≠ k) (n1 : g1 ≠ k) (n2 : g2 ≠ k) (h : W.cell? ⟨g0, o0, none⟩ = some v0 ∧ W.cell? ⟨g1, o1, none⟩ = some v1 ∧ W.cell? ⟨g2, o2, none⟩ = some v2) : ((((W.setCell ⟨k, 0, none⟩ u0).setCell ⟨k, 1, none⟩ u1).setCell ⟨k, 2, none⟩ u2).setCell ⟨k, 3, none⟩ u3).cell? ⟨g0, o0, none⟩ = some v0 ∧ ((((W.setCell ⟨k, 0, none⟩ u0).setCell ⟨k, 1, none⟩ u1).setCell ⟨k, 2, none⟩ u2).setCell ⟨k, 3, none⟩ u3).cell? ⟨g1, o1, none⟩ = some v1 ∧ ((((W.setCell ⟨k, 0, none⟩ u0).setCell ⟨k, 1, none⟩ u1).setCell ⟨k, 2, none⟩ u2).setCell ⟨k, 3, none⟩ u3).cell? ⟨g2, o2, none⟩ = some v2 := ⟨keepSet4 h.1 n0, keepSet4 h.2.1 n1, keepSet4 h.2.2 n2⟩
theorem steps_small {h l h' l' N : Nat} (_h1 : WW h l) (h2 : WW h' l') (e : nv2 h l h' l' = N) (d : nd N ≤ 34) : nv h' l' = N := by
  have k : N < 10 ^ 34 := Nat.lt_of_lt_of_le (nd_lt N) (p10_mono d)
  have lB : N < B128 := Nat.lt_of_lt_of_le k (by unfold B128; decide)
  have := nv_lt h2
  unfold nv2 at e
  rcases Nat.eq_zero_or_pos (nv h l) with z | z
  · rw [z] at e
    omega
  · have : B128 ≤ nv h l * B128 := Nat.le_mul_of_pos_left _ z
    omega
theorem scF_zero (m : Nat) (na : Bool) {c : Nat} (x y : Int) (z : c = 0) : scF m na c x y = some (false, 0, y) := by unfold scF; rw [if_pos z]
theorem scF_none {m : Nat} {na : Bool} {c : Nat} {x y : Int} (z : c ≠ 0) (h : scN m na c x y = none) : scF m na c x y = none := by unfold scF; rw [if_neg z, h]
theorem scF_some {m : Nat} {na : Bool} {c : Nat} {x y : Int} {N : Nat} (z : c ≠ 0) (h : scN m na c x y = some N) (d : nd N ≤ 34) : scF m na c x y = some (na && !decide (N = 0), N, y) := by unfold scF; rw [if_neg z, h]; simp only [if_pos d]
theorem scF_much {m : Nat} {na : Bool} {c : Nat} {x y : Int} {N : Nat} (z : c ≠ 0) (h : scN m na c x y = some N) (d : ¬ nd N ≤ 34) : scF m na c x y = none := by unfold scF; rw [if_neg z, h]; simp only [if_neg d]

set_option maxRecDepth 100000 in
set_option maxHeartbeats 4000000 in
theorem scale_any (m : Nat) (hm : m = 1 ∨ m = 2 ∨ m = 3 ∨ m = 4 ∨ m = 5 ∨ m = 6 ∨ m = 7) (na : Bool) (ah al : Nat) (x k : Int) (ha : WW ah al) (h1 : NumD (nv ah al) x) (k1 : -6111 ≤ k) (k2 : k ≤ 6176) (w : World) (ht : Tab w) :
    Calls Tryd.prog 64 #[Dv na ah al x, .int .i64 k, .int .i64 (m : Int)] w (RetDO (scF m na (nv ah al) x (-k)) w) := by
  have HT := Lib.hid ht
  have PL := Lib.hid (places_yes k k1 k2)
  have MO := Lib.hid (mode_yes (m : Int) (by omega) (by omega))
  obtain ⟨y, hy⟩ : ∃ y : Int, -k = y := ⟨_, rfl⟩
  rw [hy]
  have e1 : IntKind.i64.wrap y = y := by rw [IntKind.wrap_i64]; omega
  have e2 : wrap64 y = y := by unfold wrap64; omega
  have ST := Lib.hid (steps_any m hm na ah al x y ha h1 (by omega) (by omega))
  have ZD := Lib.hid (zeroD_any na ah al x)
  obtain ⟨mi, hmi⟩ : ∃ i : Int, i = (m : Int) := ⟨_, rfl⟩
  rw [← hmi] at ST MO ⊢
  clear ht ha h1 k1 k2 hm hmi
  go_enter Tryd.func64, Tryd.ntmps64
  go_wp2_with fail
  refine (PL.out _).mono ?_
  rintro e w1 ⟨rfl, hb⟩
  have P3 := Lib.hid ((show HoldsD _ w.heap.size na ah al x from by simp [HoldsD, go_sem]).below hb)
  have P6 := Lib.hid ((show HoldsD _ (w.heap.size + 1) false 0 0 0 from by simp [HoldsD, go_sem]).below hb)
  have B : Below w.heap.size w w1 := bstep (by go_grown) hb
  clear hb PL
  go_wp2_with fail
  refine (MO.out _).mono ?_
  rintro e w2 ⟨rfl, hb⟩
  replace P3 := Lib.hid (P3.out.below hb)
  replace P6 := Lib.hid (P6.out.below hb)
  replace B := bstep B hb
  clear hb MO
  go_upto_region 4 with fail
  obtain ⟨⟨a1, a2, a3, a4⟩, -, a9⟩ := P3.out
  by_cases z : nv ah al = 0
  · rw [decide_eq_true z] at ZD
    have RES := Lib.hid (show NumO (scF m na (nv ah al) x y) false 0 0 y true from by rw [scF_zero m na x y z]; exact ⟨ww0, rfl, rfl, rfl, rfl⟩)
    clear ST z
    go_wp2_with fail
    refine (ZD.out _).mono ?_
    rintro e w3 ⟨rfl, hb⟩
    replace P6 := Lib.hid (P6.out.below hb)
    replace B := bstep B hb
    clear hb ZD a1 a2 a3 a4 a9 P3
    obtain ⟨⟨d1, d2, d3, d4⟩, ⟨d5, d6, d7, d8⟩, d9⟩ := P6.out
    go_wp2
    clear d1 d2 d3 d4 d5 d6 d7 d8 d9
    refine ret_via (fun VF => HoldsD VF (w.heap.size + 1) false 0 0 y) (fun VF hq => ?_) (HoldsD.put4 P6.out) rfl ⟨_, _, _, _, _, RES.out, rfl, Below.set1' (Below.set1' (Below.set1' (Below.set1' B _ _ (Nat.le_succ _) _) _ _ (Nat.le_succ _) _) _ _ (Nat.le_succ _) _) _ _ (Nat.le_succ _) _⟩
    obtain ⟨⟨d1, d2, d3, d4⟩, -, -⟩ := hq
    simp [results, Tryd.results64, go_sem, d1, d2, d3, d4]
  · rw [decide_eq_false z] at ZD
    have HZ := Lib.hid z
    clear z
    go_wp2_with fail
    refine (ZD.out _).mono ?_
    rintro e w3 ⟨rfl, hb⟩
    replace P3 := Lib.hid (P3.out.below hb)
    replace P6 := Lib.hid (P6.out.below hb)
    replace B := bstep B hb
    clear hb ZD a1 a2 a3 a4 a9
    obtain ⟨⟨a1, a2, a3, a4⟩, -, a9⟩ := P3.out
    go_wp2_with fail
    refine (ST.out _ (HT.out.below B)).mono ?_
    rintro e w4 ⟨h, l, h', l', ok, SF, rfl, hb⟩
    have HS := Lib.hid SF
    have s6 : w.heap.size + 1 < w4.heap.size := (P6.out.below hb).2.2
    replace P3 := Lib.hid (((P3.out.below hb).alloc (.cells #[.int .u64 (h : Int), .int .u64 (l : Int)] 31)).alloc (.cells #[.int .u64 (h' : Int), .int .u64 (l' : Int)] 31))
    replace P6 := Lib.hid (((P6.out.below hb).alloc (.cells #[.int .u64 (h : Int), .int .u64 (l : Int)] 31)).alloc (.cells #[.int .u64 (h' : Int), .int .u64 (l' : Int)] 31))
    have P9 := Lib.hid (Holds2.alloc (Holds2.new2 rfl) _ : Holds2 ((w4.alloc (.cells #[.int .u64 (h : Int), .int .u64 (l : Int)] 31)).alloc (.cells #[.int .u64 (h' : Int), .int .u64 (l' : Int)] 31)) w4.heap.size h l)
    have P10 := Lib.hid (Holds2.new2 (by simp) : Holds2 ((w4.alloc (.cells #[.int .u64 (h : Int), .int .u64 (l : Int)] 31)).alloc (.cells #[.int .u64 (h' : Int), .int .u64 (l' : Int)] 31)) (w4.heap.size + 1) h' l')
    replace B := ballD1 (ballD1 (bstep B hb) (.cells #[.int .u64 (h : Int), .int .u64 (l : Int)] 31)) (.cells #[.int .u64 (h' : Int), .int .u64 (l' : Int)] 31)
    clear hb SF ST a1 a2 a3 a4 a9
    go_upto_region 7 with fail
    obtain ⟨q, hq⟩ : ∃ g, g = w4.heap.size := ⟨_, rfl⟩
    rw [← hq] at P9 P10 s6
    rw [← hq]
    generalize (w4.alloc (.cells #[.int .u64 (h : Int), .int .u64 (l : Int)] 31)).alloc (.cells #[.int .u64 (h' : Int), .int .u64 (l' : Int)] 31) = V at *
    clear hq
    generalize ho : scN m na (nv ah al) x y = o at *
    rcases o with _ | N
    · obtain ⟨-, -, rfl⟩ := HS.out
      have RES := Lib.hid (show NumO (scF m na (nv ah al) x y) false 0 0 0 false from by rw [scF_none HZ.out ho]; exact ⟨ww0, rfl, rfl, rfl, rfl, rfl⟩)
      clear HS ho
      obtain ⟨⟨d1, d2, d3, d4⟩, ⟨d5, d6, d7, d8⟩, d9⟩ := P6.out
      go_wp2
      clear d1 d2 d3 d4 d5 d6 d7 d8 d9
      refine ret_via (fun VF => HoldsD VF (w.heap.size + 1) false 0 0 0) (fun VF hq => ?_) (HoldsD.put4 P6.out) rfl ⟨_, _, _, _, _, RES.out, rfl, Below.set1' (Below.set1' (Below.set1' (Below.set1' B _ _ (Nat.le_succ _) _) _ _ (Nat.le_succ _) _) _ _ (Nat.le_succ _) _) _ _ (Nat.le_succ _) _⟩
      obtain ⟨⟨d1, d2, d3, d4⟩, -, -⟩ := hq
      simp [results, Tryd.results64, go_sem, d1, d2, d3, d4]
    · obtain ⟨W1, W2, eN, rfl⟩ := HS.out
      have DG := Lib.hid (digitsTop_any h l h' l' W1 W2)
      rw [eN] at DG
      obtain ⟨dn, hdn⟩ : ∃ i : Int, i = ((nd N : Nat) : Int) := ⟨_, rfl⟩
      rw [← hdn] at DG
      have HW := Lib.hid (And.intro W1 (And.intro W2 eN))
      clear W1 W2 eN HS
      obtain ⟨a1, a2, -, -, a5⟩ := P9.out
      obtain ⟨b1, b2, -, -, b5⟩ := P10.out
      go_wp2_with fail
      refine (DG.out _ (HT.out.below B)).mono ?_
      rintro e w5 ⟨rfl, hb⟩
      replace P3 := Lib.hid (P3.out.below hb)
      replace P6 := Lib.hid (P6.out.below hb)
      replace P10 := Lib.hid (P10.out.below hb)
      replace B := bstep B hb
      clear hb DG a1 a2 a5 b1 b2 b5 P9
      by_cases d34 : nd N ≤ 34
      · have t1 : decide (34 < dn) = false := decide_eq_false (by omega)
        have eN := steps_small HW.out.1 HW.out.2.1 HW.out.2.2 d34
        have RES := Lib.hid (show NumO (scF m na (nv ah al) x y) (na && !decide (N = 0)) h' l' y true from by rw [scF_some HZ.out ho d34]; exact ⟨HW.out.2.1, rfl, rfl, eN, rfl⟩)
        have ZU := Lib.hid (zero_any h' l')
        rw [eN] at ZU
        generalize decide (N = 0) = zb at *
        clear HZ HW ho hdn d34 eN
        go_upto_region 9 with fail
        obtain ⟨⟨a1, a2, a3, a4⟩, -, a9⟩ := P3.out
        obtain ⟨b1, b2, -, -, b5⟩ := P10.out
        obtain ⟨⟨d1, d2, d3, d4⟩, ⟨d5, d6, d7, d8⟩, d9⟩ := P6.out
        have n1 : w.heap.size ≠ w.heap.size + 1 := by omega
        have n2 : q + 1 ≠ w.heap.size + 1 := by omega
        cases na
        · rw [Bool.false_and] at RES
          go_wp2
          go_region
          all_goals
            clear a1 a2 a3 a4 a9 b1 b2 b5 d1 d2 d3 d4 d5 d6 d7 d8 d9
            go_wp2
            refine ret_via (fun VF => HoldsD VF (w.heap.size + 1) false h' l' y) (fun VF hq => ?_) ?_ rfl ⟨_, _, _, _, _, RES.out, rfl, ?_⟩
            · obtain ⟨⟨d1, d2, d3, d4⟩, -, -⟩ := hq
              simp [results, Tryd.results64, go_sem, d1, d2, d3, d4]
            · repeat' (first | (with_reducible exact P6.out) | (with_reducible refine HoldsD.put4 (a := false) (b := 0) (c := 0) (d := 0) ?_) | (with_reducible refine HoldsD.drew' ?_) | (with_reducible refine HoldsD.below ?_ (by with_reducible assumption)))
            · repeat' (first | (with_reducible exact B) | (with_reducible refine Below.drew ?_) | (with_reducible refine Below.set1' ?_ _ _ ?_ _) | (with_reducible refine bstep ?_ (by with_reducible assumption)) | omega)
        · rw [Bool.true_and] at RES
          cases zb
          · replace RES := Lib.hid (show NumO (scF m true (nv ah al) x y) true h' l' y true from RES.out)
            go_region_held3 (fun w' => w'.cell? ⟨q + 1, 0, none⟩ = some (.int .u64 (h' : Int)) ∧ w'.cell? ⟨q + 1, 1, none⟩ = some (.int .u64 (l' : Int)) ∧ w'.cell? ⟨w.heap.size, 0, none⟩ = some (.bool true))
              (repeat' (first | (with_reducible assumption) | (with_reducible refine keep3d ?_) | (with_reducible exact ⟨b1, b2, a1⟩) | (with_reducible refine keep3s4 n2 n2 n1 ?_) | (with_reducible refine keep3 (by with_reducible assumption) ?_)))
              (first
                | (go_at_call 33; (refine (ZU.out _).mono ?_); rintro e wZ ⟨rfl, hbZ⟩; have PZ := Lib.hid (HoldsD.below P6.out (bundrew hbZ)); obtain ⟨⟨f1, f2, f3, f4⟩, ⟨f5, f6, f7, f8⟩, f9⟩ := PZ.out))
            all_goals
              clear a1 a2 a3 a4 a9 b1 b2 b5 d1 d2 d3 d4 d5 d6 d7 d8 d9 f1 f2 f3 f4 f5 f6 f7 f8 f9
              go_wp2
              refine ret_via (fun VF => HoldsD VF (w.heap.size + 1) true h' l' y) (fun VF hq => ?_) ?_ rfl ⟨_, _, _, _, _, RES.out, rfl, ?_⟩
              · obtain ⟨⟨d1, d2, d3, d4⟩, -, -⟩ := hq
                simp [results, Tryd.results64, go_sem, d1, d2, d3, d4]
              · repeat' (first | (with_reducible exact PZ.out) | (with_reducible refine HoldsD.put4 (a := false) (b := 0) (c := 0) (d := 0) ?_) | (with_reducible refine HoldsD.drew' ?_))
              · repeat' (first | (with_reducible exact B) | (with_reducible refine Below.drew ?_) | (with_reducible refine Below.set1' ?_ _ _ ?_ _) | (with_reducible refine bstep ?_ (by with_reducible assumption)) | (with_reducible refine bstep ?_ (bundrew (by with_reducible assumption))) | omega)
          · replace RES := Lib.hid (show NumO (scF m true (nv ah al) x y) false h' l' y true from RES.out)
            go_region_held3 (fun w' => w'.cell? ⟨q + 1, 0, none⟩ = some (.int .u64 (h' : Int)) ∧ w'.cell? ⟨q + 1, 1, none⟩ = some (.int .u64 (l' : Int)) ∧ w'.cell? ⟨w.heap.size, 0, none⟩ = some (.bool true))
              (repeat' (first | (with_reducible assumption) | (with_reducible refine keep3d ?_) | (with_reducible exact ⟨b1, b2, a1⟩) | (with_reducible refine keep3s4 n2 n2 n1 ?_) | (with_reducible refine keep3 (by with_reducible assumption) ?_)))
              (first
                | (go_at_call 33; (refine (ZU.out _).mono ?_); rintro e wZ ⟨rfl, hbZ⟩; have PZ := Lib.hid (HoldsD.below P6.out (bundrew hbZ)); obtain ⟨⟨f1, f2, f3, f4⟩, ⟨f5, f6, f7, f8⟩, f9⟩ := PZ.out))
            all_goals
              clear a1 a2 a3 a4 a9 b1 b2 b5 d1 d2 d3 d4 d5 d6 d7 d8 d9 f1 f2 f3 f4 f5 f6 f7 f8 f9
              go_wp2
              refine ret_via (fun VF => HoldsD VF (w.heap.size + 1) false h' l' y) (fun VF hq => ?_) ?_ rfl ⟨_, _, _, _, _, RES.out, rfl, ?_⟩
              · obtain ⟨⟨d1, d2, d3, d4⟩, -, -⟩ := hq
                simp [results, Tryd.results64, go_sem, d1, d2, d3, d4]
              · repeat' (first | (with_reducible exact PZ.out) | (with_reducible refine HoldsD.put4 (a := false) (b := 0) (c := 0) (d := 0) ?_) | (with_reducible refine HoldsD.drew' ?_))
              · repeat' (first | (with_reducible exact B) | (with_reducible refine Below.drew ?_) | (with_reducible refine Below.set1' ?_ _ _ ?_ _) | (with_reducible refine bstep ?_ (by with_reducible assumption)) | (with_reducible refine bstep ?_ (bundrew (by with_reducible assumption))) | omega)
      · have t1 : decide (34 < dn) = true := decide_eq_true (by omega)
        have RES := Lib.hid (show NumO (scF m na (nv ah al) x y) false 0 0 0 false from by rw [scF_much HZ.out ho d34]; exact ⟨ww0, rfl, rfl, rfl, rfl, rfl⟩)
        clear HZ HW ho hdn d34
        obtain ⟨⟨d1, d2, d3, d4⟩, ⟨d5, d6, d7, d8⟩, d9⟩ := P6.out
        go_wp2
        clear d1 d2 d3 d4 d5 d6 d7 d8 d9
        refine ret_via (fun VF => HoldsD VF (w.heap.size + 1) false 0 0 0) (fun VF hq => ?_) (HoldsD.put4 P6.out) rfl ⟨_, _, _, _, _, RES.out, rfl, Below.set1' (Below.set1' (Below.set1' (Below.set1' B _ _ (Nat.le_succ _) _) _ _ (Nat.le_succ _) _) _ _ (Nat.le_succ _) _) _ _ (Nat.le_succ _) _⟩
        obtain ⟨⟨d1, d2, d3, d4⟩, -, -⟩ := hq
        simp [results, Tryd.results64, go_sem, d1, d2, d3, d4]

set_option maxRecDepth 100000 in
set_option maxHeartbeats 4000000 in
theorem scale_no (na : Bool) (ah al : Nat) (x k m : Int) (h : k < -6111 ∨ 6176 < k ∨ m < 1 ∨ 7 < m) (w : World) :
    Calls Tryd.prog 64 #[Dv na ah al x, .int .i64 k, .int .i64 m] w (RetDO none w) := by
  have RES := Lib.hid (show NumO none false 0 0 0 false from ⟨ww0, rfl, rfl, rfl, rfl, rfl⟩)
  by_cases p : -6111 ≤ k ∧ k ≤ 6176
  · have PL := Lib.hid (places_yes k p.1 p.2)
    have MO := Lib.hid (mode_no m (by omega))
    clear h p
    go_enter Tryd.func64, Tryd.ntmps64
    go_wp2_with fail
    refine (PL.out _).mono ?_
    rintro e w1 ⟨rfl, hb⟩
    have P6 := Lib.hid ((show HoldsD _ (w.heap.size + 1) false 0 0 0 from by simp [HoldsD, go_sem]).below hb)
    have B : Below w.heap.size w w1 := bstep (by go_grown) hb
    clear hb PL
    go_wp2_with fail
    refine (MO.out _).mono ?_
    rintro e w2 ⟨rfl, hb⟩
    replace P6 := Lib.hid (P6.out.below hb)
    replace B := bstep B hb
    clear hb MO
    obtain ⟨⟨d1, d2, d3, d4⟩, ⟨d5, d6, d7, d8⟩, d9⟩ := P6.out
    go_wp2
    clear d1 d2 d3 d4 d5 d6 d7 d8 d9
    refine ret_via (fun VF => HoldsD VF (w.heap.size + 1) false 0 0 0) (fun VF hq => ?_) (HoldsD.put4 P6.out) rfl ⟨_, _, _, _, _, RES.out, rfl, Below.set1' (Below.set1' (Below.set1' (Below.set1' B _ _ (Nat.le_succ _) _) _ _ (Nat.le_succ _) _) _ _ (Nat.le_succ _) _) _ _ (Nat.le_succ _) _⟩
    obtain ⟨⟨d1, d2, d3, d4⟩, -, -⟩ := hq
    simp [results, Tryd.results64, go_sem, d1, d2, d3, d4]
  · have PL := Lib.hid (places_no k (by omega))
    clear h p
    go_enter Tryd.func64, Tryd.ntmps64
    go_wp2_with fail
    refine (PL.out _).mono ?_
    rintro e w1 ⟨rfl, hb⟩
    have P6 := Lib.hid ((show HoldsD _ (w.heap.size + 1) false 0 0 0 from by simp [HoldsD, go_sem]).below hb)
    have B : Below w.heap.size w w1 := bstep (by go_grown) hb
    clear hb PL
    obtain ⟨⟨d1, d2, d3, d4⟩, ⟨d5, d6, d7, d8⟩, d9⟩ := P6.out
    go_wp2
    clear d1 d2 d3 d4 d5 d6 d7 d8 d9
    refine ret_via (fun VF => HoldsD VF (w.heap.size + 1) false 0 0 0) (fun VF hq => ?_) (HoldsD.put4 P6.out) rfl ⟨_, _, _, _, _, RES.out, rfl, Below.set1' (Below.set1' (Below.set1' (Below.set1' B _ _ (Nat.le_succ _) _) _ _ (Nat.le_succ _) _) _ _ (Nat.le_succ _) _) _ _ (Nat.le_succ _) _⟩
    obtain ⟨⟨d1, d2, d3, d4⟩, -, -⟩ := hq
    simp [results, Tryd.results64, go_sem, d1, d2, d3, d4]
end Go.Proofs.YtkkddflclakphaaDoor

/-
  A number without places, whether it is even or odd (Whole, Floor, Ceiling, exactWhole, endsOdd, Even, Odd of package round), each as a contract of its call.
-/
namespace Go.Proofs.YtkkddflclakphaaDoor
open Go.RowKit

/-- A number without places, rounded by a mode. -/
def rwF (m : Nat) (n : Bool) (c : Nat) (x : Int) : Bool × Nat × Int := if 0 ≤ x then (n, c, x) else (scF m n c x 0).getD (false, 0, 0)
theorem scF_whole {m : Nat} {n : Bool} {c : Nat} {x : Int} (h : NumD c x) (hx : x < 0) : ∃ s N, scF m n c x 0 = some (s, N, 0) ∧ N ≤ 10 ^ 33 + 1 := by
  by_cases z : c = 0
  · exact ⟨false, 0, scF_zero m n x 0 z, by decide⟩
  · have e : scN m n c x 0 = some (cutN m n c (0 - x).toNat false) := by unfold scN; rw [if_pos hx]
    have u := (upN_le m n c (0 - x).toNat false).2
    have d : c / 10 ^ min (0 - x).toNat 78 ≤ c / 10 ^ 1 := Nat.div_le_div_left (p10_mono (by omega)) (p10 1)
    have c1 := h.1
    have b : cutN m n c (0 - x).toNat false ≤ 10 ^ 33 + 1 := by
      have : c / 10 ^ 1 < 10 ^ 33 := Nat.div_lt_of_lt_mul (by rw [← Nat.pow_add]; exact c1)
      omega
    exact ⟨_, _, scF_some z e (nd_le (Nat.lt_of_le_of_lt b (by decide))), b⟩
theorem rwF_num {m : Nat} {n : Bool} {c : Nat} {x : Int} {s : Bool} {N : Nat} {y : Int} (h : NumD c x) (z : c = 0 → n = false) (e : rwF m n c x = (s, N, y)) : NumD N y ∧ (N = 0 → s = false) ∧ 0 ≤ y := by
  unfold rwF at e
  split at e
  · simp only [Prod.mk.injEq] at e
    obtain ⟨rfl, rfl, rfl⟩ := e
    exact ⟨h, z, by assumption⟩
  · obtain ⟨s', N', k, _⟩ := scF_whole (m := m) (n := n) h (by omega)
    rw [k] at e
    simp only [Option.getD_some, Prod.mk.injEq] at e
    obtain ⟨rfl, rfl, rfl⟩ := e
    obtain ⟨a, b, _, _⟩ := scF_num k (by decide) (by decide)
    exact ⟨a, b, Int.le_refl _⟩
/-- A number as the program lays it. -/
def RetDT (t : Bool × Nat × Int) (w : World) (e : Ending) (w' : World) : Prop := ∃ n h l x, WW h l ∧ (n, nv h l, x) = t ∧ e = .returned (Dv n h l x) ∧ Below w.heap.size w w'

set_option maxRecDepth 100000 in
set_option maxHeartbeats 4000000 in
theorem whole_r (m : Nat) (hm : m = 1 ∨ m = 2 ∨ m = 3 ∨ m = 4 ∨ m = 5 ∨ m = 6 ∨ m = 7) (na : Bool) (ah al : Nat) (x : Int) (ha : WW ah al) (h1 : NumD (nv ah al) x) (w : World) (ht : Tab w) :
    Calls Tryd.prog 35 #[Dv na ah al x, .int .i64 (m : Int)] w (RetDT (rwF m na (nv ah al) x) w) := by
  have HT := Lib.hid ht
  by_cases x0 : 0 ≤ x
  · have t1 : decide (0 ≤ x) = true := decide_eq_true x0
    have RES := Lib.hid (show WW ah al ∧ (na, nv ah al, x) = rwF m na (nv ah al) x from ⟨ha, by unfold rwF; rw [if_pos x0]⟩)
    clear x0 ha h1 ht hm
    go_enter Tryd.func35, Tryd.ntmps35
    go_wp2
    refine bodyPost_ret (v := Dv na ah al x) (by simp [results, Tryd.results35, go_sem]) rfl ⟨_, _, _, _, RES.out.1, RES.out.2, rfl, ?_⟩
    go_grown
  · have t1 : decide (0 ≤ x) = false := decide_eq_false x0
    have SC := Lib.hid (scale_any m hm na ah al x 0 ha h1 (by decide) (by decide))
    obtain ⟨s, N, k, -⟩ := scF_whole (m := m) (n := na) h1 (by omega)
    rw [show (-(0 : Int)) = 0 from rfl, k] at SC
    have RW := Lib.hid (show rwF m na (nv ah al) x = (s, N, 0) from by unfold rwF; rw [if_neg x0, k]; rfl)
    obtain ⟨mi, hmi⟩ : ∃ i : Int, i = (m : Int) := ⟨_, rfl⟩
    rw [← hmi] at SC ⊢
    clear x0 ha h1 ht hm k hmi
    go_enter Tryd.func35, Tryd.ntmps35
    go_wp2_with fail
    have B : Below w.heap.size w ((w.alloc (.cells #[.bool na, .int .u64 (ah : Int), .int .u64 (al : Int), .int .i64 x] 34)).alloc (.cells #[.bool false, .int .u64 0, .int .u64 0, .int .i64 0] 34)) := by go_grown
    refine (SC.out _ (HT.out.below B)).mono ?_
    rintro e y1 ⟨n1, h1, l1, x1, k1, N1, rfl, hb⟩
    obtain ⟨W1, rfl, rfl, e1, rfl⟩ := N1
    have RES := Lib.hid (show WW h1 l1 ∧ (n1, nv h1 l1, (0 : Int)) = rwF m na (nv ah al) x from ⟨W1, by rw [RW.out, e1]⟩)
    have PR := Lib.hid ((show HoldsD _ (w.heap.size + 1) false 0 0 0 from by simp [HoldsD, go_sem]).below hb)
    have sr : w.heap.size + 1 < y1.heap.size := PR.out.2.2
    replace B := bstep B hb
    clear hb SC RW W1 e1
    replace PR := Lib.hid (PR.out.alloc (.cells #[.bool n1, .int .u64 (h1 : Int), .int .u64 (l1 : Int), .int .i64 0] 34))
    replace B := ballD1 B (.cells #[.bool n1, .int .u64 (h1 : Int), .int .u64 (l1 : Int), .int .i64 0] 34)
    have PP := Lib.hid (show HoldsD (y1.alloc (.cells #[.bool n1, .int .u64 (h1 : Int), .int .u64 (l1 : Int), .int .i64 0] 34)) y1.heap.size n1 h1 l1 0 from by simp [HoldsD, go_sem])
    go_upto_region 4 with fail
    obtain ⟨g, hg⟩ : ∃ g, g = y1.heap.size := ⟨_, rfl⟩
    rw [← hg] at PP sr
    rw [← hg]
    generalize y1.alloc (.cells #[.bool n1, .int .u64 (h1 : Int), .int .u64 (l1 : Int), .int .i64 0] 34) = V at *
    clear hg
    obtain ⟨⟨a1, a2, a3, a4⟩, -, a9⟩ := PP.out
    obtain ⟨⟨d1, d2, d3, d4⟩, ⟨d5, d6, d7, d8⟩, d9⟩ := PR.out
    go_wp2
    clear a1 a2 a3 a4 a9 d1 d2 d3 d4 d5 d6 d7 d8 d9
    refine ret_via (fun VF => HoldsD VF (w.heap.size + 1) n1 h1 l1 0) (fun VF hq => ?_) (HoldsD.put4 PR.out) rfl ⟨_, _, _, _, RES.out.1, RES.out.2, rfl, Below.set1' (Below.set1' (Below.set1' (Below.set1' B _ _ (Nat.le_succ _) _) _ _ (Nat.le_succ _) _) _ _ (Nat.le_succ _) _) _ _ (Nat.le_succ _) _⟩
    obtain ⟨⟨d1, d2, d3, d4⟩, -, -⟩ := hq
    simp [results, Tryd.results35, go_sem, d1, d2, d3, d4]

/-- A number without places, and whether it is the same size. -/
def exB (na : Bool) (c : Nat) (x : Int) : Bool := decide (vlZ (rwF 5 na c x).1 (rwF 5 na c x).2.1 (rwF 5 na c x).2.2 = vlZ na c x)
def RetDTB (t : Bool × Nat × Int) (b : Bool) (w : World) (e : Ending) (w' : World) : Prop := ∃ n h l x, WW h l ∧ (n, nv h l, x) = t ∧ e = .returned (.tuple #[Dv n h l x, .bool b]) ∧ Below w.heap.size w w'

/-- Whether it is odd: a power of ten but 1 is even. -/
def oddT (t : Bool × Nat × Int) : Bool := decide (t.2.2 = 0) && decide (t.2.1 % 2 = 1)
theorem oddT_eq (n : Bool) (h l : Nat) (x : Int) : (decide (x = 0) && decide (l % 2 = 1)) = oddT (n, nv h l, x) := by
  unfold oddT
  show _ = (decide (x = 0) && decide (nv h l % 2 = 1))
  congr 1
  apply decide_eq_decide.mpr
  unfold nv
  omega

end Go.Proofs.YtkkddflclakphaaDoor

/-
  What is left by a number (Modulo of package round), as a contract of its call.
-/
namespace Go.Proofs.YtkkddflclakphaaDoor
open Go.RowKit

theorem DivP_num {na nb : Bool} {ca cb : Nat} {ea eb : Int} {s : Bool} {c : Nat} {x : Int} (D : DivP na ca ea nb cb eb (some (s, c, x))) (ha : ca < 10 ^ 34) : NumD c x ∧ (c = 0 → s = false) := by
  rcases D with ⟨_, k⟩ | ⟨_, _, k⟩ | ⟨_, _, Q, R, _, hQ, D⟩
  · exact absurd k (by simp)
  · exact ⟨(fitF_may k.symm (by unfold B128; decide)).2.1, (fitF_may k.symm (by unfold B128; decide)).2.2⟩
  · have n1 := nd_lt ca
    have bQ : Q < B128 * B128 := by
      have e1 : ca * 10 ^ (34 - nd ca) < 10 ^ 34 := by
        have := Nat.mul_lt_mul_of_pos_right n1 (p10 (34 - nd ca))
        rw [← Nat.pow_add, show nd ca + (34 - nd ca) = 34 by have := nd_le ha; omega] at this
        exact this
      have zb : 0 < cb * 10 ^ (34 - nd cb) := Nat.mul_pos (by omega) (p10 _)
      have : Q ≤ Q * (cb * 10 ^ (34 - nd cb)) := Nat.le_mul_of_pos_right Q zb
      have e2 : ca * 10 ^ (34 - nd ca) * 10 ^ 35 < 10 ^ 34 * 10 ^ 35 := Nat.mul_lt_mul_of_pos_right e1 (p10 35)
      refine Nat.lt_of_lt_of_le (Nat.lt_of_le_of_lt (by omega : Q ≤ ca * 10 ^ (34 - nd ca) * 10 ^ 35) e2) (by unfold B128; decide)
    rcases D with ⟨_, k⟩ | ⟨_, q, j, _, e, _, k⟩
    · exact ⟨(fitF_may k.symm bQ).2.1, (fitF_may k.symm bQ).2.2⟩
    · have bq : q < B128 * B128 := Nat.lt_of_le_of_lt (by rw [← e]; exact Nat.le_mul_of_pos_right q (p10 j)) bQ
      exact ⟨(fitF_may k.symm bq).2.1, (fitF_may k.symm bq).2.2⟩
theorem DivP_det {na nb : Bool} {ca cb : Nat} {ea eb : Int} {o o' : Option (Bool × Nat × Int)} (D : DivP na ca ea nb cb eb o) (D' : DivP na ca ea nb cb eb o') : o = o' := by
  rcases D with ⟨z, k⟩ | ⟨z, y, k⟩ | ⟨z, y, Q, R, hR, hQ, D⟩ <;> rcases D' with ⟨z', k'⟩ | ⟨z', y', k'⟩ | ⟨z', y', Q', R', hR', hQ', D'⟩
  · rw [k, k']
  · exact absurd z z'
  · exact absurd z z'
  · exact absurd z' z
  · rw [k, k']
  · exact absurd y y'
  · exact absurd z' z
  · exact absurd y' y
  · have B0 : 0 < cb * 10 ^ (34 - nd cb) := Nat.mul_pos (Nat.pos_of_ne_zero z) (p10 _)
    generalize cb * 10 ^ (34 - nd cb) = B at *
    generalize ca * 10 ^ (34 - nd ca) * 10 ^ 35 = X at *
    have a := (Nat.div_mod_unique B0).2 ⟨show R + B * Q = X by rw [← hQ, Nat.mul_comm B, Nat.add_comm], hR⟩
    have b := (Nat.div_mod_unique B0).2 ⟨show R' + B * Q' = X by rw [← hQ', Nat.mul_comm B, Nat.add_comm], hR'⟩
    have eQ : Q = Q' := a.1.symm.trans b.1
    have eR : R = R' := a.2.symm.trans b.2
    subst eQ eR
    rcases D with ⟨n, k⟩ | ⟨n, q, j, j1, j2, j3, k⟩ <;> rcases D' with ⟨n', k'⟩ | ⟨n', q', j', j1', j2', j3', k'⟩
    · rw [k, k']
    · exact absurd n' n
    · exact absurd n n'
    · obtain ⟨rfl, rfl⟩ := div_unique (j2.trans j2'.symm) j1 j3 j1' j3'
      rw [k, k']
/-- The rest by the floor, each step rounded. -/
def modM (na : Bool) (ca : Nat) (ea : Int) : Option (Bool × Nat × Int) → Option (Bool × Nat × Int)
  | none => none
  | some (s, c, x) => addF na ca ea (!s && !decide (c = 0)) c x
def modQ (nb : Bool) (cb : Nat) (eb : Int) : Option (Bool × Nat × Int) → Option (Bool × Nat × Int)
  | none => none
  | some (s, c, x) => mulF nb cb eb (rwF 6 s c x).1 (rwF 6 s c x).2.1 (rwF 6 s c x).2.2
theorem modM_some (na : Bool) (ca : Nat) (ea : Int) (s : Bool) (c : Nat) (x : Int) : modM na ca ea (some (s, c, x)) = addF na ca ea (!s && !decide (c = 0)) c x := rfl
theorem modM_none (na : Bool) (ca : Nat) (ea : Int) : modM na ca ea none = none := rfl
theorem modQ_none (na : Bool) (ca : Nat) (ea : Int) : modQ na ca ea none = none := rfl
theorem modQ_some (nb : Bool) (cb : Nat) (eb : Int) {s : Bool} {c : Nat} {x : Int} {s' : Bool} {c' : Nat} {x' : Int} (h : rwF 6 s c x = (s', c', x')) : modQ nb cb eb (some (s, c, x)) = mulF nb cb eb s' c' x' := by
  show mulF nb cb eb (rwF 6 s c x).1 (rwF 6 s c x).2.1 (rwF 6 s c x).2.2 = _
  rw [h]
/-- What Modulo answers. -/
def ModP (na : Bool) (ca : Nat) (ea : Int) (nb : Bool) (cb : Nat) (eb : Int) (o : Option (Bool × Nat × Int)) : Prop := ∃ q, DivP na ca ea nb cb eb q ∧ o = modM na ca ea (modQ nb cb eb q)

end Go.Proofs.YtkkddflclakphaaDoor

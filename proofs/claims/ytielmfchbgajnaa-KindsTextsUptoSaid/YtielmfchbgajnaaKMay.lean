/-
  The program's May walked (layer 13).
-/
import Derived.Test.YtielmfchbgajnaaJz
namespace Go.Proofs.Ytielmfchbgajnaa
open Go.RowKit Go.Shelf

/-- What a type itself asks, its parts aside. -/
def headB (k : Int) (n m : Nat) (nm : Nat → ByteArray) : Bool := if k = 11 then distB nm m && n == m else m == 0 && ((simB k && n == 0) || ((k == 10 || k == 12) && n == 1) || (k == 13 && decide (0 < n)))
theorem kreg3 {w V w' : World} {n c d : Nat} {a b : Option Addr} (h : V.cell? ⟨w.heap.size, 0, none⟩ = some (.int .i64 11) ∧ V.cell? ⟨w.heap.size, 1, none⟩ = some (.slice a n c) ∧ V.cell? ⟨w.heap.size, 2, none⟩ = some (.slice b n d)) (hb : Below V.heap.size V w') : w'.cell? ⟨w.heap.size, 0, none⟩ = some (.int .i64 11) ∧ w'.cell? ⟨w.heap.size, 1, none⟩ = some (.slice a n c) ∧ w'.cell? ⟨w.heap.size, 2, none⟩ = some (.slice b n d) ∧ Below V.heap.size V w' := ⟨cell_below h.1 hb, cell_below h.2.1 hb, cell_below h.2.2 hb, hb⟩
theorem mayB_mk (k : Int) (n : Nat) (it : Nat → T) (m : Nat) (nm : Nat → ByteArray) : mayB (.mk k n it m nm) = (allN (fun i => mayB (it i)) n && headB k n m nm) := rfl
theorem dist_size (nm : Nat → ByteArray) (m : Nat) : distB nm m = (sizeN nm m == m) := by
  rw [Bool.eq_iff_iff, beq_iff_eq, sizeN_eq]
  unfold distB
  rw [allN_iff]
  constructor
  · intro h j k hj hk e
    have := (allN_iff _ k).1 (h k hk) j hj
    simp [e] at this
  · intro h i hi
    rw [allN_iff]
    intro j hj
    have := h j i hj hi
    simp only [Bool.not_eq_true', decide_eq_false_iff_not]
    exact fun e => this e.symm
set_option linter.unusedSimpArgs false in
set_option linter.unusedVariables false in
set_option maxRecDepth 100000 in
set_option maxHeartbeats 2000000 in
theorem mayHave_10 (S : Nat → Prop) (w : World) (n : Nat) (it : Nat → T) (m : Nat) (nm : Nat → ByteArray) (a : Option Addr) (c : Nat) (b : Option Addr) (d : Nat) (h : Lies S w (TV 10 a n c b m d) (.mk 10 n it m nm)) : Calls Try.prog 40 #[TV 10 a n c b m d] w (Ret (.bool (headB 10 n m nm)) w) := by
  have nways : n = 0 ∨ n = 1 ∨ 2 ≤ n := by omega
  have mways : m = 0 ∨ 0 < m := by omega
  clear h
  go_enter Try.func40, Try.ntmps40
  rcases nways with rfl | rfl | hn
  · rcases mways with rfl | hm
    · obtain ⟨vv, HM3⟩ : ∃ vv, vv = headB 10 0 0 nm := ⟨_, rfl⟩
      rw [← HM3]
      simp [headB, (rfl : simB 10 = false)] at HM3
      subst HM3
      go_wp2
      go_ret
      exact ⟨rfl, (Below.refl _ _).alloc (Nat.le_refl _) _⟩
    · have m0 : ((m : Int) == 0) = false := by simp; omega
      have m6 : (m == 0) = false := by simp; omega
      have m9 : ¬ m = 0 := by omega
      obtain ⟨vv, HM3⟩ : ∃ vv, vv = headB 10 0 m nm := ⟨_, rfl⟩
      rw [← HM3]
      simp [headB, (rfl : simB 10 = false), m6, m9] at HM3
      subst HM3
      go_wp2
      go_ret
      exact ⟨rfl, (Below.refl _ _).alloc (Nat.le_refl _) _⟩
  · rcases mways with rfl | hm
    · obtain ⟨vv, HM3⟩ : ∃ vv, vv = headB 10 1 0 nm := ⟨_, rfl⟩
      rw [← HM3]
      simp [headB, (rfl : simB 10 = false)] at HM3
      subst HM3
      go_wp2
      go_ret
      exact ⟨rfl, (Below.refl _ _).alloc (Nat.le_refl _) _⟩
    · have m0 : ((m : Int) == 0) = false := by simp; omega
      have m6 : (m == 0) = false := by simp; omega
      have m9 : ¬ m = 0 := by omega
      obtain ⟨vv, HM3⟩ : ∃ vv, vv = headB 10 1 m nm := ⟨_, rfl⟩
      rw [← HM3]
      simp [headB, (rfl : simB 10 = false), m6, m9] at HM3
      subst HM3
      go_wp2
      go_ret
      exact ⟨rfl, (Below.refl _ _).alloc (Nat.le_refl _) _⟩
  · have n0 : ((n : Int) == 0) = false := by simp; omega
    have n1 : ((n : Int) == 1) = false := by simp; omega
    have n4 : (0 : Int) < (n : Int) := by omega
    have n6 : (n == 0) = false := by simp; omega
    have n7 : (n == 1) = false := by simp; omega
    have n8 : 0 < n := by omega
    have n9 : ¬ n = 0 := by omega
    have n10 : ¬ n = 1 := by omega
    rcases mways with rfl | hm
    · obtain ⟨vv, HM3⟩ : ∃ vv, vv = headB 10 n 0 nm := ⟨_, rfl⟩
      rw [← HM3]
      simp [headB, (rfl : simB 10 = false), n6, n7, n8, n9, n10] at HM3
      subst HM3
      go_wp2
      go_ret
      exact ⟨rfl, (Below.refl _ _).alloc (Nat.le_refl _) _⟩
    · have m0 : ((m : Int) == 0) = false := by simp; omega
      have m6 : (m == 0) = false := by simp; omega
      have m9 : ¬ m = 0 := by omega
      obtain ⟨vv, HM3⟩ : ∃ vv, vv = headB 10 n m nm := ⟨_, rfl⟩
      rw [← HM3]
      simp [headB, (rfl : simB 10 = false), n6, n7, n8, n9, n10, m6, m9] at HM3
      subst HM3
      go_wp2
      go_ret
      exact ⟨rfl, (Below.refl _ _).alloc (Nat.le_refl _) _⟩
set_option linter.unusedSimpArgs false in
set_option linter.unusedVariables false in
set_option maxRecDepth 100000 in
set_option maxHeartbeats 2000000 in
theorem mayHave_12 (S : Nat → Prop) (w : World) (n : Nat) (it : Nat → T) (m : Nat) (nm : Nat → ByteArray) (a : Option Addr) (c : Nat) (b : Option Addr) (d : Nat) (h : Lies S w (TV 12 a n c b m d) (.mk 12 n it m nm)) : Calls Try.prog 40 #[TV 12 a n c b m d] w (Ret (.bool (headB 12 n m nm)) w) := by
  have nways : n = 0 ∨ n = 1 ∨ 2 ≤ n := by omega
  have mways : m = 0 ∨ 0 < m := by omega
  clear h
  go_enter Try.func40, Try.ntmps40
  rcases nways with rfl | rfl | hn
  · rcases mways with rfl | hm
    · obtain ⟨vv, HM3⟩ : ∃ vv, vv = headB 12 0 0 nm := ⟨_, rfl⟩
      rw [← HM3]
      simp [headB, (rfl : simB 12 = false)] at HM3
      subst HM3
      go_wp2
      go_ret
      exact ⟨rfl, (Below.refl _ _).alloc (Nat.le_refl _) _⟩
    · have m0 : ((m : Int) == 0) = false := by simp; omega
      have m6 : (m == 0) = false := by simp; omega
      have m9 : ¬ m = 0 := by omega
      obtain ⟨vv, HM3⟩ : ∃ vv, vv = headB 12 0 m nm := ⟨_, rfl⟩
      rw [← HM3]
      simp [headB, (rfl : simB 12 = false), m6, m9] at HM3
      subst HM3
      go_wp2
      go_ret
      exact ⟨rfl, (Below.refl _ _).alloc (Nat.le_refl _) _⟩
  · rcases mways with rfl | hm
    · obtain ⟨vv, HM3⟩ : ∃ vv, vv = headB 12 1 0 nm := ⟨_, rfl⟩
      rw [← HM3]
      simp [headB, (rfl : simB 12 = false)] at HM3
      subst HM3
      go_wp2
      go_ret
      exact ⟨rfl, (Below.refl _ _).alloc (Nat.le_refl _) _⟩
    · have m0 : ((m : Int) == 0) = false := by simp; omega
      have m6 : (m == 0) = false := by simp; omega
      have m9 : ¬ m = 0 := by omega
      obtain ⟨vv, HM3⟩ : ∃ vv, vv = headB 12 1 m nm := ⟨_, rfl⟩
      rw [← HM3]
      simp [headB, (rfl : simB 12 = false), m6, m9] at HM3
      subst HM3
      go_wp2
      go_ret
      exact ⟨rfl, (Below.refl _ _).alloc (Nat.le_refl _) _⟩
  · have n0 : ((n : Int) == 0) = false := by simp; omega
    have n1 : ((n : Int) == 1) = false := by simp; omega
    have n4 : (0 : Int) < (n : Int) := by omega
    have n6 : (n == 0) = false := by simp; omega
    have n7 : (n == 1) = false := by simp; omega
    have n8 : 0 < n := by omega
    have n9 : ¬ n = 0 := by omega
    have n10 : ¬ n = 1 := by omega
    rcases mways with rfl | hm
    · obtain ⟨vv, HM3⟩ : ∃ vv, vv = headB 12 n 0 nm := ⟨_, rfl⟩
      rw [← HM3]
      simp [headB, (rfl : simB 12 = false), n6, n7, n8, n9, n10] at HM3
      subst HM3
      go_wp2
      go_ret
      exact ⟨rfl, (Below.refl _ _).alloc (Nat.le_refl _) _⟩
    · have m0 : ((m : Int) == 0) = false := by simp; omega
      have m6 : (m == 0) = false := by simp; omega
      have m9 : ¬ m = 0 := by omega
      obtain ⟨vv, HM3⟩ : ∃ vv, vv = headB 12 n m nm := ⟨_, rfl⟩
      rw [← HM3]
      simp [headB, (rfl : simB 12 = false), n6, n7, n8, n9, n10, m6, m9] at HM3
      subst HM3
      go_wp2
      go_ret
      exact ⟨rfl, (Below.refl _ _).alloc (Nat.le_refl _) _⟩
set_option linter.unusedSimpArgs false in
set_option linter.unusedVariables false in
set_option maxRecDepth 100000 in
set_option maxHeartbeats 2000000 in
theorem mayHave_13 (S : Nat → Prop) (w : World) (n : Nat) (it : Nat → T) (m : Nat) (nm : Nat → ByteArray) (a : Option Addr) (c : Nat) (b : Option Addr) (d : Nat) (h : Lies S w (TV 13 a n c b m d) (.mk 13 n it m nm)) : Calls Try.prog 40 #[TV 13 a n c b m d] w (Ret (.bool (headB 13 n m nm)) w) := by
  have nways : n = 0 ∨ n = 1 ∨ 2 ≤ n := by omega
  have mways : m = 0 ∨ 0 < m := by omega
  clear h
  go_enter Try.func40, Try.ntmps40
  rcases nways with rfl | rfl | hn
  · rcases mways with rfl | hm
    · obtain ⟨vv, HM3⟩ : ∃ vv, vv = headB 13 0 0 nm := ⟨_, rfl⟩
      rw [← HM3]
      simp [headB, (rfl : simB 13 = false)] at HM3
      subst HM3
      go_wp2
      go_ret
      exact ⟨rfl, (Below.refl _ _).alloc (Nat.le_refl _) _⟩
    · have m0 : ((m : Int) == 0) = false := by simp; omega
      have m6 : (m == 0) = false := by simp; omega
      have m9 : ¬ m = 0 := by omega
      obtain ⟨vv, HM3⟩ : ∃ vv, vv = headB 13 0 m nm := ⟨_, rfl⟩
      rw [← HM3]
      simp [headB, (rfl : simB 13 = false), m6, m9] at HM3
      subst HM3
      go_wp2
      go_ret
      exact ⟨rfl, (Below.refl _ _).alloc (Nat.le_refl _) _⟩
  · rcases mways with rfl | hm
    · obtain ⟨vv, HM3⟩ : ∃ vv, vv = headB 13 1 0 nm := ⟨_, rfl⟩
      rw [← HM3]
      simp [headB, (rfl : simB 13 = false)] at HM3
      subst HM3
      go_wp2
      go_ret
      exact ⟨rfl, (Below.refl _ _).alloc (Nat.le_refl _) _⟩
    · have m0 : ((m : Int) == 0) = false := by simp; omega
      have m6 : (m == 0) = false := by simp; omega
      have m9 : ¬ m = 0 := by omega
      obtain ⟨vv, HM3⟩ : ∃ vv, vv = headB 13 1 m nm := ⟨_, rfl⟩
      rw [← HM3]
      simp [headB, (rfl : simB 13 = false), m6, m9] at HM3
      subst HM3
      go_wp2
      go_ret
      exact ⟨rfl, (Below.refl _ _).alloc (Nat.le_refl _) _⟩
  · have n0 : ((n : Int) == 0) = false := by simp; omega
    have n1 : ((n : Int) == 1) = false := by simp; omega
    have n4 : (0 : Int) < (n : Int) := by omega
    have n6 : (n == 0) = false := by simp; omega
    have n7 : (n == 1) = false := by simp; omega
    have n8 : 0 < n := by omega
    have n9 : ¬ n = 0 := by omega
    have n10 : ¬ n = 1 := by omega
    rcases mways with rfl | hm
    · obtain ⟨vv, HM3⟩ : ∃ vv, vv = headB 13 n 0 nm := ⟨_, rfl⟩
      rw [← HM3]
      simp [headB, (rfl : simB 13 = false), n6, n7, n8, n9, n10] at HM3
      subst HM3
      go_wp2
      go_ret
      exact ⟨rfl, (Below.refl _ _).alloc (Nat.le_refl _) _⟩
    · have m0 : ((m : Int) == 0) = false := by simp; omega
      have m6 : (m == 0) = false := by simp; omega
      have m9 : ¬ m = 0 := by omega
      obtain ⟨vv, HM3⟩ : ∃ vv, vv = headB 13 n m nm := ⟨_, rfl⟩
      rw [← HM3]
      simp [headB, (rfl : simB 13 = false), n6, n7, n8, n9, n10, m6, m9] at HM3
      subst HM3
      go_wp2
      go_ret
      exact ⟨rfl, (Below.refl _ _).alloc (Nat.le_refl _) _⟩
set_option linter.unusedSimpArgs false in
set_option linter.unusedVariables false in
set_option maxRecDepth 100000 in
set_option maxHeartbeats 2000000 in
theorem mayHave_11 (S : Nat → Prop) (w : World) (n : Nat) (it : Nat → T) (m : Nat) (nm : Nat → ByteArray) (a : Option Addr) (c : Nat) (b : Option Addr) (d : Nat) (h : Lies S w (TV 11 a n c b m d) (.mk 11 n it m nm)) : Calls Try.prog 40 #[TV 11 a n c b m d] w (Ret (.bool (headB 11 n m nm)) w) := by
  have HF := Lib.hid h.few
  have HM : headB 11 n m nm = (sizeN nm m == m && n == m) := by unfold headB; rw [if_pos rfl, dist_size]
  have HR := Lib.hid h.row1
  have SL := sizeN_le nm m
  have NB : (n : Int) ≤ 9223372036854775806 ∧ (m : Int) ≤ 9223372036854775806 := by
    have := HF.out.1.1
    have := HF.out.1.2
    omega
  rw [HM]
  clear h HM
  by_cases hn : n = m
  · subst hn
    have hh : (sizeN nm n == n && n == n) = ((sizeN nm n : Int) == (n : Int)) := by rw [← nat_beq]; simp
    rw [hh]
    have PW := Lib.hid (fun X (r : Row1 X b n nm) => places_walk b n d nm X ⟨Nat.zero_le _, HF.out.1.2⟩ r)
    go_enter Try.func40, Try.ntmps40
    go_wp2
    have Y0 : (w.alloc (.cells #[.int .i64 11, .slice a n c, .slice b n d] 26)).cell? ⟨w.heap.size, 0, none⟩ = some (.int .i64 11) ∧ (w.alloc (.cells #[.int .i64 11, .slice a n c, .slice b n d] 26)).cell? ⟨w.heap.size, 1, none⟩ = some (.slice a n c) ∧ (w.alloc (.cells #[.int .i64 11, .slice a n c, .slice b n d] 26)).cell? ⟨w.heap.size, 2, none⟩ = some (.slice b n d) := by refine ⟨?_, ?_, ?_⟩ <;> simp [go_sem]
    have R0 := Lib.hid (HR.out.on ((Below.refl _ _).alloc (Nat.le_refl _) _) : Row1 (w.alloc (.cells #[.int .i64 11, .slice a n c, .slice b n d] 26)) b n nm)
    have BV0 : Below w.heap.size w (w.alloc (.cells #[.int .i64 11, .slice a n c, .slice b n d] 26)) := (Below.refl _ _).alloc (Nat.le_refl _) _
    generalize w.alloc (.cells #[.int .i64 11, .slice a n c, .slice b n d] 26) = V at *
    refine wp_region_held_drew (S := fun w' => w'.cell? ⟨w.heap.size, 0, none⟩ = some (.int .i64 11) ∧ w'.cell? ⟨w.heap.size, 1, none⟩ = some (.slice a n c) ∧ w'.cell? ⟨w.heap.size, 2, none⟩ = some (.slice b n d) ∧ Below V.heap.size V w') (by kernel_rfl) ?_ (fun hHeld => ?_)
    · exact (kreg3 Y0 ((Below.refl _ _).drew))
    refine wpAnyH_take (i := 0) (oi := { dst := some 20, op := Go.Op.fieldAddr 26 (Go.Operand.tmp 1) 1, type := 0, pos := "kinds.go:57", after := #[], guard := none }) (v := ?_) rfl (by kernel_rfl) (by kernel_rfl) (by kernel_rfl) (fun _ _ _ h => h) (Or.inl ⟨by rfl, ?_⟩) (by assumption) ?_
    rotate_left
    · intro w hSw
      try dsimp only at hSw
      go_simp
      try with_reducible rfl
    try simp only [Act.put, List.setIfInBounds_toArray, List.set_cons_zero, List.set_cons_succ]
    refine wpAnyH_take (i := 3) (oi := { dst := some 23, op := Go.Op.fieldAddr 26 (Go.Operand.tmp 1) 2, type := 0, pos := "kinds.go:57", after := #[], guard := none }) (v := ?_) rfl (by kernel_rfl) (by kernel_rfl) (by kernel_rfl) (fun _ _ _ h => h) (Or.inl ⟨by rfl, ?_⟩) (by assumption) ?_
    rotate_left
    · intro w hSw
      try dsimp only at hSw
      go_simp
      try with_reducible rfl
    try simp only [Act.put, List.setIfInBounds_toArray, List.set_cons_zero, List.set_cons_succ]
    refine wpAnyH_take (i := 1) (oi := { dst := some 21, op := Go.Op.load 23 (Go.Operand.tmp 20), type := 23, pos := "kinds.go:57", after := #[{ on := 0, ground := Go.Ground.data }], guard := none }) (v := ?_) rfl (by kernel_rfl) (by kernel_rfl) (by kernel_rfl) (fun _ _ _ h => h) (Or.inl ⟨by rfl, ?_⟩) (by assumption) ?_
    rotate_left
    · intro w hSw
      try dsimp only at hSw
      go_simp
      try with_reducible rfl
    try simp only [Act.put, List.setIfInBounds_toArray, List.set_cons_zero, List.set_cons_succ]
    refine wpAnyH_take (i := 4) (oi := { dst := some 24, op := Go.Op.load 24 (Go.Operand.tmp 23), type := 24, pos := "kinds.go:57", after := #[{ on := 3, ground := Go.Ground.data }], guard := none }) (v := ?_) rfl (by kernel_rfl) (by kernel_rfl) (by kernel_rfl) (fun _ _ _ h => h) (Or.inl ⟨by rfl, ?_⟩) (by assumption) ?_
    rotate_left
    · intro w hSw
      try dsimp only at hSw
      go_simp
      try with_reducible rfl
    try simp only [Act.put, List.setIfInBounds_toArray, List.set_cons_zero, List.set_cons_succ]
    refine wpAnyH_take (i := 2) (oi := { dst := some 22, op := Go.Op.call { callee := Go.Callee.builtin Go.Builtin.len, args := #[Go.Operand.tmp 21], argTypes := #[23] }, type := 3, pos := "kinds.go:57", after := #[{ on := 1, ground := Go.Ground.data }], guard := none }) (v := ?_) rfl (by kernel_rfl) (by kernel_rfl) (by kernel_rfl) (fun _ _ _ h => h) (Or.inl ⟨by rfl, ?_⟩) (by assumption) ?_
    rotate_left
    · intro w hSw
      try dsimp only at hSw
      go_simp
      try with_reducible rfl
    try simp only [Act.put, List.setIfInBounds_toArray, List.set_cons_zero, List.set_cons_succ]
    refine wpAnyH_take (i := 5) (oi := { dst := some 25, op := Go.Op.call { callee := Go.Callee.builtin Go.Builtin.len, args := #[Go.Operand.tmp 24], argTypes := #[24] }, type := 3, pos := "kinds.go:57", after := #[{ on := 4, ground := Go.Ground.data }], guard := none }) (v := ?_) rfl (by kernel_rfl) (by kernel_rfl) (by kernel_rfl) (fun _ _ _ h => h) (Or.inl ⟨by rfl, ?_⟩) (by assumption) ?_
    rotate_left
    · intro w hSw
      try dsimp only at hSw
      go_simp
      try with_reducible rfl
    try simp only [Act.put, List.setIfInBounds_toArray, List.set_cons_zero, List.set_cons_succ]
    refine wpAnyH_take (i := 6) (oi := { dst := some 26, op := Go.Op.binOp Go.BinOp.eql 3 (Go.Operand.tmp 22) (Go.Operand.tmp 25) 3, type := 4, pos := "kinds.go:57", after := #[{ on := 2, ground := Go.Ground.data }, { on := 5, ground := Go.Ground.data }], guard := none }) (v := ?_) rfl (by kernel_rfl) (by kernel_rfl) (by kernel_rfl) (fun _ _ _ h => h) (Or.inl ⟨by rfl, ?_⟩) (by assumption) ?_
    rotate_left
    · intro w hSw
      try dsimp only at hSw
      go_simp
      try with_reducible rfl
    try simp only [Act.put, List.setIfInBounds_toArray, List.set_cons_zero, List.set_cons_succ]
    refine wpAnyH_take (i := 7) (oi := { dst := some 27, op := Go.Op.move (Go.Operand.tmp 26), type := 4, pos := "kinds.go:57", after := #[{ on := 6, ground := Go.Ground.data }], guard := none }) (v := ?_) rfl (by kernel_rfl) (by kernel_rfl) (by kernel_rfl) (fun _ _ _ h => h) (Or.inl ⟨by rfl, ?_⟩) (by assumption) ?_
    rotate_left
    · intro w hSw
      try dsimp only at hSw
      go_simp
      try with_reducible rfl
    try simp only [Act.put, List.setIfInBounds_toArray, List.set_cons_zero, List.set_cons_succ]
    refine wpAnyH_take (i := 8) (oi := { dst := some 28, op := Go.Op.fieldAddr 26 (Go.Operand.tmp 1) 2, type := 0, pos := "kinds.go:57", after := #[{ on := 7, ground := Go.Ground.guard }], guard := some (7, true) }) (v := ?_) rfl (by kernel_rfl) (by kernel_rfl) (by kernel_rfl) (fun _ _ _ h => h) (Or.inl ⟨by rfl, ?_⟩) (by assumption) ?_
    rotate_left
    · intro w hSw
      try dsimp only at hSw
      go_simp
      try with_reducible rfl
    try simp only [Act.put, List.setIfInBounds_toArray, List.set_cons_zero, List.set_cons_succ]
    refine wpAnyH_take (i := 12) (oi := { dst := some 32, op := Go.Op.fieldAddr 26 (Go.Operand.tmp 1) 2, type := 0, pos := "kinds.go:57", after := #[{ on := 7, ground := Go.Ground.guard }], guard := some (7, true) }) (v := ?_) rfl (by kernel_rfl) (by kernel_rfl) (by kernel_rfl) (fun _ _ _ h => h) (Or.inl ⟨by rfl, ?_⟩) (by assumption) ?_
    rotate_left
    · intro w hSw
      try dsimp only at hSw
      go_simp
      try with_reducible rfl
    try simp only [Act.put, List.setIfInBounds_toArray, List.set_cons_zero, List.set_cons_succ]
    refine wpAnyH_take (i := 9) (oi := { dst := some 29, op := Go.Op.load 24 (Go.Operand.tmp 28), type := 24, pos := "kinds.go:57", after := #[{ on := 8, ground := Go.Ground.data }, { on := 7, ground := Go.Ground.guard }], guard := some (7, true) }) (v := ?_) rfl (by kernel_rfl) (by kernel_rfl) (by kernel_rfl) (fun _ _ _ h => h) (Or.inl ⟨by rfl, ?_⟩) (by assumption) ?_
    rotate_left
    · intro w hSw
      try dsimp only at hSw
      go_simp
      try with_reducible rfl
    try simp only [Act.put, List.setIfInBounds_toArray, List.set_cons_zero, List.set_cons_succ]
    refine wpAnyH_take (i := 13) (oi := { dst := some 33, op := Go.Op.load 24 (Go.Operand.tmp 32), type := 24, pos := "kinds.go:57", after := #[{ on := 12, ground := Go.Ground.data }, { on := 7, ground := Go.Ground.guard }], guard := some (7, true) }) (v := ?_) rfl (by kernel_rfl) (by kernel_rfl) (by kernel_rfl) (fun _ _ _ h => h) (Or.inl ⟨by rfl, ?_⟩) (by assumption) ?_
    rotate_left
    · intro w hSw
      try dsimp only at hSw
      go_simp
      try with_reducible rfl
    try simp only [Act.put, List.setIfInBounds_toArray, List.set_cons_zero, List.set_cons_succ]
    refine wpAnyH_take (i := 14) (oi := { dst := some 34, op := Go.Op.call { callee := Go.Callee.builtin Go.Builtin.len, args := #[Go.Operand.tmp 33], argTypes := #[24] }, type := 3, pos := "kinds.go:57", after := #[{ on := 13, ground := Go.Ground.data }, { on := 7, ground := Go.Ground.guard }], guard := some (7, true) }) (v := ?_) rfl (by kernel_rfl) (by kernel_rfl) (by kernel_rfl) (fun _ _ _ h => h) (Or.inl ⟨by rfl, ?_⟩) (by assumption) ?_
    rotate_left
    · intro w hSw
      try dsimp only at hSw
      go_simp
      try with_reducible rfl
    try simp only [Act.put, List.setIfInBounds_toArray, List.set_cons_zero, List.set_cons_succ]
    refine wpAnyH_ready (rs := [10]) (by kernel_rfl) (by simp) ?_
    refine AllReadyH.cons (o := { dst := some 30, op := Go.Op.call { callee := Go.Callee.value (Go.Operand.func 58), args := #[Go.Operand.tmp 29], argTypes := #[24] }, type := 71, pos := "kinds.go:57", after := #[{ on := 9, ground := Go.Ground.data }, { on := 7, ground := Go.Ground.chain }, { on := 7, ground := Go.Ground.guard }], guard := some (7, true) }) rfl (fun K hK => ?_) AllReadyH.nil
    go_simp
    refine (PW.out _ (R0.out.on hHeld.2.2.2)).mono ?_
    rintro e v4 ⟨rfl, PL, hb4⟩
    have ML := fun ty => World.ownsMap.len (t := 71) PL Try.underlying71 ty
    rw [placesD_size] at ML
    simp only [World.size_drew] at ML
    have HBx := Lib.hid (bstep hHeld.2.2.2 hb4)
    clear hHeld hb4
    refine hK.out _ _ ?_ (fun hHeld => ?_)
    · exact (kreg3 Y0 (HBx.out))
    clear hK K HBx
    try simp only [Act.put, List.setIfInBounds_toArray, List.set_cons_zero, List.set_cons_succ]
    refine wpAnyH_ready (rs := [11]) (by kernel_rfl) (by simp) ?_
    refine AllReadyH.cons (o := { dst := some 31, op := Go.Op.call { callee := Go.Callee.builtin Go.Builtin.len, args := #[Go.Operand.tmp 30], argTypes := #[71] }, type := 3, pos := "kinds.go:57", after := #[{ on := 10, ground := Go.Ground.data }, { on := 10, ground := Go.Ground.chain }, { on := 7, ground := Go.Ground.guard }], guard := some (7, true) }) rfl (fun K hK => ?_) AllReadyH.nil
    go_simp
    have hb5 := Below.refl v4.heap.size v4
    have HBx := Lib.hid (bstep hHeld.2.2.2 hb5)
    clear hHeld hb5
    refine hK.out _ _ ?_ (fun hHeld => ?_)
    · exact (kreg3 Y0 (HBx.out))
    clear hK K HBx
    try simp only [Act.put, List.setIfInBounds_toArray, List.set_cons_zero, List.set_cons_succ]
    refine wpAnyH_take (i := 15) (oi := { dst := some 35, op := Go.Op.binOp Go.BinOp.eql 3 (Go.Operand.tmp 31) (Go.Operand.tmp 34) 3, type := 4, pos := "kinds.go:57", after := #[{ on := 11, ground := Go.Ground.data }, { on := 14, ground := Go.Ground.data }, { on := 7, ground := Go.Ground.guard }], guard := some (7, true) }) (v := ?_) rfl (by kernel_rfl) (by kernel_rfl) (by kernel_rfl) (fun _ _ _ h => h) (Or.inl ⟨by rfl, ?_⟩) (by assumption) ?_
    rotate_left
    · intro w hSw
      try dsimp only at hSw
      go_simp
      try with_reducible rfl
    try simp only [Act.put, List.setIfInBounds_toArray, List.set_cons_zero, List.set_cons_succ]
    refine wpAnyH_take (i := 16) (oi := { dst := some 36, op := Go.Op.pick (Go.Operand.tmp 27) (Go.Operand.tmp 35) (Go.Operand.const (Go.Value.bool false)), type := 4, pos := "kinds.go:57", after := #[{ on := 7, ground := Go.Ground.data }, { on := 15, ground := Go.Ground.data }], guard := none }) (v := ?_) rfl (by kernel_rfl) (by kernel_rfl) (by kernel_rfl) (fun _ _ _ h => h) (Or.inl ⟨by rfl, ?_⟩) (by assumption) ?_
    rotate_left
    · intro w hSw
      try dsimp only at hSw
      go_simp
      try with_reducible rfl
    try simp only [Act.put, List.setIfInBounds_toArray, List.set_cons_zero, List.set_cons_succ]
    refine wpAnyH_take (i := 17) (oi := { dst := some 2, op := Go.Op.assign (Go.Operand.tmp 36), type := 4, pos := "kinds.go:57", after := #[{ on := 16, ground := Go.Ground.data }, { on := 11, ground := Go.Ground.chain }, { on := 0, ground := Go.Ground.phase }, { on := 1, ground := Go.Ground.phase }, { on := 2, ground := Go.Ground.phase }, { on := 3, ground := Go.Ground.phase }, { on := 4, ground := Go.Ground.phase }, { on := 5, ground := Go.Ground.phase }, { on := 6, ground := Go.Ground.phase }, { on := 7, ground := Go.Ground.phase }, { on := 8, ground := Go.Ground.phase }, { on := 9, ground := Go.Ground.phase }, { on := 10, ground := Go.Ground.phase }, { on := 11, ground := Go.Ground.phase }, { on := 12, ground := Go.Ground.phase }, { on := 13, ground := Go.Ground.phase }, { on := 14, ground := Go.Ground.phase }, { on := 15, ground := Go.Ground.phase }, { on := 16, ground := Go.Ground.phase }], guard := none }) (v := ?_) rfl (by kernel_rfl) (by kernel_rfl) (by kernel_rfl) (fun _ _ _ h => h) (Or.inl ⟨by rfl, ?_⟩) (by assumption) ?_
    rotate_left
    · intro w hSw
      try dsimp only at hSw
      go_simp
      try with_reducible rfl
    try simp only [Act.put, List.setIfInBounds_toArray, List.set_cons_zero, List.set_cons_succ]
    refine wpAnyH_done (by kernel_rfl) ?_ _
    go_wp2
    go_ret
    exact ⟨rfl, bstep BV0 hHeld.2.2.2⟩
  · have hh : (sizeN nm m == m && n == m) = false := by simp [hn]
    rw [hh]
    have n0 : ((n : Int) == (m : Int)) = false := by simp; omega
    go_enter Try.func40, Try.ntmps40
    go_wp2
    go_region
    go_wp2
    go_ret
    exact ⟨rfl, Below.drew ((Below.refl _ _).alloc (Nat.le_refl _) _)⟩
set_option linter.unusedSimpArgs false in
set_option linter.unusedVariables false in
set_option maxRecDepth 100000 in
set_option maxHeartbeats 2000000 in
theorem mayHave_other (S : Nat → Prop) (w : World) (n : Nat) (it : Nat → T) (m : Nat) (nm : Nat → ByteArray) (a : Option Addr) (c : Nat) (b : Option Addr) (d : Nat) (k : Int) (h : Lies S w (TV k a n c b m d) (.mk k n it m nm)) (k0 : k ≠ 10) (k1 : k ≠ 11) (k2 : k ≠ 12) (k3 : k ≠ 13) : Calls Try.prog 40 #[TV k a n c b m d] w (Ret (.bool (headB k n m nm)) w) := by
  have nways : n = 0 ∨ n = 1 ∨ 2 ≤ n := by omega
  have mways : m = 0 ∨ 0 < m := by omega
  have j0 : (k == 10) = false := by simp [k0]
  have j1 : (k == 11) = false := by simp [k1]
  have j2 : (k == 12) = false := by simp [k2]
  have j3 : (k == 13) = false := by simp [k3]
  have BX := Lib.hid (Boxed.new w (.int .i64 k) (.slice a n c) (.slice b m d))
  clear h
  cases hs : simB k with
  | true =>
    have SM := Lib.hid (show ∀ W, Calls Try.prog 17 #[.int .i64 k] W (Ret (.bool true) W) from fun W => by rw [← hs]; exact simple_walk k W)
    go_enter Try.func40, Try.ntmps40
    rcases nways with rfl | rfl | hn
    · rcases mways with rfl | hm
      · obtain ⟨vv, HM3⟩ : ∃ vv, vv = headB k 0 0 nm := ⟨_, rfl⟩
        rw [← HM3]
        simp [headB, hs, j0, j1, j2, j3, k0, k1, k2, k3] at HM3
        subst HM3
        go_wp2_with (go_at_call 17; (with_reducible refine (SM.out _).mono ?_); rintro e w5 ⟨rfl, hb5⟩; obtain ⟨z0, z1, z2⟩ := (BX.out.below hb5).cells)
        go_ret
        exact ⟨rfl, bstep ((Below.refl _ _).alloc (Nat.le_refl _) _) hb5⟩
      · have m0 : ((m : Int) == 0) = false := by simp; omega
        have m6 : (m == 0) = false := by simp; omega
        have m9 : ¬ m = 0 := by omega
        obtain ⟨vv, HM3⟩ : ∃ vv, vv = headB k 0 m nm := ⟨_, rfl⟩
        rw [← HM3]
        simp [headB, hs, j0, j1, j2, j3, k0, k1, k2, k3, m6, m9] at HM3
        subst HM3
        go_wp2_with (go_at_call 17; (with_reducible refine (SM.out _).mono ?_); rintro e w5 ⟨rfl, hb5⟩; obtain ⟨z0, z1, z2⟩ := (BX.out.below hb5).cells)
        go_ret
        exact ⟨rfl, bstep ((Below.refl _ _).alloc (Nat.le_refl _) _) hb5⟩
    · rcases mways with rfl | hm
      · obtain ⟨vv, HM3⟩ : ∃ vv, vv = headB k 1 0 nm := ⟨_, rfl⟩
        rw [← HM3]
        simp [headB, hs, j0, j1, j2, j3, k0, k1, k2, k3] at HM3
        subst HM3
        go_wp2_with (go_at_call 17; (with_reducible refine (SM.out _).mono ?_); rintro e w5 ⟨rfl, hb5⟩; obtain ⟨z0, z1, z2⟩ := (BX.out.below hb5).cells)
        go_ret
        exact ⟨rfl, bstep ((Below.refl _ _).alloc (Nat.le_refl _) _) hb5⟩
      · have m0 : ((m : Int) == 0) = false := by simp; omega
        have m6 : (m == 0) = false := by simp; omega
        have m9 : ¬ m = 0 := by omega
        obtain ⟨vv, HM3⟩ : ∃ vv, vv = headB k 1 m nm := ⟨_, rfl⟩
        rw [← HM3]
        simp [headB, hs, j0, j1, j2, j3, k0, k1, k2, k3, m6, m9] at HM3
        subst HM3
        go_wp2_with (go_at_call 17; (with_reducible refine (SM.out _).mono ?_); rintro e w5 ⟨rfl, hb5⟩; obtain ⟨z0, z1, z2⟩ := (BX.out.below hb5).cells)
        go_ret
        exact ⟨rfl, bstep ((Below.refl _ _).alloc (Nat.le_refl _) _) hb5⟩
    · have n0 : ((n : Int) == 0) = false := by simp; omega
      have n1 : ((n : Int) == 1) = false := by simp; omega
      have n4 : (0 : Int) < (n : Int) := by omega
      have n6 : (n == 0) = false := by simp; omega
      have n7 : (n == 1) = false := by simp; omega
      have n8 : 0 < n := by omega
      have n9 : ¬ n = 0 := by omega
      have n10 : ¬ n = 1 := by omega
      rcases mways with rfl | hm
      · obtain ⟨vv, HM3⟩ : ∃ vv, vv = headB k n 0 nm := ⟨_, rfl⟩
        rw [← HM3]
        simp [headB, hs, j0, j1, j2, j3, k0, k1, k2, k3, n6, n7, n8, n9, n10] at HM3
        subst HM3
        go_wp2_with (go_at_call 17; (with_reducible refine (SM.out _).mono ?_); rintro e w5 ⟨rfl, hb5⟩; obtain ⟨z0, z1, z2⟩ := (BX.out.below hb5).cells)
        go_ret
        exact ⟨rfl, bstep ((Below.refl _ _).alloc (Nat.le_refl _) _) hb5⟩
      · have m0 : ((m : Int) == 0) = false := by simp; omega
        have m6 : (m == 0) = false := by simp; omega
        have m9 : ¬ m = 0 := by omega
        obtain ⟨vv, HM3⟩ : ∃ vv, vv = headB k n m nm := ⟨_, rfl⟩
        rw [← HM3]
        simp [headB, hs, j0, j1, j2, j3, k0, k1, k2, k3, n6, n7, n8, n9, n10, m6, m9] at HM3
        subst HM3
        go_wp2_with (go_at_call 17; (with_reducible refine (SM.out _).mono ?_); rintro e w5 ⟨rfl, hb5⟩; obtain ⟨z0, z1, z2⟩ := (BX.out.below hb5).cells)
        go_ret
        exact ⟨rfl, bstep ((Below.refl _ _).alloc (Nat.le_refl _) _) hb5⟩
  | false =>
    have SM := Lib.hid (show ∀ W, Calls Try.prog 17 #[.int .i64 k] W (Ret (.bool false) W) from fun W => by rw [← hs]; exact simple_walk k W)
    go_enter Try.func40, Try.ntmps40
    rcases nways with rfl | rfl | hn
    · rcases mways with rfl | hm
      · obtain ⟨vv, HM3⟩ : ∃ vv, vv = headB k 0 0 nm := ⟨_, rfl⟩
        rw [← HM3]
        simp [headB, hs, j0, j1, j2, j3, k0, k1, k2, k3] at HM3
        subst HM3
        go_wp2_with (go_at_call 17; (with_reducible refine (SM.out _).mono ?_); rintro e w5 ⟨rfl, hb5⟩; obtain ⟨z0, z1, z2⟩ := (BX.out.below hb5).cells)
        go_ret
        exact ⟨rfl, bstep ((Below.refl _ _).alloc (Nat.le_refl _) _) hb5⟩
      · have m0 : ((m : Int) == 0) = false := by simp; omega
        have m6 : (m == 0) = false := by simp; omega
        have m9 : ¬ m = 0 := by omega
        obtain ⟨vv, HM3⟩ : ∃ vv, vv = headB k 0 m nm := ⟨_, rfl⟩
        rw [← HM3]
        simp [headB, hs, j0, j1, j2, j3, k0, k1, k2, k3, m6, m9] at HM3
        subst HM3
        go_wp2_with (go_at_call 17; (with_reducible refine (SM.out _).mono ?_); rintro e w5 ⟨rfl, hb5⟩; obtain ⟨z0, z1, z2⟩ := (BX.out.below hb5).cells)
        go_ret
        exact ⟨rfl, bstep ((Below.refl _ _).alloc (Nat.le_refl _) _) hb5⟩
    · rcases mways with rfl | hm
      · obtain ⟨vv, HM3⟩ : ∃ vv, vv = headB k 1 0 nm := ⟨_, rfl⟩
        rw [← HM3]
        simp [headB, hs, j0, j1, j2, j3, k0, k1, k2, k3] at HM3
        subst HM3
        go_wp2_with (go_at_call 17; (with_reducible refine (SM.out _).mono ?_); rintro e w5 ⟨rfl, hb5⟩; obtain ⟨z0, z1, z2⟩ := (BX.out.below hb5).cells)
        go_ret
        exact ⟨rfl, bstep ((Below.refl _ _).alloc (Nat.le_refl _) _) hb5⟩
      · have m0 : ((m : Int) == 0) = false := by simp; omega
        have m6 : (m == 0) = false := by simp; omega
        have m9 : ¬ m = 0 := by omega
        obtain ⟨vv, HM3⟩ : ∃ vv, vv = headB k 1 m nm := ⟨_, rfl⟩
        rw [← HM3]
        simp [headB, hs, j0, j1, j2, j3, k0, k1, k2, k3, m6, m9] at HM3
        subst HM3
        go_wp2_with (go_at_call 17; (with_reducible refine (SM.out _).mono ?_); rintro e w5 ⟨rfl, hb5⟩; obtain ⟨z0, z1, z2⟩ := (BX.out.below hb5).cells)
        go_ret
        exact ⟨rfl, bstep ((Below.refl _ _).alloc (Nat.le_refl _) _) hb5⟩
    · have n0 : ((n : Int) == 0) = false := by simp; omega
      have n1 : ((n : Int) == 1) = false := by simp; omega
      have n4 : (0 : Int) < (n : Int) := by omega
      have n6 : (n == 0) = false := by simp; omega
      have n7 : (n == 1) = false := by simp; omega
      have n8 : 0 < n := by omega
      have n9 : ¬ n = 0 := by omega
      have n10 : ¬ n = 1 := by omega
      rcases mways with rfl | hm
      · obtain ⟨vv, HM3⟩ : ∃ vv, vv = headB k n 0 nm := ⟨_, rfl⟩
        rw [← HM3]
        simp [headB, hs, j0, j1, j2, j3, k0, k1, k2, k3, n6, n7, n8, n9, n10] at HM3
        subst HM3
        go_wp2_with (go_at_call 17; (with_reducible refine (SM.out _).mono ?_); rintro e w5 ⟨rfl, hb5⟩; obtain ⟨z0, z1, z2⟩ := (BX.out.below hb5).cells)
        go_ret
        exact ⟨rfl, bstep ((Below.refl _ _).alloc (Nat.le_refl _) _) hb5⟩
      · have m0 : ((m : Int) == 0) = false := by simp; omega
        have m6 : (m == 0) = false := by simp; omega
        have m9 : ¬ m = 0 := by omega
        obtain ⟨vv, HM3⟩ : ∃ vv, vv = headB k n m nm := ⟨_, rfl⟩
        rw [← HM3]
        simp [headB, hs, j0, j1, j2, j3, k0, k1, k2, k3, n6, n7, n8, n9, n10, m6, m9] at HM3
        subst HM3
        go_wp2_with (go_at_call 17; (with_reducible refine (SM.out _).mono ?_); rintro e w5 ⟨rfl, hb5⟩; obtain ⟨z0, z1, z2⟩ := (BX.out.below hb5).cells)
        go_ret
        exact ⟨rfl, bstep ((Below.refl _ _).alloc (Nat.le_refl _) _) hb5⟩
set_option linter.unusedSimpArgs false in
set_option linter.unusedVariables false in
set_option maxRecDepth 100000 in
set_option maxHeartbeats 2000000 in
theorem may_closure (t : T) (v : Bool) (hv : mayB t = v) (h : SaysB mayB 16 t) (S : Nat → Prop) (w : World) (k : Int) (a : Option Addr) (n c : Nat) (b : Option Addr) (m d : Nat) (l : Lies S w (TV k a n c b m d) t) :
    Calls Try.prog 42 #[TV k a n c b m d] w (Ret (.bool (!v)) w) := by
  have M1 := Lib.hid (fun X (l : Lies S X (TV k a n c b m d) t) => hv ▸ h S X k a n c b m d l)
  have HL := Lib.hid l
  clear l h
  go_enter Try.func42, Try.ntmps42
  go_wp2_with (go_at_call 16; (with_reducible refine (M1.out _ (HL.out.on ?_)).mono ?_); (· (repeat' (first | (with_reducible assumption) | (with_reducible exact Below.refl _ _) | (with_reducible refine Below.drew ?_) | (with_reducible refine ballD1 ?_ _) | (with_reducible refine Below.set1 ?_ _ _ ?_ _) | (show _ ≤ _; (try simp only [World.size_alloc, World.size_drew]); omega)))); rintro e w1 ⟨rfl, hb1⟩)
  go_ret
  exact ⟨rfl, bstep ((Below.refl _ _).alloc (Nat.le_refl _) _) hb1⟩
set_option linter.unusedSimpArgs false in
set_option linter.unusedVariables false in
set_option maxRecDepth 100000 in
set_option maxHeartbeats 4000000 in
theorem index_may (S : Nat → Prop) (w : World) (a : Option Addr) (n c : Nat) (it : Nat → T) (hI : ItemsAt S w a n it) (hn : n ≤ 2513169434843) (ih : ∀ i, i < n → SaysB mayB 16 (it i)) :
    Calls Try.prog 59 #[.slice a n c, .func (.func 42) #[] #[]] w fun e w' => (∃ r : Int, e = .returned (.int .i64 r) ∧ (decide (r ≥ 0)) = !(allN (fun i => mayB (it i)) n)) ∧ Below w.heap.size w w' := by
  have eg : ∀ args w, (callFunc 42 args).run Try.prog w = .ok (.enter 42 args) w := enters_of Try.func42 (by kernel_rfl) rfl
  have HI := Lib.hid hI
  have NB : (n : Int) ≤ 9223372036854775806 := by omega
  have IH := Lib.hid ih
  clear hI hn ih
  go_enter Try.func59, Try.ntmps59
  go_wp2
  go_loopg [5, 8] n (fun gg _ s8 wr => ∃ kk : Nat, kk ≤ n ∧ n - kk ≤ gg ∧ s8 = .int .i64 kk ∧ Hid (Below w.heap.size w wr) ∧ Hid (allN (fun i => mayB (it i)) kk = true))
  case atStart => exact ⟨0, Nat.zero_le _, Nat.le_refl _, rfl, Lib.hid (Below.refl _ w), Lib.hid rfl⟩
  case round =>
    obtain ⟨kk, hkk, hg, rfl, BW, AL⟩ := hrel
    by_cases hlt : kk < n
    · obtain ⟨g3, o3, rfl, -, k3, a3, n3, c3, b3, m3, d3, ⟨t0, t1, t2⟩, L3⟩ := (HI.out.on BW.out) kk hlt
      have hlti : (0 : Int) ≤ (kk : Int) ∧ (kk : Int) < (n : Int) := by omega
      cases hv : mayB (it kk) with
      | true =>
        have CL := Lib.hid (may_closure (it kk) true hv (IH.out kk hlt) S wr k3 a3 n3 c3 b3 m3 d3 L3)
        have AL2 := Lib.hid (show allN (fun i => mayB (it i)) (kk + 1) = true from by unfold allN; rw [AL.out, hv]; rfl)
        clear L3 hv AL
        go_wp2_with (go_at_fn 42; refine CL.out.mono ?_; rintro e w' ⟨rfl, hb'⟩)
        have B2 := Lib.hid (bstep BW.out hb')
        clear hb' t0 t1 t2
        go_roundg (n - (kk + 1))
        case measure => omega
        case rel => exact ⟨kk + 1, by omega, Nat.le_refl _, by go_num, B2, AL2⟩
      | false =>
        have CL := Lib.hid (may_closure (it kk) false hv (IH.out kk hlt) S wr k3 a3 n3 c3 b3 m3 d3 L3)
        have NO := Lib.hid (allN_no (fun i => mayB (it i)) n kk hlt hv)
        clear L3 hv AL
        go_wp2_with (go_at_fn 42; refine CL.out.mono ?_; rintro e w' ⟨rfl, hb'⟩)
        go_ret
        exact ⟨⟨_, rfl, by rw [NO.out]; simp⟩, bstep BW.out hb'⟩
    · obtain rfl : kk = n := by omega
      go_wp2
      go_ret
      exact ⟨⟨_, rfl, by rw [AL.out]; rfl⟩, BW.out⟩
set_option linter.unusedSimpArgs false in
set_option linter.unusedVariables false in
set_option maxRecDepth 100000 in
set_option maxHeartbeats 2000000 in
theorem contains_may (S : Nat → Prop) (w : World) (a : Option Addr) (n c : Nat) (it : Nat → T) (hI : ItemsAt S w a n it) (hn : n ≤ 2513169434843) (ih : ∀ i, i < n → SaysB mayB 16 (it i)) (v : Bool) (hv : allN (fun i => mayB (it i)) n = v) :
    Calls Try.prog 41 #[.slice a n c, .func (.func 42) #[] #[]] w (Ret (.bool (!v)) w) := by
  have IM := Lib.hid (index_may S w a n c it hI hn ih)
  rw [hv] at IM
  clear hI hn ih hv
  go_enter Try.func41, Try.ntmps41
  go_wp2_with (go_at_call 59; refine IM.out.mono ?_; rintro e w1 ⟨⟨r, rfl, hr⟩, hb1⟩)
  go_ret
  exact ⟨by simp [hr], hb1⟩
theorem mayHave_any (S : Nat → Prop) (w : World) (k : Int) (n : Nat) (it : Nat → T) (m : Nat) (nm : Nat → ByteArray) (a : Option Addr) (c : Nat) (b : Option Addr) (d : Nat) (h : Lies S w (TV k a n c b m d) (.mk k n it m nm)) : Calls Try.prog 40 #[TV k a n c b m d] w (Ret (.bool (headB k n m nm)) w) := by
  by_cases k0 : k = 10
  · subst k0; exact mayHave_10 S w n it m nm a c b d h
  by_cases k1 : k = 11
  · subst k1; exact mayHave_11 S w n it m nm a c b d h
  by_cases k2 : k = 12
  · subst k2; exact mayHave_12 S w n it m nm a c b d h
  by_cases k3 : k = 13
  · subst k3; exact mayHave_13 S w n it m nm a c b d h
  exact mayHave_other S w n it m nm a c b d k h k0 k1 k2 k3
set_option linter.unusedSimpArgs false in
set_option linter.unusedVariables false in
set_option maxRecDepth 100000 in
set_option maxHeartbeats 2000000 in
theorem may_step (k : Int) (n : Nat) (it : Nat → T) (m : Nat) (nm : Nat → ByteArray) (ih : ∀ i, i < n → SaysB mayB 16 (it i)) (S : Nat → Prop) (w : World) (a : Option Addr) (c : Nat) (b : Option Addr) (d : Nat) (h : Lies S w (TV k a n c b m d) (.mk k n it m nm)) :
    Calls Try.prog 16 #[TV k a n c b m d] w (Ret (.bool (mayB (.mk k n it m nm))) w) := by
  have MHW := Lib.hid (fun X (l : Lies S X (TV k a n c b m d) (.mk k n it m nm)) => mayHave_any S X k n it m nm a c b d l)
  have CMW := Lib.hid (fun X (l : Lies S X (TV k a n c b m d) (.mk k n it m nm)) v (hv : allN (fun i => mayB (it i)) n = v) => contains_may S X a n c it l.items l.few.1.1 ih v hv)
  have HL := Lib.hid h
  have BX := Lib.hid (Boxed.new w (.int .i64 k) (.slice a n c) (.slice b m d))
  obtain ⟨x0, x1, x2⟩ := BX.out.cells
  rw [mayB_mk]
  clear h ih
  cases hh : headB k n m nm with
  | false =>
    rw [Bool.and_false]
    have MH2 := Lib.hid (show ∀ X, Lies S X (TV k a n c b m d) (.mk k n it m nm) → Calls Try.prog 40 #[TV k a n c b m d] X (Ret (.bool false) X) from fun X l => by rw [← hh]; exact MHW.out X l)
    clear hh
    go_enter Try.func16, Try.ntmps16
    go_wp2_with (go_at_call 40; (with_reducible refine (MH2.out _ (HL.out.on ?_)).mono ?_); (· (repeat' (first | (with_reducible assumption) | (with_reducible exact Below.refl _ _) | (with_reducible refine Below.drew ?_) | (with_reducible refine ballD1 ?_ _) | (with_reducible refine Below.set1 ?_ _ _ ?_ _) | (show _ ≤ _; (try simp only [World.size_alloc, World.size_drew]); omega)))); rintro e w1 ⟨rfl, hb1⟩)
    go_ret
    exact ⟨rfl, bstep ((Below.refl _ _).alloc (Nat.le_refl _) _) hb1⟩
  | true =>
    rw [Bool.and_true]
    have MH2 := Lib.hid (show ∀ X, Lies S X (TV k a n c b m d) (.mk k n it m nm) → Calls Try.prog 40 #[TV k a n c b m d] X (Ret (.bool true) X) from fun X l => by rw [← hh]; exact MHW.out X l)
    clear hh
    cases hv : allN (fun i => mayB (it i)) n with
    | true =>
      have CM2 := Lib.hid (fun X l => CMW.out X l true hv)
      go_enter Try.func16, Try.ntmps16
      go_wp2_with (first
        | (go_at_call 40; (with_reducible refine (MH2.out _ (HL.out.on ?_)).mono ?_); (· (repeat' (first | (with_reducible assumption) | (with_reducible exact Below.refl _ _) | (with_reducible refine Below.drew ?_) | (with_reducible refine ballD1 ?_ _) | (with_reducible refine Below.set1 ?_ _ _ ?_ _) | (show _ ≤ _; (try simp only [World.size_alloc, World.size_drew]); omega)))); rintro e w1 ⟨rfl, hb1⟩; obtain ⟨z0, z1, z2⟩ := (BX.out.below hb1).cells)
        | (go_at_call 41; (with_reducible refine (CM2.out _ (HL.out.on ?_)).mono ?_); (· (repeat' (first | (with_reducible assumption) | (with_reducible exact Below.refl _ _) | (with_reducible refine Below.drew ?_) | (with_reducible refine ballD1 ?_ _) | (with_reducible refine Below.set1 ?_ _ _ ?_ _) | (show _ ≤ _; (try simp only [World.size_alloc, World.size_drew]); omega) | (refine bstep ?_ hb1)))); rintro e w2 ⟨rfl, hb2⟩))
      go_ret
      exact ⟨rfl, bstep (bstep ((Below.refl _ _).alloc (Nat.le_refl _) _) hb1) hb2⟩
    | false =>
      have CM2 := Lib.hid (fun X l => CMW.out X l false hv)
      go_enter Try.func16, Try.ntmps16
      go_wp2_with (first
        | (go_at_call 40; (with_reducible refine (MH2.out _ (HL.out.on ?_)).mono ?_); (· (repeat' (first | (with_reducible assumption) | (with_reducible exact Below.refl _ _) | (with_reducible refine Below.drew ?_) | (with_reducible refine ballD1 ?_ _) | (with_reducible refine Below.set1 ?_ _ _ ?_ _) | (show _ ≤ _; (try simp only [World.size_alloc, World.size_drew]); omega)))); rintro e w1 ⟨rfl, hb1⟩; obtain ⟨z0, z1, z2⟩ := (BX.out.below hb1).cells)
        | (go_at_call 41; (with_reducible refine (CM2.out _ (HL.out.on ?_)).mono ?_); (· (repeat' (first | (with_reducible assumption) | (with_reducible exact Below.refl _ _) | (with_reducible refine Below.drew ?_) | (with_reducible refine ballD1 ?_ _) | (with_reducible refine Below.set1 ?_ _ _ ?_ _) | (show _ ≤ _; (try simp only [World.size_alloc, World.size_drew]); omega) | (refine bstep ?_ hb1)))); rintro e w2 ⟨rfl, hb2⟩))
      go_ret
      exact ⟨rfl, bstep (bstep ((Below.refl _ _).alloc (Nat.le_refl _) _) hb1) hb2⟩
theorem may_any : ∀ t, SaysB mayB 16 t := by
  intro t
  induction t with
  | z => intro S w k a n c b m d h; cases h
  | mk k n it m nm ih =>
    intro S w k' a n' c b m' d h
    obtain rfl : k = k' := h.kk
    obtain rfl : n = n' := h.nn
    obtain rfl : m = m' := h.mm
    exact may_step k n it m nm (fun i _ => ih i) S w a c b d h
end Go.Proofs.Ytielmfchbgajnaa

/-
  KindsMay walked (layer 13), up to its last region.
-/
import Derived.Test.YtielmfchbgajnaaKAll
import Derived.Test.YtielmfchbgajnaaKx
import Derived.Test.YtielmfchbgajnaaKe
namespace Go.Proofs.Ytielmfchbgajnaa
open Go.RowKit Go.Shelf

theorem first_name (nm : Nat → ByteArray) (s : ByteArray) : ∀ r, (∃ j, j < r ∧ nm j = s ∧ ∀ i, i < j → nm i ≠ s) ∨ ∀ i, i < r → nm i ≠ s
  | 0 => .inr fun i hi => absurd hi (Nat.not_lt_zero _)
  | r + 1 => by
    rcases first_name nm s r with ⟨j, hj, e, h⟩ | h
    · exact .inl ⟨j, by omega, e, h⟩
    · by_cases e : nm r = s
      · exact .inl ⟨r, by omega, e, h⟩
      · refine .inr fun i hi => ?_
        rcases Nat.lt_or_ge i r with q | q
        · exact h i q
        · obtain rfl : i = r := by omega
          exact e
theorem entry_any (S : Nat → Prop) (w : World) (k : Int) (a : Option Addr) (n c : Nat) (b : Option Addr) (m d : Nat) (t : T) (h : Lies S w (TV k a n c b m d) t) (s : ByteArray) : ∃ t' ok, Calls Try.prog 14 #[TV k a n c b m d, .string s] w (RetTO (New w) t' ok w) := by
  by_cases hk : k = 11
  · subst hk
    rcases first_name t.nm s (min m n) with ⟨j, hj, e, hn⟩ | hn
    · exact ⟨_, _, entry_yes S w a n c b m d t h s j hj e hn⟩
    · exact ⟨_, _, entry_no S w a n c b m d t h s hn⟩
  · exact ⟨_, _, entry_other S w k a n c b m d t h s hk⟩
theorem three_row (w : World) (k : Int) (a : Option Addr) (n c : Nat) (b : Option Addr) (m d : Nat) (k' : Int) (a' : Option Addr) (n' c' : Nat) (b' : Option Addr) (m' d' : Nat) (A B : T) (h1 : Lies Tr w (TV k a n c b m d) A) (h2 : Lies Tr w (TV k' a' n' c' b' m' d') B) : ItemsAt (Sb Tr (w.alloc (.cells #[.int .i64 k, .slice a n c, .slice b m d, .int .i64 k', .slice a' n' c', .slice b' m' d', .int .i64 k, .slice a n c, .slice b m d] 26))) (w.alloc (.cells #[.int .i64 k, .slice a n c, .slice b m d, .int .i64 k', .slice a' n' c', .slice b' m' d', .int .i64 k, .slice a n c, .slice b m d] 26)) (some ⟨w.heap.size, 0, none⟩) 3 (fun i => if i = 1 then B else A) := fun i hi => by
  have s : Sb Tr (w.alloc (.cells #[.int .i64 k, .slice a n c, .slice b m d, .int .i64 k', .slice a' n' c', .slice b' m' d', .int .i64 k, .slice a n c, .slice b m d] 26)) w.heap.size := ⟨trivial, by simp only [World.size_alloc]; omega⟩
  have q1 := (h1.alloc (.cells #[.int .i64 k, .slice a n c, .slice b m d, .int .i64 k', .slice a' n' c', .slice b' m' d', .int .i64 k, .slice a n c, .slice b m d] 26)).sb
  have q2 := (h2.alloc (.cells #[.int .i64 k, .slice a n c, .slice b m d, .int .i64 k', .slice a' n' c', .slice b' m' d', .int .i64 k, .slice a n c, .slice b m d] 26)).sb
  rcases (show i = 0 ∨ i = 1 ∨ i = 2 by omega) with rfl | rfl | rfl
  · exact ⟨w.heap.size, 0, rfl, s, k, a, n, c, b, m, d, ⟨by simp [go_sem], by simp [go_sem], by simp [go_sem]⟩, q1⟩
  · exact ⟨w.heap.size, 0, rfl, s, k', a', n', c', b', m', d', ⟨by simp [go_sem], by simp [go_sem], by simp [go_sem]⟩, q2⟩
  · exact ⟨w.heap.size, 0, rfl, s, k, a, n, c, b, m, d, ⟨by simp [go_sem], by simp [go_sem], by simp [go_sem]⟩, q1⟩
abbrev o3_0 : Oper := { dst := some 59, op := Op.move (Operand.tmp 9), type := 4, pos := "law.go:124", after := #[], guard := none }
abbrev o3_1 : Oper := { dst := some 60, op := Op.move (Operand.tmp 11), type := 4, pos := "law.go:124", after := #[], guard := none }
abbrev o3_2 : Oper := { dst := some 61, op := Op.move (Operand.tmp 60), type := 4, pos := "law.go:124", after := #[{ on := 1, ground := Ground.data }], guard := none }
abbrev o3_3 : Oper := { dst := some 62, op := Op.fieldAddr 26 (Operand.tmp 3) 0, type := 0, pos := "law.go:124", after := #[{ on := 2, ground := Ground.guard }], guard := some (2, true) }
abbrev o3_4 : Oper := { dst := some 63, op := Op.load 22 (Operand.tmp 62), type := 22, pos := "law.go:124", after := #[{ on := 3, ground := Ground.data }, { on := 2, ground := Ground.guard }], guard := some (2, true) }
abbrev o3_5 : Oper := { dst := some 64, op := Op.binOp BinOp.eql 22 (Operand.tmp 63) (Operand.const (Value.int IntKind.i64 11)) 22, type := 4, pos := "law.go:124", after := #[{ on := 4, ground := Ground.data }, { on := 2, ground := Ground.guard }], guard := some (2, true) }
abbrev o3_6 : Oper := { dst := some 65, op := Op.pick (Operand.tmp 61) (Operand.tmp 64) (Operand.const (Value.bool false)), type := 4, pos := "law.go:124", after := #[{ on := 2, ground := Ground.data }, { on := 5, ground := Ground.data }], guard := none }
abbrev o3_7 : Oper := { dst := some 66, op := Op.binOp BinOp.eql 4 (Operand.tmp 59) (Operand.tmp 65) 4, type := 4, pos := "law.go:124", after := #[{ on := 0, ground := Ground.data }, { on := 6, ground := Ground.data }], guard := none }
abbrev o3_8 : Oper := { dst := some 67, op := Op.move (Operand.tmp 66), type := 4, pos := "law.go:124", after := #[{ on := 7, ground := Ground.data }, { on := 2, ground := Ground.chain }], guard := none }
abbrev o3_9 : Oper := { dst := some 68, op := Op.move (Operand.tmp 9), type := 4, pos := "law.go:124", after := #[{ on := 8, ground := Ground.guard }], guard := some (8, true) }
abbrev o3_10 : Oper := { dst := some 69, op := Op.unOp UnOp.not 4 (Operand.tmp 68), type := 4, pos := "law.go:124", after := #[{ on := 9, ground := Ground.data }, { on := 8, ground := Ground.guard }], guard := some (8, true) }
abbrev o3_11 : Oper := { dst := some 70, op := Op.move (Operand.tmp 69), type := 4, pos := "law.go:124", after := #[{ on := 10, ground := Ground.data }, { on := 8, ground := Ground.chain }, { on := 8, ground := Ground.guard }], guard := some (8, true) }
abbrev o3_12 : Oper := { dst := some 71, op := Op.load 26 (Operand.tmp 8), type := 26, pos := "law.go:124", after := #[{ on := 11, ground := Ground.guard }], guard := some (11, false) }
abbrev o3_13 : Oper := { dst := some 72, op := Op.call { callee := Callee.value (Operand.func 13), args := #[Operand.tmp 71], argTypes := #[26] }, type := 9, pos := "law.go:124", after := #[{ on := 12, ground := Ground.data }, { on := 11, ground := Ground.chain }, { on := 11, ground := Ground.guard }], guard := some (11, false) }
abbrev o3_14 : Oper := { dst := some 73, op := Op.load 26 (Operand.tmp 10), type := 26, pos := "law.go:124", after := #[{ on := 11, ground := Ground.guard }], guard := some (11, false) }
abbrev o3_15 : Oper := { dst := some 74, op := Op.call { callee := Callee.value (Operand.func 13), args := #[Operand.tmp 73], argTypes := #[26] }, type := 9, pos := "law.go:124", after := #[{ on := 14, ground := Ground.data }, { on := 13, ground := Ground.chain }, { on := 11, ground := Ground.guard }], guard := some (11, false) }
abbrev o3_16 : Oper := { dst := some 75, op := Op.binOp BinOp.eql 9 (Operand.tmp 72) (Operand.tmp 74) 9, type := 4, pos := "law.go:124", after := #[{ on := 13, ground := Ground.data }, { on := 15, ground := Ground.data }, { on := 11, ground := Ground.guard }], guard := some (11, false) }
abbrev o3_17 : Oper := { dst := some 76, op := Op.pick (Operand.tmp 70) (Operand.const (Value.bool true)) (Operand.tmp 75), type := 4, pos := "law.go:124", after := #[{ on := 11, ground := Ground.data }, { on := 16, ground := Ground.data }, { on := 8, ground := Ground.guard }], guard := some (8, true) }
abbrev o3_18 : Oper := { dst := some 77, op := Op.pick (Operand.tmp 67) (Operand.tmp 76) (Operand.const (Value.bool false)), type := 4, pos := "law.go:124", after := #[{ on := 8, ground := Ground.data }, { on := 17, ground := Ground.data }], guard := none }
abbrev o3_19 : Oper := { dst := some 78, op := Op.move (Operand.tmp 77), type := 4, pos := "law.go:124", after := #[{ on := 18, ground := Ground.data }, { on := 15, ground := Ground.chain }], guard := none }
abbrev o3_20 : Oper := { dst := some 79, op := Op.load 26 (Operand.tmp 3), type := 26, pos := "law.go:124", after := #[{ on := 19, ground := Ground.guard }], guard := some (19, true) }
abbrev o3_21 : Oper := { dst := some 80, op := Op.call { callee := Callee.value (Operand.func 20), args := #[Operand.tmp 79], argTypes := #[26] }, type := 26, pos := "law.go:124", after := #[{ on := 20, ground := Ground.data }, { on := 19, ground := Ground.chain }, { on := 19, ground := Ground.guard }], guard := some (19, true) }
abbrev o3_22 : Oper := { dst := some 81, op := Op.call { callee := Callee.value (Operand.func 16), args := #[Operand.tmp 80], argTypes := #[26] }, type := 4, pos := "law.go:124", after := #[{ on := 21, ground := Ground.data }, { on := 21, ground := Ground.chain }, { on := 19, ground := Ground.guard }], guard := some (19, true) }
abbrev o3_23 : Oper := { dst := some 82, op := Op.pick (Operand.tmp 78) (Operand.tmp 81) (Operand.const (Value.bool false)), type := 4, pos := "law.go:124", after := #[{ on := 19, ground := Ground.data }, { on := 22, ground := Ground.data }], guard := none }
abbrev o3_24 : Oper := { dst := some 83, op := Op.move (Operand.tmp 82), type := 4, pos := "law.go:124", after := #[{ on := 23, ground := Ground.data }, { on := 22, ground := Ground.chain }], guard := none }
abbrev o3_25 : Oper := { dst := some 84, op := Op.load 26 (Operand.tmp 3), type := 26, pos := "law.go:124", after := #[{ on := 24, ground := Ground.guard }], guard := some (24, true) }
abbrev o3_26 : Oper := { dst := some 85, op := Op.call { callee := Callee.value (Operand.func 21), args := #[Operand.tmp 84], argTypes := #[26] }, type := 26, pos := "law.go:124", after := #[{ on := 25, ground := Ground.data }, { on := 24, ground := Ground.chain }, { on := 24, ground := Ground.guard }], guard := some (24, true) }
abbrev o3_27 : Oper := { dst := some 86, op := Op.call { callee := Callee.value (Operand.func 16), args := #[Operand.tmp 85], argTypes := #[26] }, type := 4, pos := "law.go:124", after := #[{ on := 26, ground := Ground.data }, { on := 26, ground := Ground.chain }, { on := 24, ground := Ground.guard }], guard := some (24, true) }
abbrev o3_28 : Oper := { dst := some 87, op := Op.pick (Operand.tmp 83) (Operand.tmp 86) (Operand.const (Value.bool false)), type := 4, pos := "law.go:124", after := #[{ on := 24, ground := Ground.data }, { on := 27, ground := Ground.data }], guard := none }
abbrev o3_29 : Oper := { dst := some 88, op := Op.move (Operand.tmp 87), type := 4, pos := "law.go:124", after := #[{ on := 28, ground := Ground.data }, { on := 27, ground := Ground.chain }], guard := none }
abbrev o3_30 : Oper := { dst := some 89, op := Op.load 26 (Operand.tmp 3), type := 26, pos := "law.go:124", after := #[{ on := 29, ground := Ground.guard }], guard := some (29, true) }
abbrev o3_31 : Oper := { dst := some 90, op := Op.load 26 (Operand.tmp 3), type := 26, pos := "law.go:124", after := #[{ on := 29, ground := Ground.guard }], guard := some (29, true) }
abbrev o3_32 : Oper := { dst := some 91, op := Op.load 26 (Operand.tmp 3), type := 26, pos := "law.go:124", after := #[{ on := 29, ground := Ground.guard }], guard := some (29, true) }
abbrev o3_33 : Oper := { dst := some 92, op := Op.buildSlice 23 2 #[(0, Operand.tmp 90), (1, Operand.tmp 91)], type := 23, pos := "law.go:124", after := #[{ on := 31, ground := Ground.data }, { on := 32, ground := Ground.data }, { on := 29, ground := Ground.guard }], guard := some (29, true) }
abbrev o3_34 : Oper := { dst := some 93, op := Op.call { callee := Callee.value (Operand.func 22), args := #[Operand.tmp 89, Operand.tmp 92], argTypes := #[26, 23] }, type := 26, pos := "law.go:124", after := #[{ on := 30, ground := Ground.data }, { on := 33, ground := Ground.data }, { on := 29, ground := Ground.chain }, { on := 29, ground := Ground.guard }], guard := some (29, true) }
abbrev o3_35 : Oper := { dst := some 94, op := Op.call { callee := Callee.value (Operand.func 16), args := #[Operand.tmp 93], argTypes := #[26] }, type := 4, pos := "law.go:124", after := #[{ on := 34, ground := Ground.data }, { on := 34, ground := Ground.chain }, { on := 29, ground := Ground.guard }], guard := some (29, true) }
abbrev o3_36 : Oper := { dst := some 95, op := Op.pick (Operand.tmp 88) (Operand.tmp 94) (Operand.const (Value.bool false)), type := 4, pos := "law.go:124", after := #[{ on := 29, ground := Ground.data }, { on := 35, ground := Ground.data }], guard := none }
abbrev o3_37 : Oper := { dst := some 6, op := Op.assign (Operand.tmp 95), type := 4, pos := "law.go:124", after := #[{ on := 36, ground := Ground.data }, { on := 35, ground := Ground.chain }, { on := 0, ground := Ground.phase }, { on := 1, ground := Ground.phase }, { on := 2, ground := Ground.phase }, { on := 3, ground := Ground.phase }, { on := 4, ground := Ground.phase }, { on := 5, ground := Ground.phase }, { on := 6, ground := Ground.phase }, { on := 7, ground := Ground.phase }, { on := 8, ground := Ground.phase }, { on := 9, ground := Ground.phase }, { on := 10, ground := Ground.phase }, { on := 11, ground := Ground.phase }, { on := 12, ground := Ground.phase }, { on := 13, ground := Ground.phase }, { on := 14, ground := Ground.phase }, { on := 15, ground := Ground.phase }, { on := 16, ground := Ground.phase }, { on := 17, ground := Ground.phase }, { on := 18, ground := Ground.phase }, { on := 19, ground := Ground.phase }, { on := 20, ground := Ground.phase }, { on := 21, ground := Ground.phase }, { on := 22, ground := Ground.phase }, { on := 23, ground := Ground.phase }, { on := 24, ground := Ground.phase }, { on := 25, ground := Ground.phase }, { on := 26, ground := Ground.phase }, { on := 27, ground := Ground.phase }, { on := 28, ground := Ground.phase }, { on := 29, ground := Ground.phase }, { on := 30, ground := Ground.phase }, { on := 31, ground := Ground.phase }, { on := 32, ground := Ground.phase }, { on := 33, ground := Ground.phase }, { on := 34, ground := Ground.phase }, { on := 35, ground := Ground.phase }, { on := 36, ground := Ground.phase }], guard := none }
theorem km9 {w V w' : World} {g8 g9 : Nat} {k : Int} {a : Option Addr} {n c : Nat} {b : Option Addr} {m d : Nat} {k8 : Int} {a8 : Option Addr} {n8 c8 : Nat} {b8 : Option Addr} {m8 d8 : Nat} {k9 : Int} {a9 : Option Addr} {n9 c9 : Nat} {b9 : Option Addr} {m9 d9 : Nat} (h : V.cell? ⟨w.heap.size, 0, none⟩ = some (.int .i64 k) ∧ V.cell? ⟨w.heap.size, 1, none⟩ = some (.slice a n c) ∧ V.cell? ⟨w.heap.size, 2, none⟩ = some (.slice b m d) ∧ V.cell? ⟨g8, 0, none⟩ = some (.int .i64 k8) ∧ V.cell? ⟨g8, 1, none⟩ = some (.slice a8 n8 c8) ∧ V.cell? ⟨g8, 2, none⟩ = some (.slice b8 m8 d8) ∧ V.cell? ⟨g9, 0, none⟩ = some (.int .i64 k9) ∧ V.cell? ⟨g9, 1, none⟩ = some (.slice a9 n9 c9) ∧ V.cell? ⟨g9, 2, none⟩ = some (.slice b9 m9 d9)) (hb : Below V.heap.size V w') : w'.cell? ⟨w.heap.size, 0, none⟩ = some (.int .i64 k) ∧ w'.cell? ⟨w.heap.size, 1, none⟩ = some (.slice a n c) ∧ w'.cell? ⟨w.heap.size, 2, none⟩ = some (.slice b m d) ∧ w'.cell? ⟨g8, 0, none⟩ = some (.int .i64 k8) ∧ w'.cell? ⟨g8, 1, none⟩ = some (.slice a8 n8 c8) ∧ w'.cell? ⟨g8, 2, none⟩ = some (.slice b8 m8 d8) ∧ w'.cell? ⟨g9, 0, none⟩ = some (.int .i64 k9) ∧ w'.cell? ⟨g9, 1, none⟩ = some (.slice a9 n9 c9) ∧ w'.cell? ⟨g9, 2, none⟩ = some (.slice b9 m9 d9) ∧ Below V.heap.size V w' := ⟨cell_below h.1 hb, cell_below h.2.1 hb, cell_below h.2.2.1 hb, cell_below h.2.2.2.1 hb, cell_below h.2.2.2.2.1 hb, cell_below h.2.2.2.2.2.1 hb, cell_below h.2.2.2.2.2.2.1 hb, cell_below h.2.2.2.2.2.2.2.1 hb, cell_below h.2.2.2.2.2.2.2.2 hb, hb⟩
theorem two_row (w : World) (k : Int) (a : Option Addr) (n c : Nat) (b : Option Addr) (m d : Nat) (A : T) (h1 : Lies Tr w (TV k a n c b m d) A) : ItemsAt Tr (w.alloc (.cells #[.int .i64 k, .slice a n c, .slice b m d, .int .i64 k, .slice a n c, .slice b m d] 26)) (some ⟨w.heap.size, 0, none⟩) 2 (fun _ => A) := fun i hi => by
  have q1 := h1.alloc (.cells #[.int .i64 k, .slice a n c, .slice b m d, .int .i64 k, .slice a n c, .slice b m d] 26)
  rcases (show i = 0 ∨ i = 1 by omega) with rfl | rfl
  · exact ⟨w.heap.size, 0, rfl, trivial, k, a, n, c, b, m, d, ⟨by simp [go_sem], by simp [go_sem], by simp [go_sem]⟩, q1⟩
  · exact ⟨w.heap.size, 0, rfl, trivial, k, a, n, c, b, m, d, ⟨by simp [go_sem], by simp [go_sem], by simp [go_sem]⟩, q1⟩
theorem ok_list (k : Int) (hk : k = 10 ∨ k = 12) (A : T) (h : Ok A) : Ok (T.one k A) := ok_mk (fun _ _ => h) (fun e => by omega) (fun _ => ⟨rfl, .inr (.inl ⟨hk, rfl⟩)⟩)
theorem ok_func (A : T) (h : Ok A) : Ok (T.func 2 (fun _ => A) A) := ok_mk (fun i _ => by show Ok (if i < 2 then A else A); split <;> exact h) (fun e => by cases e) (fun _ => ⟨rfl, .inr (.inr ⟨rfl, by omega⟩)⟩)
theorem kmay_v (t : T) (v : Bool) (hv : mayB t = v) (k : Int) (a : Option Addr) (n c : Nat) (b : Option Addr) (m d : Nat) (X : World) (l : Lies Tr X (TV k a n c b m d) t) : Calls Try.prog 16 #[TV k a n c b m d] X (Ret (.bool v) X) := by
  have := may_any t Tr X k a n c b m d l
  rw [hv] at this
  exact this
theorem room_item (A : T) (j : Nat) (hj : j < A.n) : room (A.it j) ≤ room A := by
  cases A with
  | z => exact absurd hj (Nat.not_lt_zero _)
  | mk k n it m nm =>
    have h9 : room (it j) + 8 ≤ sumN (fun i => room (it i) + 8) n := sumN_at (fun i => room (it i) + 8) n j hj
    show room (it j) ≤ (if k = 0 then 40 else 80) + sumN (fun i => room (it i) + 8) n + sumN (fun i => 5 * (nm i).size + 8) m
    omega
set_option linter.unusedSimpArgs false in
set_option linter.unusedVariables false in
set_option maxRecDepth 100000 in
set_option maxHeartbeats 8000000 in
theorem may_front (A B : T) (k : Int) (a : Option Addr) (n c : Nat) (b : Option Addr) (m d : Nat) (k' : Int) (a' : Option Addr) (n' c' : Nat) (b' : Option Addr) (m' d' : Nat) (s : ByteArray) (w : World) (h1 : Lies Tr w (TV k a n c b m d) A) (h2 : Lies Tr w (TV k' a' n' c' b' m' d') B) (hr : room A + 64 ≤ 140737488355328) : Calls Try.prog 3 #[TV k a n c b m d, TV k' a' n' c' b' m' d', .string s] w (Ret (.bool true) w) := by
  have LA := Lib.hid h1
  have LB := Lib.hid h2
  have HR := Lib.hid hr
  have C0 : ((w.alloc (.cells #[.int .i64 k, .slice a n c, .slice b m d] 26)).alloc (.cells #[.int .i64 k', .slice a' n' c', .slice b' m' d'] 26)).cell? ⟨w.heap.size, 0, none⟩ = some (.int .i64 k) ∧ ((w.alloc (.cells #[.int .i64 k, .slice a n c, .slice b m d] 26)).alloc (.cells #[.int .i64 k', .slice a' n' c', .slice b' m' d'] 26)).cell? ⟨w.heap.size, 1, none⟩ = some (.slice a n c) ∧ ((w.alloc (.cells #[.int .i64 k, .slice a n c, .slice b m d] 26)).alloc (.cells #[.int .i64 k', .slice a' n' c', .slice b' m' d'] 26)).cell? ⟨w.heap.size, 2, none⟩ = some (.slice b m d) ∧ ((w.alloc (.cells #[.int .i64 k, .slice a n c, .slice b m d] 26)).alloc (.cells #[.int .i64 k', .slice a' n' c', .slice b' m' d'] 26)).cell? ⟨w.heap.size + 1, 0, none⟩ = some (.int .i64 k') ∧ ((w.alloc (.cells #[.int .i64 k, .slice a n c, .slice b m d] 26)).alloc (.cells #[.int .i64 k', .slice a' n' c', .slice b' m' d'] 26)).cell? ⟨w.heap.size + 1, 1, none⟩ = some (.slice a' n' c') ∧ ((w.alloc (.cells #[.int .i64 k, .slice a n c, .slice b m d] 26)).alloc (.cells #[.int .i64 k', .slice a' n' c', .slice b' m' d'] 26)).cell? ⟨w.heap.size + 1, 2, none⟩ = some (.slice b' m' d') := by refine ⟨?_, ?_, ?_, ?_, ?_, ?_⟩ <;> simp [go_sem]
  have B0 : Below w.heap.size w ((w.alloc (.cells #[.int .i64 k, .slice a n c, .slice b m d] 26)).alloc (.cells #[.int .i64 k', .slice a' n' c', .slice b' m' d'] 26)) := ((Below.refl _ _).alloc (Nat.le_refl _) _).alloc (by simp only [World.size_alloc]; omega) _
  clear h1 h2 hr
  go_enter Try.func3, Try.ntmps3
  go_upto_region 3 with (go_at_call 9; (with_reducible refine (awake_walk _).mono ?_); rintro e w1 ⟨rfl, hb1⟩)
  have CW := Lib.hid (keep33 C0 hb1)
  have BW := Lib.hid (bstep B0 hb1)
  replace LA := Lib.hid (LA.out.on BW.out)
  replace LB := Lib.hid (LB.out.on BW.out)
  clear C0 B0 hb1
  obtain ⟨y0, y1, y2, y3, y4, y5⟩ := CW.out
  go_upto_region 4 with (go_at_call 10; (with_reducible refine (conf_at A B _ rfl k a n c b m d k' a' n' c' b' m' d' _ LA.out LB.out).mono ?_); rintro e w2 ⟨rfl, hb2⟩)
  replace CW := Lib.hid (keep33 CW.out hb2)
  replace LA := Lib.hid (LA.out.on hb2)
  replace LB := Lib.hid (LB.out.on hb2)
  replace BW := Lib.hid (bstep BW.out hb2)
  clear y0 y1 y2 y3 y4 y5
  obtain ⟨y0, y1, y2, y3, y4, y5⟩ := CW.out
  go_upto_region 5 with (go_at_call 11; (with_reducible refine (join_walk A B Tr _ k a n c b m d k' a' n' c' b' m' d' LA.out LB.out).mono ?_); rintro e w3 ⟨k3, a3, n3, c3, b3, m3, d3, rfl, -, hb3⟩)
  replace CW := Lib.hid (keep33 CW.out hb3)
  replace LA := Lib.hid (LA.out.on hb3)
  replace LB := Lib.hid (LB.out.on hb3)
  replace BW := Lib.hid (bstep BW.out hb3)
  clear y0 y1 y2 y3 y4 y5
  obtain ⟨y0, y1, y2, y3, y4, y5⟩ := CW.out
  have AW := Lib.hid (all_walk _ _ 3 3 _ (three_row w3 k a n c b m d k' a' n' c' b' m' d' A B LA.out LB.out) (by decide))
  go_upto_region 6 with (go_at_call 12; (with_reducible refine (AW.out).mono ?_); rintro e w4 ⟨k4, a4, n4, c4, b4, m4, d4, rfl, -, hb4⟩)
  replace CW := Lib.hid (keep33 CW.out (bstep ((Below.refl w3.heap.size w3).alloc (Nat.le_refl _) (.cells #[.int .i64 k, .slice a n c, .slice b m d, .int .i64 k', .slice a' n' c', .slice b' m' d', .int .i64 k, .slice a n c, .slice b m d] 26)) hb4))
  replace LA := Lib.hid (LA.out.on (bstep ((Below.refl w3.heap.size w3).alloc (Nat.le_refl _) (.cells #[.int .i64 k, .slice a n c, .slice b m d, .int .i64 k', .slice a' n' c', .slice b' m' d', .int .i64 k, .slice a n c, .slice b m d] 26)) hb4))
  replace LB := Lib.hid (LB.out.on (bstep ((Below.refl w3.heap.size w3).alloc (Nat.le_refl _) (.cells #[.int .i64 k, .slice a n c, .slice b m d, .int .i64 k', .slice a' n' c', .slice b' m' d', .int .i64 k, .slice a n c, .slice b m d] 26)) hb4))
  replace BW := Lib.hid (bstep BW.out (bstep ((Below.refl w3.heap.size w3).alloc (Nat.le_refl _) (.cells #[.int .i64 k, .slice a n c, .slice b m d, .int .i64 k', .slice a' n' c', .slice b' m' d', .int .i64 k, .slice a n c, .slice b m d] 26)) hb4))
  clear y0 y1 y2 y3 y4 y5
  obtain ⟨y0, y1, y2, y3, y4, y5⟩ := CW.out
  go_upto_region 7 with (go_at_call 13; (with_reducible refine (text_any A Tr _ k a n c b m d LA.out HR.out).mono ?_); rintro e w5 ⟨rfl, hb5⟩)
  replace CW := Lib.hid (keep33 CW.out hb5)
  replace LA := Lib.hid (LA.out.on hb5)
  replace LB := Lib.hid (LB.out.on hb5)
  replace BW := Lib.hid (bstep BW.out hb5)
  clear y0 y1 y2 y3 y4 y5
  obtain ⟨y0, y1, y2, y3, y4, y5⟩ := CW.out
  obtain ⟨t6, ok6, EA0⟩ := entry_any Tr w5 k a n c b m d A LA.out s
  have EA := Lib.hid EA0
  clear EA0
  go_upto_region 8 with (go_at_call 14; (with_reducible refine (EA.out).mono ?_); rintro e w6 ⟨k6, a6, n6, c6, b6, m6, d6, rfl, -, hb6⟩)
  replace CW := Lib.hid (keep33 CW.out hb6)
  replace LA := Lib.hid (LA.out.on hb6)
  replace LB := Lib.hid (LB.out.on hb6)
  replace BW := Lib.hid (bstep BW.out hb6)
  clear y0 y1 y2 y3 y4 y5
  cases hv : mayB A with
  | false =>
    obtain ⟨y0, y1, y2, y3, y4, y5⟩ := CW.out
    go_upto_region 9 with (go_at_call 15; (with_reducible refine (may_at A false hv k a n c b m d _ LA.out).mono ?_); rintro e w7 ⟨rfl, hb7⟩)
    replace CW := Lib.hid (keep33 CW.out hb7)
    replace LA := Lib.hid (LA.out.on hb7)
    replace LB := Lib.hid (LB.out.on hb7)
    replace BW := Lib.hid (bstep BW.out hb7)
    clear y0 y1 y2 y3 y4 y5
    obtain ⟨y0, y1, y2, y3, y4, y5⟩ := CW.out
    have KMV := Lib.hid (kmay_v A false hv k a n c b m d)
    have SK := Lib.hid (fun X => simple_walk k X)
    have SL := Lib.hid (fun X => lsimple_walk k X)
    have Y0 : w7.drew.cell? ⟨w.heap.size, 0, none⟩ = some (.int .i64 k) ∧ w7.drew.cell? ⟨w.heap.size, 1, none⟩ = some (.slice a n c) ∧ w7.drew.cell? ⟨w.heap.size, 2, none⟩ = some (.slice b m d) := ⟨y0, y1, y2⟩
    go_region_held3 (fun W => W.cell? ⟨w.heap.size, 0, none⟩ = some (.int .i64 k) ∧ W.cell? ⟨w.heap.size, 1, none⟩ = some (.slice a n c) ∧ W.cell? ⟨w.heap.size, 2, none⟩ = some (.slice b m d))
      (first | (simp [go_sem]; done) | (repeat' (first | (with_reducible assumption) | (with_reducible exact Y0) | (with_reducible refine keep3 ?_ (by with_reducible assumption)) | (with_reducible refine keep3d ?_) | (with_reducible refine keep3n (by with_reducible assumption) _ ?_) | (with_reducible refine keep3a ?_ _) | (with_reducible refine keep3s ?_ ?_ _) | (show _ ≠ _; (try dsimp only); omega) | (show _ < _; (try dsimp only); (try simp only [World.size_alloc, World.size_drew]); omega))))
      (first
        | (go_at_call 16; (with_reducible refine (KMV.out _ (LA.out.on ?_)).mono ?_); (· (repeat' (first | (with_reducible assumption) | (with_reducible exact Below.refl _ _) | (with_reducible refine Below.drew ?_) | (with_reducible refine ballD1 ?_ _) | (with_reducible refine Below.set1 ?_ _ _ ?_ _) | (show _ ≤ _; (try simp only [World.size_alloc, World.size_drew]); omega)))); rintro e w8 ⟨rfl, hb8⟩)
        | (go_at_call 17; (with_reducible refine (SK.out _).mono ?_); rintro e w9 ⟨rfl, hb9⟩)
        | (go_at_call 18; (with_reducible refine (SL.out _).mono ?_); rintro e w10 ⟨rfl, hb10⟩))
    have BX := Lib.hid (show Below w7.heap.size w7 w10 from (by (repeat' (first | (with_reducible assumption) | (with_reducible exact Below.refl _ _) | (with_reducible refine Below.drew ?_) | (with_reducible refine ballD1 ?_ _) | (with_reducible refine Below.set1 ?_ _ _ ?_ _) | (show _ ≤ _; (try simp only [World.size_alloc, World.size_drew]); omega) | (refine bstep ?_ hb10) | (refine bstep ?_ hb9) | (refine bstep ?_ hb8)))))
    replace CW := Lib.hid (keep33 CW.out BX.out)
    replace LA := Lib.hid (LA.out.on BX.out)
    replace BW := Lib.hid (bstep BW.out BX.out)
    clear y0 y1 y2 y3 y4 y5 hb8 hb9 hb10 BX KMV SK SL Y0 LB
    go_wp2
    go_ret
    exact ⟨rfl, BW.out⟩
  | true =>
    obtain ⟨y0, y1, y2, y3, y4, y5⟩ := CW.out
    go_upto_region 9 with (go_at_call 15; (with_reducible refine (may_at A true hv k a n c b m d _ LA.out).mono ?_); rintro e w7 ⟨rfl, hb7⟩)
    replace CW := Lib.hid (keep33 CW.out hb7)
    replace LA := Lib.hid (LA.out.on hb7)
    replace LB := Lib.hid (LB.out.on hb7)
    replace BW := Lib.hid (bstep BW.out hb7)
    clear y0 y1 y2 y3 y4 y5
    obtain ⟨y0, y1, y2, y3, y4, y5⟩ := CW.out
    have KMV := Lib.hid (kmay_v A true hv k a n c b m d)
    have SK := Lib.hid (fun X => simple_walk k X)
    have SL := Lib.hid (fun X => lsimple_walk k X)
    have Y0 : w7.drew.cell? ⟨w.heap.size, 0, none⟩ = some (.int .i64 k) ∧ w7.drew.cell? ⟨w.heap.size, 1, none⟩ = some (.slice a n c) ∧ w7.drew.cell? ⟨w.heap.size, 2, none⟩ = some (.slice b m d) := ⟨y0, y1, y2⟩
    go_region_held3 (fun W => W.cell? ⟨w.heap.size, 0, none⟩ = some (.int .i64 k) ∧ W.cell? ⟨w.heap.size, 1, none⟩ = some (.slice a n c) ∧ W.cell? ⟨w.heap.size, 2, none⟩ = some (.slice b m d))
      (first | (simp [go_sem]; done) | (repeat' (first | (with_reducible assumption) | (with_reducible exact Y0) | (with_reducible refine keep3 ?_ (by with_reducible assumption)) | (with_reducible refine keep3d ?_) | (with_reducible refine keep3n (by with_reducible assumption) _ ?_) | (with_reducible refine keep3a ?_ _) | (with_reducible refine keep3s ?_ ?_ _) | (show _ ≠ _; (try dsimp only); omega) | (show _ < _; (try dsimp only); (try simp only [World.size_alloc, World.size_drew]); omega))))
      (first
        | (go_at_call 16; (with_reducible refine (KMV.out _ (LA.out.on ?_)).mono ?_); (· (repeat' (first | (with_reducible assumption) | (with_reducible exact Below.refl _ _) | (with_reducible refine Below.drew ?_) | (with_reducible refine ballD1 ?_ _) | (with_reducible refine Below.set1 ?_ _ _ ?_ _) | (show _ ≤ _; (try simp only [World.size_alloc, World.size_drew]); omega)))); rintro e w8 ⟨rfl, hb8⟩)
        | (go_at_call 17; (with_reducible refine (SK.out _).mono ?_); rintro e w9 ⟨rfl, hb9⟩)
        | (go_at_call 18; (with_reducible refine (SL.out _).mono ?_); rintro e w10 ⟨rfl, hb10⟩))
    have BX := Lib.hid (show Below w7.heap.size w7 w10 from (by (repeat' (first | (with_reducible assumption) | (with_reducible exact Below.refl _ _) | (with_reducible refine Below.drew ?_) | (with_reducible refine ballD1 ?_ _) | (with_reducible refine Below.set1 ?_ _ _ ?_ _) | (show _ ≤ _; (try simp only [World.size_alloc, World.size_drew]); omega) | (refine bstep ?_ hb10) | (refine bstep ?_ hb9) | (refine bstep ?_ hb8)))))
    replace CW := Lib.hid (keep33 CW.out BX.out)
    replace LA := Lib.hid (LA.out.on BX.out)
    replace BW := Lib.hid (bstep BW.out BX.out)
    clear y0 y1 y2 y3 y4 y5 hb8 hb9 hb10 BX KMV SK SL Y0 LB
    by_cases hk : k = 11
    · subst hk
      have em := LA.out.mm
      have en := LA.out.nn
      have ek := LA.out.kk
      have ob := (ok_n hv).1 ek
      have mn : m = n := by omega
      subst mn
      have OA := Lib.hid (show Once A.nm m from by have := ob.2; rw [em] at this; exact this)
      have MM := Lib.hid (show min m m = m from Nat.min_self m)
      clear em en ek ob
      rcases first_name A.nm s m with ⟨j, hj, es, hno⟩ | hno
      · have HJ := Lib.hid (And.intro hj (And.intro es hno))
        have RJ := Lib.hid (show room (A.it j) + 64 ≤ 140737488355328 from Nat.le_trans (Nat.add_le_add_right (room_item A j (by rw [LA.out.nn]; exact hj)) 64) HR.out)
        have TX := Lib.hid (fun X k a n c b m d (l : Lies Tr X (TV k a n c b m d) (A.it j)) => text_any (A.it j) Tr X k a n c b m d l RJ.out)
        generalize textL (A.it j) = tl at *
        clear hj es hno
        obtain ⟨y0, y1, y2, y3, y4, y5⟩ := CW.out
        have EE := Lib.hid (entry_yes Tr w10 a m c b m d A LA.out s j (by rw [MM.out]; exact HJ.out.1) HJ.out.2.1 HJ.out.2.2)
        go_upto_region 14 with (go_at_call 14; (with_reducible refine EE.out.mono ?_); rintro e w11 ⟨k8, a8, n8, c8, b8, m8, d8, rfl, L8, hb11⟩)
        have D1 := Lib.hid (show Below w10.heap.size w10 (w11.alloc (.cells #[.int .i64 k8, .slice a8 n8 c8, .slice b8 m8 d8] 26)) from (bstep (Below.refl _ _) hb11).alloc hb11.size _)
        have LX := Lib.hid (show Lies Tr (w11.alloc (.cells #[.int .i64 k8, .slice a8 n8 c8, .slice b8 m8 d8] 26)) (TV k8 a8 n8 c8 b8 m8 d8) (A.it j) from (Lies.tr L8).alloc _)
        have X8 := Lib.hid (Boxed.new w11 (.int .i64 k8) (.slice a8 n8 c8) (.slice b8 m8 d8))
        replace CW := Lib.hid (keep33 CW.out D1.out)
        replace LA := Lib.hid (LA.out.on D1.out)
        replace BW := Lib.hid (bstep BW.out D1.out)
        clear y0 y1 y2 y3 y4 y5 EE L8 hb11 D1
        change Code.wp _ _ _ _ (w11.alloc (.cells #[.int .i64 k8, .slice a8 n8 c8, .slice b8 m8 d8] 26))
        obtain ⟨g8, hg8⟩ : ∃ g, g = w11.heap.size := ⟨_, rfl⟩
        rw [← hg8] at X8 ⊢
        clear hg8
        generalize w11.alloc (.cells #[.int .i64 k8, .slice a8 n8 c8, .slice b8 m8 d8] 26) = V1 at *
        obtain ⟨y0, y1, y2, y3, y4, y5⟩ := CW.out
        have AA := Lib.hid (at_yes Tr V1 11 a m c b m d A LA.out s j HJ.out.1 HJ.out.1 HJ.out.2.1 HJ.out.2.2)
        go_upto_region 15 with (go_at_call 19; (with_reducible refine AA.out.mono ?_); rintro e w12 ⟨k9, a9, n9, c9, b9, m9, d9, rfl, L9, hb12⟩)
        have D2 := Lib.hid (show Below V1.heap.size V1 (w12.alloc (.cells #[.int .i64 k9, .slice a9 n9 c9, .slice b9 m9 d9] 26)) from (bstep (Below.refl _ _) hb12).alloc hb12.size _)
        have LY := Lib.hid (show Lies Tr (w12.alloc (.cells #[.int .i64 k9, .slice a9 n9 c9, .slice b9 m9 d9] 26)) (TV k9 a9 n9 c9 b9 m9 d9) (A.it j) from (Lies.tr L9).alloc _)
        have X9 := Lib.hid (Boxed.new w12 (.int .i64 k9) (.slice a9 n9 c9) (.slice b9 m9 d9))
        replace X8 := Lib.hid (X8.out.below D2.out)
        replace CW := Lib.hid (keep33 CW.out D2.out)
        replace LA := Lib.hid (LA.out.on D2.out)
        replace LX := Lib.hid (LX.out.on D2.out)
        replace BW := Lib.hid (bstep BW.out D2.out)
        clear y0 y1 y2 y3 y4 y5 AA L9 hb12 D2
        change Code.wp _ _ _ _ (w12.alloc (.cells #[.int .i64 k9, .slice a9 n9 c9, .slice b9 m9 d9] 26))
        obtain ⟨g9, hg9⟩ : ∃ g, g = w12.heap.size := ⟨_, rfl⟩
        rw [← hg9] at X9 ⊢
        clear hg9
        generalize w12.alloc (.cells #[.int .i64 k9, .slice a9 n9 c9, .slice b9 m9 d9] 26) = V at *
        have OK1 := Lib.hid (ok_list 10 (.inl rfl) A hv)
        have OK2 := Lib.hid (ok_list 12 (.inr rfl) A hv)
        have OK3 := Lib.hid (ok_func A hv)
        obtain ⟨y0, y1, y2, y3, y4, y5⟩ := CW.out
        obtain ⟨p0, p1, p2⟩ := X8.out.cells
        obtain ⟨q0, q1, q2⟩ := X9.out.cells
        have CV : V.cell? ⟨w.heap.size, 0, none⟩ = some (.int .i64 11) ∧ V.cell? ⟨w.heap.size, 1, none⟩ = some (.slice a m c) ∧ V.cell? ⟨w.heap.size, 2, none⟩ = some (.slice b m d) ∧ V.cell? ⟨g8, 0, none⟩ = some (.int .i64 k8) ∧ V.cell? ⟨g8, 1, none⟩ = some (.slice a8 n8 c8) ∧ V.cell? ⟨g8, 2, none⟩ = some (.slice b8 m8 d8) ∧ V.cell? ⟨g9, 0, none⟩ = some (.int .i64 k9) ∧ V.cell? ⟨g9, 1, none⟩ = some (.slice a9 n9 c9) ∧ V.cell? ⟨g9, 2, none⟩ = some (.slice b9 m9 d9) := ⟨y0, y1, y2, p0, p1, p2, q0, q1, q2⟩
        clear y0 y1 y2 y3 y4 y5 p0 p1 p2 q0 q1 q2 X8 X9 CW hv
        refine wp_region_held_drew (S := fun w' => w'.cell? ⟨w.heap.size, 0, none⟩ = some (.int .i64 11) ∧ w'.cell? ⟨w.heap.size, 1, none⟩ = some (.slice a m c) ∧ w'.cell? ⟨w.heap.size, 2, none⟩ = some (.slice b m d) ∧ w'.cell? ⟨g8, 0, none⟩ = some (.int .i64 k8) ∧ w'.cell? ⟨g8, 1, none⟩ = some (.slice a8 n8 c8) ∧ w'.cell? ⟨g8, 2, none⟩ = some (.slice b8 m8 d8) ∧ w'.cell? ⟨g9, 0, none⟩ = some (.int .i64 k9) ∧ w'.cell? ⟨g9, 1, none⟩ = some (.slice a9 n9 c9) ∧ w'.cell? ⟨g9, 2, none⟩ = some (.slice b9 m9 d9) ∧ Below V.heap.size V w') (by kernel_rfl) ?_ (fun hHeld => ?_)
        · exact (km9 CV ((Below.refl _ _).drew))
        refine wpAnyH_take (i := 0) (oi := o3_0) (v := ?_) rfl (by kernel_rfl) (by kernel_rfl) (by kernel_rfl) (fun _ _ _ h => h) (Or.inl ⟨by rfl, ?_⟩) (by assumption) ?_
        rotate_left
        · intro w hSw
          try dsimp only at hSw
          go_simp
          try with_reducible rfl
        try simp only [Act.put, List.setIfInBounds_toArray, List.set_cons_zero, List.set_cons_succ]
        refine wpAnyH_take (i := 1) (oi := o3_1) (v := ?_) rfl (by kernel_rfl) (by kernel_rfl) (by kernel_rfl) (fun _ _ _ h => h) (Or.inl ⟨by rfl, ?_⟩) (by assumption) ?_
        rotate_left
        · intro w hSw
          try dsimp only at hSw
          go_simp
          try with_reducible rfl
        try simp only [Act.put, List.setIfInBounds_toArray, List.set_cons_zero, List.set_cons_succ]
        refine wpAnyH_take (i := 2) (oi := o3_2) (v := ?_) rfl (by kernel_rfl) (by kernel_rfl) (by kernel_rfl) (fun _ _ _ h => h) (Or.inl ⟨by rfl, ?_⟩) (by assumption) ?_
        rotate_left
        · intro w hSw
          try dsimp only at hSw
          go_simp
          try with_reducible rfl
        try simp only [Act.put, List.setIfInBounds_toArray, List.set_cons_zero, List.set_cons_succ]
        refine wpAnyH_take (i := 3) (oi := o3_3) (v := ?_) rfl (by kernel_rfl) (by kernel_rfl) (by kernel_rfl) (fun _ _ _ h => h) (Or.inl ⟨by rfl, ?_⟩) (by assumption) ?_
        rotate_left
        · intro w hSw
          try dsimp only at hSw
          go_simp
          try with_reducible rfl
        try simp only [Act.put, List.setIfInBounds_toArray, List.set_cons_zero, List.set_cons_succ]
        refine wpAnyH_take (i := 4) (oi := o3_4) (v := ?_) rfl (by kernel_rfl) (by kernel_rfl) (by kernel_rfl) (fun _ _ _ h => h) (Or.inl ⟨by rfl, ?_⟩) (by assumption) ?_
        rotate_left
        · intro w hSw
          try dsimp only at hSw
          go_simp
          try with_reducible rfl
        try simp only [Act.put, List.setIfInBounds_toArray, List.set_cons_zero, List.set_cons_succ]
        refine wpAnyH_take (i := 5) (oi := o3_5) (v := ?_) rfl (by kernel_rfl) (by kernel_rfl) (by kernel_rfl) (fun _ _ _ h => h) (Or.inl ⟨by rfl, ?_⟩) (by assumption) ?_
        rotate_left
        · intro w hSw
          try dsimp only at hSw
          go_simp
          try with_reducible rfl
        try simp only [Act.put, List.setIfInBounds_toArray, List.set_cons_zero, List.set_cons_succ]
        refine wpAnyH_take (i := 6) (oi := o3_6) (v := ?_) rfl (by kernel_rfl) (by kernel_rfl) (by kernel_rfl) (fun _ _ _ h => h) (Or.inl ⟨by rfl, ?_⟩) (by assumption) ?_
        rotate_left
        · intro w hSw
          try dsimp only at hSw
          go_simp
          try with_reducible rfl
        try simp only [Act.put, List.setIfInBounds_toArray, List.set_cons_zero, List.set_cons_succ]
        refine wpAnyH_take (i := 7) (oi := o3_7) (v := ?_) rfl (by kernel_rfl) (by kernel_rfl) (by kernel_rfl) (fun _ _ _ h => h) (Or.inl ⟨by rfl, ?_⟩) (by assumption) ?_
        rotate_left
        · intro w hSw
          try dsimp only at hSw
          go_simp
          try with_reducible rfl
        try simp only [Act.put, List.setIfInBounds_toArray, List.set_cons_zero, List.set_cons_succ]
        refine wpAnyH_take (i := 8) (oi := o3_8) (v := ?_) rfl (by kernel_rfl) (by kernel_rfl) (by kernel_rfl) (fun _ _ _ h => h) (Or.inl ⟨by rfl, ?_⟩) (by assumption) ?_
        rotate_left
        · intro w hSw
          try dsimp only at hSw
          go_simp
          try with_reducible rfl
        try simp only [Act.put, List.setIfInBounds_toArray, List.set_cons_zero, List.set_cons_succ]
        refine wpAnyH_take (i := 9) (oi := o3_9) (v := ?_) rfl (by kernel_rfl) (by kernel_rfl) (by kernel_rfl) (fun _ _ _ h => h) (Or.inl ⟨by rfl, ?_⟩) (by assumption) ?_
        rotate_left
        · intro w hSw
          try dsimp only at hSw
          go_simp
          try with_reducible rfl
        try simp only [Act.put, List.setIfInBounds_toArray, List.set_cons_zero, List.set_cons_succ]
        refine wpAnyH_take (i := 10) (oi := o3_10) (v := ?_) rfl (by kernel_rfl) (by kernel_rfl) (by kernel_rfl) (fun _ _ _ h => h) (Or.inl ⟨by rfl, ?_⟩) (by assumption) ?_
        rotate_left
        · intro w hSw
          try dsimp only at hSw
          go_simp
          try with_reducible rfl
        try simp only [Act.put, List.setIfInBounds_toArray, List.set_cons_zero, List.set_cons_succ]
        refine wpAnyH_take (i := 11) (oi := o3_11) (v := ?_) rfl (by kernel_rfl) (by kernel_rfl) (by kernel_rfl) (fun _ _ _ h => h) (Or.inl ⟨by rfl, ?_⟩) (by assumption) ?_
        rotate_left
        · intro w hSw
          try dsimp only at hSw
          go_simp
          try with_reducible rfl
        try simp only [Act.put, List.setIfInBounds_toArray, List.set_cons_zero, List.set_cons_succ]
        refine wpAnyH_take (i := 12) (oi := o3_12) (v := ?_) rfl (by kernel_rfl) (by kernel_rfl) (by kernel_rfl) (fun _ _ _ h => h) (Or.inl ⟨by rfl, ?_⟩) (by assumption) ?_
        rotate_left
        · intro w hSw
          try dsimp only at hSw
          go_simp
          try with_reducible rfl
        try simp only [Act.put, List.setIfInBounds_toArray, List.set_cons_zero, List.set_cons_succ]
        refine wpAnyH_take (i := 14) (oi := o3_14) (v := ?_) rfl (by kernel_rfl) (by kernel_rfl) (by kernel_rfl) (fun _ _ _ h => h) (Or.inl ⟨by rfl, ?_⟩) (by assumption) ?_
        rotate_left
        · intro w hSw
          try dsimp only at hSw
          go_simp
          try with_reducible rfl
        try simp only [Act.put, List.setIfInBounds_toArray, List.set_cons_zero, List.set_cons_succ]
        refine wpAnyH_ready (rs := [13]) (by kernel_rfl) (by simp) ?_
        refine AllReadyH.cons (o := o3_13) rfl (fun K hK => ?_) AllReadyH.nil
        go_simp
        refine (TX.out _ k8 a8 n8 c8 b8 m8 d8 (LX.out.on hHeld.2.2.2.2.2.2.2.2.2)).mono ?_
        rintro e v1 ⟨rfl, hb1⟩
        have HBx := Lib.hid (bstep hHeld.2.2.2.2.2.2.2.2.2 hb1)
        clear hHeld hb1
        refine hK.out _ _ ?_ (fun hHeld => ?_)
        · exact (km9 CV (HBx.out))
        clear hK K HBx
        try simp only [Act.put, List.setIfInBounds_toArray, List.set_cons_zero, List.set_cons_succ]
        refine wpAnyH_ready (rs := [15]) (by kernel_rfl) (by simp) ?_
        refine AllReadyH.cons (o := o3_15) rfl (fun K hK => ?_) AllReadyH.nil
        go_simp
        refine (TX.out _ k9 a9 n9 c9 b9 m9 d9 (LY.out.on hHeld.2.2.2.2.2.2.2.2.2)).mono ?_
        rintro e v2 ⟨rfl, hb2⟩
        have HBx := Lib.hid (bstep hHeld.2.2.2.2.2.2.2.2.2 hb2)
        clear hHeld hb2
        refine hK.out _ _ ?_ (fun hHeld => ?_)
        · exact (km9 CV (HBx.out))
        clear hK K HBx
        try simp only [Act.put, List.setIfInBounds_toArray, List.set_cons_zero, List.set_cons_succ]
        refine wpAnyH_take (i := 16) (oi := o3_16) (v := ?_) rfl (by kernel_rfl) (by kernel_rfl) (by kernel_rfl) (fun _ _ _ h => h) (Or.inl ⟨by rfl, ?_⟩) (by assumption) ?_
        rotate_left
        · intro w hSw
          try dsimp only at hSw
          go_simp
          try with_reducible rfl
        try simp only [Act.put, List.setIfInBounds_toArray, List.set_cons_zero, List.set_cons_succ]
        refine wpAnyH_take (i := 17) (oi := o3_17) (v := ?_) rfl (by kernel_rfl) (by kernel_rfl) (by kernel_rfl) (fun _ _ _ h => h) (Or.inl ⟨by rfl, ?_⟩) (by assumption) ?_
        rotate_left
        · intro w hSw
          try dsimp only at hSw
          go_simp
          try with_reducible rfl
        try simp only [Act.put, List.setIfInBounds_toArray, List.set_cons_zero, List.set_cons_succ]
        refine wpAnyH_take (i := 18) (oi := o3_18) (v := ?_) rfl (by kernel_rfl) (by kernel_rfl) (by kernel_rfl) (fun _ _ _ h => h) (Or.inl ⟨by rfl, ?_⟩) (by assumption) ?_
        rotate_left
        · intro w hSw
          try dsimp only at hSw
          go_simp
          try with_reducible rfl
        try simp only [Act.put, List.setIfInBounds_toArray, List.set_cons_zero, List.set_cons_succ]
        refine wpAnyH_take (i := 19) (oi := o3_19) (v := ?_) rfl (by kernel_rfl) (by kernel_rfl) (by kernel_rfl) (fun _ _ _ h => h) (Or.inl ⟨by rfl, ?_⟩) (by assumption) ?_
        rotate_left
        · intro w hSw
          try dsimp only at hSw
          go_simp
          try with_reducible rfl
        try simp only [Act.put, List.setIfInBounds_toArray, List.set_cons_zero, List.set_cons_succ]
        refine wpAnyH_take (i := 20) (oi := o3_20) (v := ?_) rfl (by kernel_rfl) (by kernel_rfl) (by kernel_rfl) (fun _ _ _ h => h) (Or.inl ⟨by rfl, ?_⟩) (by assumption) ?_
        rotate_left
        · intro w hSw
          try dsimp only at hSw
          go_simp
          try with_reducible rfl
        try simp only [Act.put, List.setIfInBounds_toArray, List.set_cons_zero, List.set_cons_succ]
        refine wpAnyH_ready (rs := [21]) (by kernel_rfl) (by simp) ?_
        refine AllReadyH.cons (o := o3_21) rfl (fun K hK => ?_) AllReadyH.nil
        go_simp
        refine (listof_walk Tr _ 11 a m c b m d A (LA.out.on hHeld.2.2.2.2.2.2.2.2.2)).mono ?_
        rintro e v3 ⟨k11, a11, n11, c11, b11, m11, d11, rfl, L11, hb3⟩
        have HBx := Lib.hid (bstep hHeld.2.2.2.2.2.2.2.2.2 hb3)
        clear hHeld hb3
        refine hK.out _ _ ?_ (fun hHeld => ?_)
        · exact (km9 CV (HBx.out))
        clear hK K HBx
        try simp only [Act.put, List.setIfInBounds_toArray, List.set_cons_zero, List.set_cons_succ]
        refine wpAnyH_ready (rs := [22]) (by kernel_rfl) (by simp) ?_
        refine AllReadyH.cons (o := o3_22) rfl (fun K hK => ?_) AllReadyH.nil
        go_simp
        refine (kmay_at (T.one 10 A) OK1.out _ _ _ _ _ _ _ _ L11.tr).mono ?_
        rintro e v4 ⟨rfl, hb4⟩
        have HBx := Lib.hid (bstep hHeld.2.2.2.2.2.2.2.2.2 hb4)
        clear hHeld hb4
        refine hK.out _ _ ?_ (fun hHeld => ?_)
        · exact (km9 CV (HBx.out))
        clear hK K HBx
        try simp only [Act.put, List.setIfInBounds_toArray, List.set_cons_zero, List.set_cons_succ]
        refine wpAnyH_take (i := 23) (oi := o3_23) (v := ?_) rfl (by kernel_rfl) (by kernel_rfl) (by kernel_rfl) (fun _ _ _ h => h) (Or.inl ⟨by rfl, ?_⟩) (by assumption) ?_
        rotate_left
        · intro w hSw
          try dsimp only at hSw
          go_simp
          try with_reducible rfl
        try simp only [Act.put, List.setIfInBounds_toArray, List.set_cons_zero, List.set_cons_succ]
        refine wpAnyH_take (i := 24) (oi := o3_24) (v := ?_) rfl (by kernel_rfl) (by kernel_rfl) (by kernel_rfl) (fun _ _ _ h => h) (Or.inl ⟨by rfl, ?_⟩) (by assumption) ?_
        rotate_left
        · intro w hSw
          try dsimp only at hSw
          go_simp
          try with_reducible rfl
        try simp only [Act.put, List.setIfInBounds_toArray, List.set_cons_zero, List.set_cons_succ]
        refine wpAnyH_take (i := 25) (oi := o3_25) (v := ?_) rfl (by kernel_rfl) (by kernel_rfl) (by kernel_rfl) (fun _ _ _ h => h) (Or.inl ⟨by rfl, ?_⟩) (by assumption) ?_
        rotate_left
        · intro w hSw
          try dsimp only at hSw
          go_simp
          try with_reducible rfl
        try simp only [Act.put, List.setIfInBounds_toArray, List.set_cons_zero, List.set_cons_succ]
        refine wpAnyH_ready (rs := [26]) (by kernel_rfl) (by simp) ?_
        refine AllReadyH.cons (o := o3_26) rfl (fun K hK => ?_) AllReadyH.nil
        go_simp
        refine (rangeof_walk Tr _ 11 a m c b m d A (LA.out.on hHeld.2.2.2.2.2.2.2.2.2)).mono ?_
        rintro e v5 ⟨k12, a12, n12, c12, b12, m12, d12, rfl, L12, hb5⟩
        have HBx := Lib.hid (bstep hHeld.2.2.2.2.2.2.2.2.2 hb5)
        clear hHeld hb5
        refine hK.out _ _ ?_ (fun hHeld => ?_)
        · exact (km9 CV (HBx.out))
        clear hK K HBx
        try simp only [Act.put, List.setIfInBounds_toArray, List.set_cons_zero, List.set_cons_succ]
        refine wpAnyH_ready (rs := [27]) (by kernel_rfl) (by simp) ?_
        refine AllReadyH.cons (o := o3_27) rfl (fun K hK => ?_) AllReadyH.nil
        go_simp
        refine (kmay_at (T.one 12 A) OK2.out _ _ _ _ _ _ _ _ L12.tr).mono ?_
        rintro e v6 ⟨rfl, hb6⟩
        have HBx := Lib.hid (bstep hHeld.2.2.2.2.2.2.2.2.2 hb6)
        clear hHeld hb6
        refine hK.out _ _ ?_ (fun hHeld => ?_)
        · exact (km9 CV (HBx.out))
        clear hK K HBx
        try simp only [Act.put, List.setIfInBounds_toArray, List.set_cons_zero, List.set_cons_succ]
        refine wpAnyH_take (i := 28) (oi := o3_28) (v := ?_) rfl (by kernel_rfl) (by kernel_rfl) (by kernel_rfl) (fun _ _ _ h => h) (Or.inl ⟨by rfl, ?_⟩) (by assumption) ?_
        rotate_left
        · intro w hSw
          try dsimp only at hSw
          go_simp
          try with_reducible rfl
        try simp only [Act.put, List.setIfInBounds_toArray, List.set_cons_zero, List.set_cons_succ]
        refine wpAnyH_take (i := 29) (oi := o3_29) (v := ?_) rfl (by kernel_rfl) (by kernel_rfl) (by kernel_rfl) (fun _ _ _ h => h) (Or.inl ⟨by rfl, ?_⟩) (by assumption) ?_
        rotate_left
        · intro w hSw
          try dsimp only at hSw
          go_simp
          try with_reducible rfl
        try simp only [Act.put, List.setIfInBounds_toArray, List.set_cons_zero, List.set_cons_succ]
        refine wpAnyH_take (i := 30) (oi := o3_30) (v := ?_) rfl (by kernel_rfl) (by kernel_rfl) (by kernel_rfl) (fun _ _ _ h => h) (Or.inl ⟨by rfl, ?_⟩) (by assumption) ?_
        rotate_left
        · intro w hSw
          try dsimp only at hSw
          go_simp
          try with_reducible rfl
        try simp only [Act.put, List.setIfInBounds_toArray, List.set_cons_zero, List.set_cons_succ]
        refine wpAnyH_take (i := 31) (oi := o3_31) (v := ?_) rfl (by kernel_rfl) (by kernel_rfl) (by kernel_rfl) (fun _ _ _ h => h) (Or.inl ⟨by rfl, ?_⟩) (by assumption) ?_
        rotate_left
        · intro w hSw
          try dsimp only at hSw
          go_simp
          try with_reducible rfl
        try simp only [Act.put, List.setIfInBounds_toArray, List.set_cons_zero, List.set_cons_succ]
        refine wpAnyH_take (i := 32) (oi := o3_32) (v := ?_) rfl (by kernel_rfl) (by kernel_rfl) (by kernel_rfl) (fun _ _ _ h => h) (Or.inl ⟨by rfl, ?_⟩) (by assumption) ?_
        rotate_left
        · intro w hSw
          try dsimp only at hSw
          go_simp
          try with_reducible rfl
        try simp only [Act.put, List.setIfInBounds_toArray, List.set_cons_zero, List.set_cons_succ]
        refine wpAnyH_ready (rs := [33]) (by kernel_rfl) (by simp) ?_
        refine AllReadyH.cons (o := o3_33) rfl (fun K hK => ?_) AllReadyH.nil
        go_simp
        have IT := Lib.hid (two_row v6 11 a m c b m d A (LA.out.on hHeld.2.2.2.2.2.2.2.2.2))
        have hb7 := (Below.refl v6.heap.size v6).alloc (Nat.le_refl _) (.cells #[.int .i64 11, .slice a m c, .slice b m d, .int .i64 11, .slice a m c, .slice b m d] 26)
        have HBx := Lib.hid (bstep hHeld.2.2.2.2.2.2.2.2.2 hb7)
        clear hHeld hb7
        refine hK.out _ _ ?_ (fun hHeld => ?_)
        · exact (km9 CV (HBx.out))
        clear hK K HBx
        try simp only [Act.put, List.setIfInBounds_toArray, List.set_cons_zero, List.set_cons_succ]
        refine wpAnyH_ready (rs := [34]) (by kernel_rfl) (by simp) ?_
        refine AllReadyH.cons (o := o3_34) rfl (fun K hK => ?_) AllReadyH.nil
        go_simp
        refine (funcof_walk Tr _ 11 a m c b m d A (LA.out.on hHeld.2.2.2.2.2.2.2.2.2) v6.heap.size 0 2 2 (fun _ => A) IT.out (by decide) (by decide)).mono ?_
        rintro e v8 ⟨k13, a13, n13, c13, b13, m13, d13, rfl, L13, hb8⟩
        have HBx := Lib.hid (bstep hHeld.2.2.2.2.2.2.2.2.2 hb8)
        clear hHeld hb8
        refine hK.out _ _ ?_ (fun hHeld => ?_)
        · exact (km9 CV (HBx.out))
        clear hK K HBx
        try simp only [Act.put, List.setIfInBounds_toArray, List.set_cons_zero, List.set_cons_succ]
        refine wpAnyH_ready (rs := [35]) (by kernel_rfl) (by simp) ?_
        refine AllReadyH.cons (o := o3_35) rfl (fun K hK => ?_) AllReadyH.nil
        go_simp
        refine (kmay_at (T.func 2 (fun _ => A) A) OK3.out _ _ _ _ _ _ _ _ L13.tr).mono ?_
        rintro e v9 ⟨rfl, hb9⟩
        have HBx := Lib.hid (bstep hHeld.2.2.2.2.2.2.2.2.2 hb9)
        clear hHeld hb9
        refine hK.out _ _ ?_ (fun hHeld => ?_)
        · exact (km9 CV (HBx.out))
        clear hK K HBx
        try simp only [Act.put, List.setIfInBounds_toArray, List.set_cons_zero, List.set_cons_succ]
        refine wpAnyH_take (i := 36) (oi := o3_36) (v := ?_) rfl (by kernel_rfl) (by kernel_rfl) (by kernel_rfl) (fun _ _ _ h => h) (Or.inl ⟨by rfl, ?_⟩) (by assumption) ?_
        rotate_left
        · intro w hSw
          try dsimp only at hSw
          go_simp
          try with_reducible rfl
        try simp only [Act.put, List.setIfInBounds_toArray, List.set_cons_zero, List.set_cons_succ]
        refine wpAnyH_take (i := 37) (oi := o3_37) (v := ?_) rfl (by kernel_rfl) (by kernel_rfl) (by kernel_rfl) (fun _ _ _ h => h) (Or.inl ⟨by rfl, ?_⟩) (by assumption) ?_
        rotate_left
        · intro w hSw
          try dsimp only at hSw
          go_simp
          try with_reducible rfl
        try simp only [Act.put, List.setIfInBounds_toArray, List.set_cons_zero, List.set_cons_succ]
        refine wpAnyH_done (by kernel_rfl) ?_ _
        go_wp2
        go_ret
        exact ⟨rfl, bstep BW.out hHeld.2.2.2.2.2.2.2.2.2⟩
      · have HNO := Lib.hid hno
        clear hno
        obtain ⟨y0, y1, y2, y3, y4, y5⟩ := CW.out
        have EE := Lib.hid (entry_no Tr w10 a m c b m d A LA.out s (fun i hi => HNO.out i (by rw [MM.out] at hi; exact hi)))
        go_upto_region 14 with (go_at_call 14; (with_reducible refine EE.out.mono ?_); rintro e w11 ⟨k8, a8, n8, c8, b8, m8, d8, rfl, L8, hb11⟩)
        have D1 := Lib.hid (show Below w10.heap.size w10 (w11.alloc (.cells #[.int .i64 k8, .slice a8 n8 c8, .slice b8 m8 d8] 26)) from (bstep (Below.refl _ _) hb11).alloc hb11.size _)
        have LX := Lib.hid (show Lies Tr (w11.alloc (.cells #[.int .i64 k8, .slice a8 n8 c8, .slice b8 m8 d8] 26)) (TV k8 a8 n8 c8 b8 m8 d8) T.zero from (Lies.tr L8).alloc _)
        have X8 := Lib.hid (Boxed.new w11 (.int .i64 k8) (.slice a8 n8 c8) (.slice b8 m8 d8))
        replace CW := Lib.hid (keep33 CW.out D1.out)
        replace LA := Lib.hid (LA.out.on D1.out)
        replace BW := Lib.hid (bstep BW.out D1.out)
        clear y0 y1 y2 y3 y4 y5 EE L8 hb11 D1
        change Code.wp _ _ _ _ (w11.alloc (.cells #[.int .i64 k8, .slice a8 n8 c8, .slice b8 m8 d8] 26))
        obtain ⟨g8, hg8⟩ : ∃ g, g = w11.heap.size := ⟨_, rfl⟩
        rw [← hg8] at X8 ⊢
        clear hg8
        generalize w11.alloc (.cells #[.int .i64 k8, .slice a8 n8 c8, .slice b8 m8 d8] 26) = V1 at *
        obtain ⟨y0, y1, y2, y3, y4, y5⟩ := CW.out
        have AA := Lib.hid (at_no Tr V1 11 a m c b m d A LA.out s HNO.out)
        go_upto_region 15 with (go_at_call 19; (with_reducible refine AA.out.mono ?_); rintro e w12 ⟨k9, a9, n9, c9, b9, m9, d9, rfl, L9, hb12⟩)
        have D2 := Lib.hid (show Below V1.heap.size V1 (w12.alloc (.cells #[.int .i64 k9, .slice a9 n9 c9, .slice b9 m9 d9] 26)) from (bstep (Below.refl _ _) hb12).alloc hb12.size _)
        have LY := Lib.hid (show Lies Tr (w12.alloc (.cells #[.int .i64 k9, .slice a9 n9 c9, .slice b9 m9 d9] 26)) (TV k9 a9 n9 c9 b9 m9 d9) T.zero from (Lies.tr L9).alloc _)
        have X9 := Lib.hid (Boxed.new w12 (.int .i64 k9) (.slice a9 n9 c9) (.slice b9 m9 d9))
        replace X8 := Lib.hid (X8.out.below D2.out)
        replace CW := Lib.hid (keep33 CW.out D2.out)
        replace LA := Lib.hid (LA.out.on D2.out)
        replace LX := Lib.hid (LX.out.on D2.out)
        replace BW := Lib.hid (bstep BW.out D2.out)
        clear y0 y1 y2 y3 y4 y5 AA L9 hb12 D2
        change Code.wp _ _ _ _ (w12.alloc (.cells #[.int .i64 k9, .slice a9 n9 c9, .slice b9 m9 d9] 26))
        obtain ⟨g9, hg9⟩ : ∃ g, g = w12.heap.size := ⟨_, rfl⟩
        rw [← hg9] at X9 ⊢
        clear hg9
        generalize w12.alloc (.cells #[.int .i64 k9, .slice a9 n9 c9, .slice b9 m9 d9] 26) = V at *
        have OK1 := Lib.hid (ok_list 10 (.inl rfl) A hv)
        have OK2 := Lib.hid (ok_list 12 (.inr rfl) A hv)
        have OK3 := Lib.hid (ok_func A hv)
        obtain ⟨y0, y1, y2, y3, y4, y5⟩ := CW.out
        obtain ⟨p0, p1, p2⟩ := X8.out.cells
        obtain ⟨q0, q1, q2⟩ := X9.out.cells
        have CV : V.cell? ⟨w.heap.size, 0, none⟩ = some (.int .i64 11) ∧ V.cell? ⟨w.heap.size, 1, none⟩ = some (.slice a m c) ∧ V.cell? ⟨w.heap.size, 2, none⟩ = some (.slice b m d) ∧ V.cell? ⟨g8, 0, none⟩ = some (.int .i64 k8) ∧ V.cell? ⟨g8, 1, none⟩ = some (.slice a8 n8 c8) ∧ V.cell? ⟨g8, 2, none⟩ = some (.slice b8 m8 d8) ∧ V.cell? ⟨g9, 0, none⟩ = some (.int .i64 k9) ∧ V.cell? ⟨g9, 1, none⟩ = some (.slice a9 n9 c9) ∧ V.cell? ⟨g9, 2, none⟩ = some (.slice b9 m9 d9) := ⟨y0, y1, y2, p0, p1, p2, q0, q1, q2⟩
        clear y0 y1 y2 y3 y4 y5 p0 p1 p2 q0 q1 q2 X8 X9 CW hv
        refine wp_region_held_drew (S := fun w' => w'.cell? ⟨w.heap.size, 0, none⟩ = some (.int .i64 11) ∧ w'.cell? ⟨w.heap.size, 1, none⟩ = some (.slice a m c) ∧ w'.cell? ⟨w.heap.size, 2, none⟩ = some (.slice b m d) ∧ w'.cell? ⟨g8, 0, none⟩ = some (.int .i64 k8) ∧ w'.cell? ⟨g8, 1, none⟩ = some (.slice a8 n8 c8) ∧ w'.cell? ⟨g8, 2, none⟩ = some (.slice b8 m8 d8) ∧ w'.cell? ⟨g9, 0, none⟩ = some (.int .i64 k9) ∧ w'.cell? ⟨g9, 1, none⟩ = some (.slice a9 n9 c9) ∧ w'.cell? ⟨g9, 2, none⟩ = some (.slice b9 m9 d9) ∧ Below V.heap.size V w') (by kernel_rfl) ?_ (fun hHeld => ?_)
        · exact (km9 CV ((Below.refl _ _).drew))
        refine wpAnyH_take (i := 0) (oi := o3_0) (v := ?_) rfl (by kernel_rfl) (by kernel_rfl) (by kernel_rfl) (fun _ _ _ h => h) (Or.inl ⟨by rfl, ?_⟩) (by assumption) ?_
        rotate_left
        · intro w hSw
          try dsimp only at hSw
          go_simp
          try with_reducible rfl
        try simp only [Act.put, List.setIfInBounds_toArray, List.set_cons_zero, List.set_cons_succ]
        refine wpAnyH_take (i := 1) (oi := o3_1) (v := ?_) rfl (by kernel_rfl) (by kernel_rfl) (by kernel_rfl) (fun _ _ _ h => h) (Or.inl ⟨by rfl, ?_⟩) (by assumption) ?_
        rotate_left
        · intro w hSw
          try dsimp only at hSw
          go_simp
          try with_reducible rfl
        try simp only [Act.put, List.setIfInBounds_toArray, List.set_cons_zero, List.set_cons_succ]
        refine wpAnyH_take (i := 2) (oi := o3_2) (v := ?_) rfl (by kernel_rfl) (by kernel_rfl) (by kernel_rfl) (fun _ _ _ h => h) (Or.inl ⟨by rfl, ?_⟩) (by assumption) ?_
        rotate_left
        · intro w hSw
          try dsimp only at hSw
          go_simp
          try with_reducible rfl
        try simp only [Act.put, List.setIfInBounds_toArray, List.set_cons_zero, List.set_cons_succ]
        refine wpAnyH_take (i := 3) (oi := o3_3) (v := undef) rfl (by kernel_rfl) (by kernel_rfl) (by kernel_rfl) (fun _ _ _ h => h) (Or.inr ⟨by rfl, rfl⟩) (by assumption) ?_
        try simp only [Act.put, List.setIfInBounds_toArray, List.set_cons_zero, List.set_cons_succ]
        refine wpAnyH_take (i := 4) (oi := o3_4) (v := undef) rfl (by kernel_rfl) (by kernel_rfl) (by kernel_rfl) (fun _ _ _ h => h) (Or.inr ⟨by rfl, rfl⟩) (by assumption) ?_
        try simp only [Act.put, List.setIfInBounds_toArray, List.set_cons_zero, List.set_cons_succ]
        refine wpAnyH_take (i := 5) (oi := o3_5) (v := undef) rfl (by kernel_rfl) (by kernel_rfl) (by kernel_rfl) (fun _ _ _ h => h) (Or.inr ⟨by rfl, rfl⟩) (by assumption) ?_
        try simp only [Act.put, List.setIfInBounds_toArray, List.set_cons_zero, List.set_cons_succ]
        refine wpAnyH_take (i := 6) (oi := o3_6) (v := ?_) rfl (by kernel_rfl) (by kernel_rfl) (by kernel_rfl) (fun _ _ _ h => h) (Or.inl ⟨by rfl, ?_⟩) (by assumption) ?_
        rotate_left
        · intro w hSw
          try dsimp only at hSw
          go_simp
          try with_reducible rfl
        try simp only [Act.put, List.setIfInBounds_toArray, List.set_cons_zero, List.set_cons_succ]
        refine wpAnyH_take (i := 7) (oi := o3_7) (v := ?_) rfl (by kernel_rfl) (by kernel_rfl) (by kernel_rfl) (fun _ _ _ h => h) (Or.inl ⟨by rfl, ?_⟩) (by assumption) ?_
        rotate_left
        · intro w hSw
          try dsimp only at hSw
          go_simp
          try with_reducible rfl
        try simp only [Act.put, List.setIfInBounds_toArray, List.set_cons_zero, List.set_cons_succ]
        refine wpAnyH_take (i := 8) (oi := o3_8) (v := ?_) rfl (by kernel_rfl) (by kernel_rfl) (by kernel_rfl) (fun _ _ _ h => h) (Or.inl ⟨by rfl, ?_⟩) (by assumption) ?_
        rotate_left
        · intro w hSw
          try dsimp only at hSw
          go_simp
          try with_reducible rfl
        try simp only [Act.put, List.setIfInBounds_toArray, List.set_cons_zero, List.set_cons_succ]
        refine wpAnyH_take (i := 9) (oi := o3_9) (v := ?_) rfl (by kernel_rfl) (by kernel_rfl) (by kernel_rfl) (fun _ _ _ h => h) (Or.inl ⟨by rfl, ?_⟩) (by assumption) ?_
        rotate_left
        · intro w hSw
          try dsimp only at hSw
          go_simp
          try with_reducible rfl
        try simp only [Act.put, List.setIfInBounds_toArray, List.set_cons_zero, List.set_cons_succ]
        refine wpAnyH_take (i := 10) (oi := o3_10) (v := ?_) rfl (by kernel_rfl) (by kernel_rfl) (by kernel_rfl) (fun _ _ _ h => h) (Or.inl ⟨by rfl, ?_⟩) (by assumption) ?_
        rotate_left
        · intro w hSw
          try dsimp only at hSw
          go_simp
          try with_reducible rfl
        try simp only [Act.put, List.setIfInBounds_toArray, List.set_cons_zero, List.set_cons_succ]
        refine wpAnyH_take (i := 11) (oi := o3_11) (v := ?_) rfl (by kernel_rfl) (by kernel_rfl) (by kernel_rfl) (fun _ _ _ h => h) (Or.inl ⟨by rfl, ?_⟩) (by assumption) ?_
        rotate_left
        · intro w hSw
          try dsimp only at hSw
          go_simp
          try with_reducible rfl
        try simp only [Act.put, List.setIfInBounds_toArray, List.set_cons_zero, List.set_cons_succ]
        refine wpAnyH_take (i := 12) (oi := o3_12) (v := undef) rfl (by kernel_rfl) (by kernel_rfl) (by kernel_rfl) (fun _ _ _ h => h) (Or.inr ⟨by rfl, rfl⟩) (by assumption) ?_
        try simp only [Act.put, List.setIfInBounds_toArray, List.set_cons_zero, List.set_cons_succ]
        refine wpAnyH_take (i := 14) (oi := o3_14) (v := undef) rfl (by kernel_rfl) (by kernel_rfl) (by kernel_rfl) (fun _ _ _ h => h) (Or.inr ⟨by rfl, rfl⟩) (by assumption) ?_
        try simp only [Act.put, List.setIfInBounds_toArray, List.set_cons_zero, List.set_cons_succ]
        refine wpAnyH_take (i := 13) (oi := o3_13) (v := undef) rfl (by kernel_rfl) (by kernel_rfl) (by kernel_rfl) (fun _ _ _ h => h) (Or.inr ⟨by rfl, rfl⟩) (by assumption) ?_
        try simp only [Act.put, List.setIfInBounds_toArray, List.set_cons_zero, List.set_cons_succ]
        refine wpAnyH_take (i := 15) (oi := o3_15) (v := undef) rfl (by kernel_rfl) (by kernel_rfl) (by kernel_rfl) (fun _ _ _ h => h) (Or.inr ⟨by rfl, rfl⟩) (by assumption) ?_
        try simp only [Act.put, List.setIfInBounds_toArray, List.set_cons_zero, List.set_cons_succ]
        refine wpAnyH_take (i := 16) (oi := o3_16) (v := undef) rfl (by kernel_rfl) (by kernel_rfl) (by kernel_rfl) (fun _ _ _ h => h) (Or.inr ⟨by rfl, rfl⟩) (by assumption) ?_
        try simp only [Act.put, List.setIfInBounds_toArray, List.set_cons_zero, List.set_cons_succ]
        refine wpAnyH_take (i := 17) (oi := o3_17) (v := ?_) rfl (by kernel_rfl) (by kernel_rfl) (by kernel_rfl) (fun _ _ _ h => h) (Or.inl ⟨by rfl, ?_⟩) (by assumption) ?_
        rotate_left
        · intro w hSw
          try dsimp only at hSw
          go_simp
          try with_reducible rfl
        try simp only [Act.put, List.setIfInBounds_toArray, List.set_cons_zero, List.set_cons_succ]
        refine wpAnyH_take (i := 18) (oi := o3_18) (v := ?_) rfl (by kernel_rfl) (by kernel_rfl) (by kernel_rfl) (fun _ _ _ h => h) (Or.inl ⟨by rfl, ?_⟩) (by assumption) ?_
        rotate_left
        · intro w hSw
          try dsimp only at hSw
          go_simp
          try with_reducible rfl
        try simp only [Act.put, List.setIfInBounds_toArray, List.set_cons_zero, List.set_cons_succ]
        refine wpAnyH_take (i := 19) (oi := o3_19) (v := ?_) rfl (by kernel_rfl) (by kernel_rfl) (by kernel_rfl) (fun _ _ _ h => h) (Or.inl ⟨by rfl, ?_⟩) (by assumption) ?_
        rotate_left
        · intro w hSw
          try dsimp only at hSw
          go_simp
          try with_reducible rfl
        try simp only [Act.put, List.setIfInBounds_toArray, List.set_cons_zero, List.set_cons_succ]
        refine wpAnyH_take (i := 20) (oi := o3_20) (v := ?_) rfl (by kernel_rfl) (by kernel_rfl) (by kernel_rfl) (fun _ _ _ h => h) (Or.inl ⟨by rfl, ?_⟩) (by assumption) ?_
        rotate_left
        · intro w hSw
          try dsimp only at hSw
          go_simp
          try with_reducible rfl
        try simp only [Act.put, List.setIfInBounds_toArray, List.set_cons_zero, List.set_cons_succ]
        refine wpAnyH_ready (rs := [21]) (by kernel_rfl) (by simp) ?_
        refine AllReadyH.cons (o := o3_21) rfl (fun K hK => ?_) AllReadyH.nil
        go_simp
        refine (listof_walk Tr _ 11 a m c b m d A (LA.out.on hHeld.2.2.2.2.2.2.2.2.2)).mono ?_
        rintro e v3 ⟨k11, a11, n11, c11, b11, m11, d11, rfl, L11, hb3⟩
        have HBx := Lib.hid (bstep hHeld.2.2.2.2.2.2.2.2.2 hb3)
        clear hHeld hb3
        refine hK.out _ _ ?_ (fun hHeld => ?_)
        · exact (km9 CV (HBx.out))
        clear hK K HBx
        try simp only [Act.put, List.setIfInBounds_toArray, List.set_cons_zero, List.set_cons_succ]
        refine wpAnyH_ready (rs := [22]) (by kernel_rfl) (by simp) ?_
        refine AllReadyH.cons (o := o3_22) rfl (fun K hK => ?_) AllReadyH.nil
        go_simp
        refine (kmay_at (T.one 10 A) OK1.out _ _ _ _ _ _ _ _ L11.tr).mono ?_
        rintro e v4 ⟨rfl, hb4⟩
        have HBx := Lib.hid (bstep hHeld.2.2.2.2.2.2.2.2.2 hb4)
        clear hHeld hb4
        refine hK.out _ _ ?_ (fun hHeld => ?_)
        · exact (km9 CV (HBx.out))
        clear hK K HBx
        try simp only [Act.put, List.setIfInBounds_toArray, List.set_cons_zero, List.set_cons_succ]
        refine wpAnyH_take (i := 23) (oi := o3_23) (v := ?_) rfl (by kernel_rfl) (by kernel_rfl) (by kernel_rfl) (fun _ _ _ h => h) (Or.inl ⟨by rfl, ?_⟩) (by assumption) ?_
        rotate_left
        · intro w hSw
          try dsimp only at hSw
          go_simp
          try with_reducible rfl
        try simp only [Act.put, List.setIfInBounds_toArray, List.set_cons_zero, List.set_cons_succ]
        refine wpAnyH_take (i := 24) (oi := o3_24) (v := ?_) rfl (by kernel_rfl) (by kernel_rfl) (by kernel_rfl) (fun _ _ _ h => h) (Or.inl ⟨by rfl, ?_⟩) (by assumption) ?_
        rotate_left
        · intro w hSw
          try dsimp only at hSw
          go_simp
          try with_reducible rfl
        try simp only [Act.put, List.setIfInBounds_toArray, List.set_cons_zero, List.set_cons_succ]
        refine wpAnyH_take (i := 25) (oi := o3_25) (v := ?_) rfl (by kernel_rfl) (by kernel_rfl) (by kernel_rfl) (fun _ _ _ h => h) (Or.inl ⟨by rfl, ?_⟩) (by assumption) ?_
        rotate_left
        · intro w hSw
          try dsimp only at hSw
          go_simp
          try with_reducible rfl
        try simp only [Act.put, List.setIfInBounds_toArray, List.set_cons_zero, List.set_cons_succ]
        refine wpAnyH_ready (rs := [26]) (by kernel_rfl) (by simp) ?_
        refine AllReadyH.cons (o := o3_26) rfl (fun K hK => ?_) AllReadyH.nil
        go_simp
        refine (rangeof_walk Tr _ 11 a m c b m d A (LA.out.on hHeld.2.2.2.2.2.2.2.2.2)).mono ?_
        rintro e v5 ⟨k12, a12, n12, c12, b12, m12, d12, rfl, L12, hb5⟩
        have HBx := Lib.hid (bstep hHeld.2.2.2.2.2.2.2.2.2 hb5)
        clear hHeld hb5
        refine hK.out _ _ ?_ (fun hHeld => ?_)
        · exact (km9 CV (HBx.out))
        clear hK K HBx
        try simp only [Act.put, List.setIfInBounds_toArray, List.set_cons_zero, List.set_cons_succ]
        refine wpAnyH_ready (rs := [27]) (by kernel_rfl) (by simp) ?_
        refine AllReadyH.cons (o := o3_27) rfl (fun K hK => ?_) AllReadyH.nil
        go_simp
        refine (kmay_at (T.one 12 A) OK2.out _ _ _ _ _ _ _ _ L12.tr).mono ?_
        rintro e v6 ⟨rfl, hb6⟩
        have HBx := Lib.hid (bstep hHeld.2.2.2.2.2.2.2.2.2 hb6)
        clear hHeld hb6
        refine hK.out _ _ ?_ (fun hHeld => ?_)
        · exact (km9 CV (HBx.out))
        clear hK K HBx
        try simp only [Act.put, List.setIfInBounds_toArray, List.set_cons_zero, List.set_cons_succ]
        refine wpAnyH_take (i := 28) (oi := o3_28) (v := ?_) rfl (by kernel_rfl) (by kernel_rfl) (by kernel_rfl) (fun _ _ _ h => h) (Or.inl ⟨by rfl, ?_⟩) (by assumption) ?_
        rotate_left
        · intro w hSw
          try dsimp only at hSw
          go_simp
          try with_reducible rfl
        try simp only [Act.put, List.setIfInBounds_toArray, List.set_cons_zero, List.set_cons_succ]
        refine wpAnyH_take (i := 29) (oi := o3_29) (v := ?_) rfl (by kernel_rfl) (by kernel_rfl) (by kernel_rfl) (fun _ _ _ h => h) (Or.inl ⟨by rfl, ?_⟩) (by assumption) ?_
        rotate_left
        · intro w hSw
          try dsimp only at hSw
          go_simp
          try with_reducible rfl
        try simp only [Act.put, List.setIfInBounds_toArray, List.set_cons_zero, List.set_cons_succ]
        refine wpAnyH_take (i := 30) (oi := o3_30) (v := ?_) rfl (by kernel_rfl) (by kernel_rfl) (by kernel_rfl) (fun _ _ _ h => h) (Or.inl ⟨by rfl, ?_⟩) (by assumption) ?_
        rotate_left
        · intro w hSw
          try dsimp only at hSw
          go_simp
          try with_reducible rfl
        try simp only [Act.put, List.setIfInBounds_toArray, List.set_cons_zero, List.set_cons_succ]
        refine wpAnyH_take (i := 31) (oi := o3_31) (v := ?_) rfl (by kernel_rfl) (by kernel_rfl) (by kernel_rfl) (fun _ _ _ h => h) (Or.inl ⟨by rfl, ?_⟩) (by assumption) ?_
        rotate_left
        · intro w hSw
          try dsimp only at hSw
          go_simp
          try with_reducible rfl
        try simp only [Act.put, List.setIfInBounds_toArray, List.set_cons_zero, List.set_cons_succ]
        refine wpAnyH_take (i := 32) (oi := o3_32) (v := ?_) rfl (by kernel_rfl) (by kernel_rfl) (by kernel_rfl) (fun _ _ _ h => h) (Or.inl ⟨by rfl, ?_⟩) (by assumption) ?_
        rotate_left
        · intro w hSw
          try dsimp only at hSw
          go_simp
          try with_reducible rfl
        try simp only [Act.put, List.setIfInBounds_toArray, List.set_cons_zero, List.set_cons_succ]
        refine wpAnyH_ready (rs := [33]) (by kernel_rfl) (by simp) ?_
        refine AllReadyH.cons (o := o3_33) rfl (fun K hK => ?_) AllReadyH.nil
        go_simp
        have IT := Lib.hid (two_row v6 11 a m c b m d A (LA.out.on hHeld.2.2.2.2.2.2.2.2.2))
        have hb7 := (Below.refl v6.heap.size v6).alloc (Nat.le_refl _) (.cells #[.int .i64 11, .slice a m c, .slice b m d, .int .i64 11, .slice a m c, .slice b m d] 26)
        have HBx := Lib.hid (bstep hHeld.2.2.2.2.2.2.2.2.2 hb7)
        clear hHeld hb7
        refine hK.out _ _ ?_ (fun hHeld => ?_)
        · exact (km9 CV (HBx.out))
        clear hK K HBx
        try simp only [Act.put, List.setIfInBounds_toArray, List.set_cons_zero, List.set_cons_succ]
        refine wpAnyH_ready (rs := [34]) (by kernel_rfl) (by simp) ?_
        refine AllReadyH.cons (o := o3_34) rfl (fun K hK => ?_) AllReadyH.nil
        go_simp
        refine (funcof_walk Tr _ 11 a m c b m d A (LA.out.on hHeld.2.2.2.2.2.2.2.2.2) v6.heap.size 0 2 2 (fun _ => A) IT.out (by decide) (by decide)).mono ?_
        rintro e v8 ⟨k13, a13, n13, c13, b13, m13, d13, rfl, L13, hb8⟩
        have HBx := Lib.hid (bstep hHeld.2.2.2.2.2.2.2.2.2 hb8)
        clear hHeld hb8
        refine hK.out _ _ ?_ (fun hHeld => ?_)
        · exact (km9 CV (HBx.out))
        clear hK K HBx
        try simp only [Act.put, List.setIfInBounds_toArray, List.set_cons_zero, List.set_cons_succ]
        refine wpAnyH_ready (rs := [35]) (by kernel_rfl) (by simp) ?_
        refine AllReadyH.cons (o := o3_35) rfl (fun K hK => ?_) AllReadyH.nil
        go_simp
        refine (kmay_at (T.func 2 (fun _ => A) A) OK3.out _ _ _ _ _ _ _ _ L13.tr).mono ?_
        rintro e v9 ⟨rfl, hb9⟩
        have HBx := Lib.hid (bstep hHeld.2.2.2.2.2.2.2.2.2 hb9)
        clear hHeld hb9
        refine hK.out _ _ ?_ (fun hHeld => ?_)
        · exact (km9 CV (HBx.out))
        clear hK K HBx
        try simp only [Act.put, List.setIfInBounds_toArray, List.set_cons_zero, List.set_cons_succ]
        refine wpAnyH_take (i := 36) (oi := o3_36) (v := ?_) rfl (by kernel_rfl) (by kernel_rfl) (by kernel_rfl) (fun _ _ _ h => h) (Or.inl ⟨by rfl, ?_⟩) (by assumption) ?_
        rotate_left
        · intro w hSw
          try dsimp only at hSw
          go_simp
          try with_reducible rfl
        try simp only [Act.put, List.setIfInBounds_toArray, List.set_cons_zero, List.set_cons_succ]
        refine wpAnyH_take (i := 37) (oi := o3_37) (v := ?_) rfl (by kernel_rfl) (by kernel_rfl) (by kernel_rfl) (fun _ _ _ h => h) (Or.inl ⟨by rfl, ?_⟩) (by assumption) ?_
        rotate_left
        · intro w hSw
          try dsimp only at hSw
          go_simp
          try with_reducible rfl
        try simp only [Act.put, List.setIfInBounds_toArray, List.set_cons_zero, List.set_cons_succ]
        refine wpAnyH_done (by kernel_rfl) ?_ _
        go_wp2
        go_ret
        exact ⟨rfl, bstep BW.out hHeld.2.2.2.2.2.2.2.2.2⟩
    · have m0 : m = 0 := by
        have em := LA.out.mm
        have ek := LA.out.kk
        cases A with
        | z => cases hv
        | mk ka na ia ma na2 =>
          have ek' : ka = k := ek
          subst ek'
          have := (ok_other hv hk).1
          have em' : ma = m := em
          omega
      subst m0
      obtain ⟨y0, y1, y2, y3, y4, y5⟩ := CW.out
      have EE := Lib.hid (entry_other Tr w10 k a n c b 0 d A LA.out s hk)
      go_upto_region 14 with (go_at_call 14; (with_reducible refine EE.out.mono ?_); rintro e w11 ⟨k8, a8, n8, c8, b8, m8, d8, rfl, L8, hb11⟩)
      have D1 := Lib.hid (show Below w10.heap.size w10 (w11.alloc (.cells #[.int .i64 k8, .slice a8 n8 c8, .slice b8 m8 d8] 26)) from (bstep (Below.refl _ _) hb11).alloc hb11.size _)
      have LX := Lib.hid (show Lies Tr (w11.alloc (.cells #[.int .i64 k8, .slice a8 n8 c8, .slice b8 m8 d8] 26)) (TV k8 a8 n8 c8 b8 m8 d8) T.zero from (Lies.tr L8).alloc _)
      have X8 := Lib.hid (Boxed.new w11 (.int .i64 k8) (.slice a8 n8 c8) (.slice b8 m8 d8))
      replace CW := Lib.hid (keep33 CW.out D1.out)
      replace LA := Lib.hid (LA.out.on D1.out)
      replace BW := Lib.hid (bstep BW.out D1.out)
      clear y0 y1 y2 y3 y4 y5 EE L8 hb11 D1
      change Code.wp _ _ _ _ (w11.alloc (.cells #[.int .i64 k8, .slice a8 n8 c8, .slice b8 m8 d8] 26))
      obtain ⟨g8, hg8⟩ : ∃ g, g = w11.heap.size := ⟨_, rfl⟩
      rw [← hg8] at X8 ⊢
      clear hg8
      generalize w11.alloc (.cells #[.int .i64 k8, .slice a8 n8 c8, .slice b8 m8 d8] 26) = V1 at *
      obtain ⟨y0, y1, y2, y3, y4, y5⟩ := CW.out
      have AA := Lib.hid (at_no Tr V1 k a n c b 0 d A LA.out s (fun i hi => absurd hi (Nat.not_lt_zero _)))
      go_upto_region 15 with (go_at_call 19; (with_reducible refine AA.out.mono ?_); rintro e w12 ⟨k9, a9, n9, c9, b9, m9, d9, rfl, L9, hb12⟩)
      have D2 := Lib.hid (show Below V1.heap.size V1 (w12.alloc (.cells #[.int .i64 k9, .slice a9 n9 c9, .slice b9 m9 d9] 26)) from (bstep (Below.refl _ _) hb12).alloc hb12.size _)
      have LY := Lib.hid (show Lies Tr (w12.alloc (.cells #[.int .i64 k9, .slice a9 n9 c9, .slice b9 m9 d9] 26)) (TV k9 a9 n9 c9 b9 m9 d9) T.zero from (Lies.tr L9).alloc _)
      have X9 := Lib.hid (Boxed.new w12 (.int .i64 k9) (.slice a9 n9 c9) (.slice b9 m9 d9))
      replace X8 := Lib.hid (X8.out.below D2.out)
      replace CW := Lib.hid (keep33 CW.out D2.out)
      replace LA := Lib.hid (LA.out.on D2.out)
      replace LX := Lib.hid (LX.out.on D2.out)
      replace BW := Lib.hid (bstep BW.out D2.out)
      clear y0 y1 y2 y3 y4 y5 AA L9 hb12 D2
      change Code.wp _ _ _ _ (w12.alloc (.cells #[.int .i64 k9, .slice a9 n9 c9, .slice b9 m9 d9] 26))
      obtain ⟨g9, hg9⟩ : ∃ g, g = w12.heap.size := ⟨_, rfl⟩
      rw [← hg9] at X9 ⊢
      clear hg9
      generalize w12.alloc (.cells #[.int .i64 k9, .slice a9 n9 c9, .slice b9 m9 d9] 26) = V at *
      have OK1 := Lib.hid (ok_list 10 (.inl rfl) A hv)
      have OK2 := Lib.hid (ok_list 12 (.inr rfl) A hv)
      have OK3 := Lib.hid (ok_func A hv)
      obtain ⟨y0, y1, y2, y3, y4, y5⟩ := CW.out
      obtain ⟨p0, p1, p2⟩ := X8.out.cells
      obtain ⟨q0, q1, q2⟩ := X9.out.cells
      have CV : V.cell? ⟨w.heap.size, 0, none⟩ = some (.int .i64 k) ∧ V.cell? ⟨w.heap.size, 1, none⟩ = some (.slice a n c) ∧ V.cell? ⟨w.heap.size, 2, none⟩ = some (.slice b 0 d) ∧ V.cell? ⟨g8, 0, none⟩ = some (.int .i64 k8) ∧ V.cell? ⟨g8, 1, none⟩ = some (.slice a8 n8 c8) ∧ V.cell? ⟨g8, 2, none⟩ = some (.slice b8 m8 d8) ∧ V.cell? ⟨g9, 0, none⟩ = some (.int .i64 k9) ∧ V.cell? ⟨g9, 1, none⟩ = some (.slice a9 n9 c9) ∧ V.cell? ⟨g9, 2, none⟩ = some (.slice b9 m9 d9) := ⟨y0, y1, y2, p0, p1, p2, q0, q1, q2⟩
      clear y0 y1 y2 y3 y4 y5 p0 p1 p2 q0 q1 q2 X8 X9 CW hv
      refine wp_region_held_drew (S := fun w' => w'.cell? ⟨w.heap.size, 0, none⟩ = some (.int .i64 k) ∧ w'.cell? ⟨w.heap.size, 1, none⟩ = some (.slice a n c) ∧ w'.cell? ⟨w.heap.size, 2, none⟩ = some (.slice b 0 d) ∧ w'.cell? ⟨g8, 0, none⟩ = some (.int .i64 k8) ∧ w'.cell? ⟨g8, 1, none⟩ = some (.slice a8 n8 c8) ∧ w'.cell? ⟨g8, 2, none⟩ = some (.slice b8 m8 d8) ∧ w'.cell? ⟨g9, 0, none⟩ = some (.int .i64 k9) ∧ w'.cell? ⟨g9, 1, none⟩ = some (.slice a9 n9 c9) ∧ w'.cell? ⟨g9, 2, none⟩ = some (.slice b9 m9 d9) ∧ Below V.heap.size V w') (by kernel_rfl) ?_ (fun hHeld => ?_)
      · exact (km9 CV ((Below.refl _ _).drew))
      refine wpAnyH_take (i := 0) (oi := o3_0) (v := ?_) rfl (by kernel_rfl) (by kernel_rfl) (by kernel_rfl) (fun _ _ _ h => h) (Or.inl ⟨by rfl, ?_⟩) (by assumption) ?_
      rotate_left
      · intro w hSw
        try dsimp only at hSw
        go_simp
        try with_reducible rfl
      try simp only [Act.put, List.setIfInBounds_toArray, List.set_cons_zero, List.set_cons_succ]
      refine wpAnyH_take (i := 1) (oi := o3_1) (v := ?_) rfl (by kernel_rfl) (by kernel_rfl) (by kernel_rfl) (fun _ _ _ h => h) (Or.inl ⟨by rfl, ?_⟩) (by assumption) ?_
      rotate_left
      · intro w hSw
        try dsimp only at hSw
        go_simp
        try with_reducible rfl
      try simp only [Act.put, List.setIfInBounds_toArray, List.set_cons_zero, List.set_cons_succ]
      refine wpAnyH_take (i := 2) (oi := o3_2) (v := ?_) rfl (by kernel_rfl) (by kernel_rfl) (by kernel_rfl) (fun _ _ _ h => h) (Or.inl ⟨by rfl, ?_⟩) (by assumption) ?_
      rotate_left
      · intro w hSw
        try dsimp only at hSw
        go_simp
        try with_reducible rfl
      try simp only [Act.put, List.setIfInBounds_toArray, List.set_cons_zero, List.set_cons_succ]
      refine wpAnyH_take (i := 3) (oi := o3_3) (v := undef) rfl (by kernel_rfl) (by kernel_rfl) (by kernel_rfl) (fun _ _ _ h => h) (Or.inr ⟨by rfl, rfl⟩) (by assumption) ?_
      try simp only [Act.put, List.setIfInBounds_toArray, List.set_cons_zero, List.set_cons_succ]
      refine wpAnyH_take (i := 4) (oi := o3_4) (v := undef) rfl (by kernel_rfl) (by kernel_rfl) (by kernel_rfl) (fun _ _ _ h => h) (Or.inr ⟨by rfl, rfl⟩) (by assumption) ?_
      try simp only [Act.put, List.setIfInBounds_toArray, List.set_cons_zero, List.set_cons_succ]
      refine wpAnyH_take (i := 5) (oi := o3_5) (v := undef) rfl (by kernel_rfl) (by kernel_rfl) (by kernel_rfl) (fun _ _ _ h => h) (Or.inr ⟨by rfl, rfl⟩) (by assumption) ?_
      try simp only [Act.put, List.setIfInBounds_toArray, List.set_cons_zero, List.set_cons_succ]
      refine wpAnyH_take (i := 6) (oi := o3_6) (v := ?_) rfl (by kernel_rfl) (by kernel_rfl) (by kernel_rfl) (fun _ _ _ h => h) (Or.inl ⟨by rfl, ?_⟩) (by assumption) ?_
      rotate_left
      · intro w hSw
        try dsimp only at hSw
        go_simp
        try with_reducible rfl
      try simp only [Act.put, List.setIfInBounds_toArray, List.set_cons_zero, List.set_cons_succ]
      refine wpAnyH_take (i := 7) (oi := o3_7) (v := ?_) rfl (by kernel_rfl) (by kernel_rfl) (by kernel_rfl) (fun _ _ _ h => h) (Or.inl ⟨by rfl, ?_⟩) (by assumption) ?_
      rotate_left
      · intro w hSw
        try dsimp only at hSw
        go_simp
        try with_reducible rfl
      try simp only [Act.put, List.setIfInBounds_toArray, List.set_cons_zero, List.set_cons_succ]
      refine wpAnyH_take (i := 8) (oi := o3_8) (v := ?_) rfl (by kernel_rfl) (by kernel_rfl) (by kernel_rfl) (fun _ _ _ h => h) (Or.inl ⟨by rfl, ?_⟩) (by assumption) ?_
      rotate_left
      · intro w hSw
        try dsimp only at hSw
        go_simp
        try with_reducible rfl
      try simp only [Act.put, List.setIfInBounds_toArray, List.set_cons_zero, List.set_cons_succ]
      refine wpAnyH_take (i := 9) (oi := o3_9) (v := ?_) rfl (by kernel_rfl) (by kernel_rfl) (by kernel_rfl) (fun _ _ _ h => h) (Or.inl ⟨by rfl, ?_⟩) (by assumption) ?_
      rotate_left
      · intro w hSw
        try dsimp only at hSw
        go_simp
        try with_reducible rfl
      try simp only [Act.put, List.setIfInBounds_toArray, List.set_cons_zero, List.set_cons_succ]
      refine wpAnyH_take (i := 10) (oi := o3_10) (v := ?_) rfl (by kernel_rfl) (by kernel_rfl) (by kernel_rfl) (fun _ _ _ h => h) (Or.inl ⟨by rfl, ?_⟩) (by assumption) ?_
      rotate_left
      · intro w hSw
        try dsimp only at hSw
        go_simp
        try with_reducible rfl
      try simp only [Act.put, List.setIfInBounds_toArray, List.set_cons_zero, List.set_cons_succ]
      refine wpAnyH_take (i := 11) (oi := o3_11) (v := ?_) rfl (by kernel_rfl) (by kernel_rfl) (by kernel_rfl) (fun _ _ _ h => h) (Or.inl ⟨by rfl, ?_⟩) (by assumption) ?_
      rotate_left
      · intro w hSw
        try dsimp only at hSw
        go_simp
        try with_reducible rfl
      try simp only [Act.put, List.setIfInBounds_toArray, List.set_cons_zero, List.set_cons_succ]
      refine wpAnyH_take (i := 12) (oi := o3_12) (v := undef) rfl (by kernel_rfl) (by kernel_rfl) (by kernel_rfl) (fun _ _ _ h => h) (Or.inr ⟨by rfl, rfl⟩) (by assumption) ?_
      try simp only [Act.put, List.setIfInBounds_toArray, List.set_cons_zero, List.set_cons_succ]
      refine wpAnyH_take (i := 14) (oi := o3_14) (v := undef) rfl (by kernel_rfl) (by kernel_rfl) (by kernel_rfl) (fun _ _ _ h => h) (Or.inr ⟨by rfl, rfl⟩) (by assumption) ?_
      try simp only [Act.put, List.setIfInBounds_toArray, List.set_cons_zero, List.set_cons_succ]
      refine wpAnyH_take (i := 13) (oi := o3_13) (v := undef) rfl (by kernel_rfl) (by kernel_rfl) (by kernel_rfl) (fun _ _ _ h => h) (Or.inr ⟨by rfl, rfl⟩) (by assumption) ?_
      try simp only [Act.put, List.setIfInBounds_toArray, List.set_cons_zero, List.set_cons_succ]
      refine wpAnyH_take (i := 15) (oi := o3_15) (v := undef) rfl (by kernel_rfl) (by kernel_rfl) (by kernel_rfl) (fun _ _ _ h => h) (Or.inr ⟨by rfl, rfl⟩) (by assumption) ?_
      try simp only [Act.put, List.setIfInBounds_toArray, List.set_cons_zero, List.set_cons_succ]
      refine wpAnyH_take (i := 16) (oi := o3_16) (v := undef) rfl (by kernel_rfl) (by kernel_rfl) (by kernel_rfl) (fun _ _ _ h => h) (Or.inr ⟨by rfl, rfl⟩) (by assumption) ?_
      try simp only [Act.put, List.setIfInBounds_toArray, List.set_cons_zero, List.set_cons_succ]
      refine wpAnyH_take (i := 17) (oi := o3_17) (v := ?_) rfl (by kernel_rfl) (by kernel_rfl) (by kernel_rfl) (fun _ _ _ h => h) (Or.inl ⟨by rfl, ?_⟩) (by assumption) ?_
      rotate_left
      · intro w hSw
        try dsimp only at hSw
        go_simp
        try with_reducible rfl
      try simp only [Act.put, List.setIfInBounds_toArray, List.set_cons_zero, List.set_cons_succ]
      refine wpAnyH_take (i := 18) (oi := o3_18) (v := ?_) rfl (by kernel_rfl) (by kernel_rfl) (by kernel_rfl) (fun _ _ _ h => h) (Or.inl ⟨by rfl, ?_⟩) (by assumption) ?_
      rotate_left
      · intro w hSw
        try dsimp only at hSw
        go_simp
        try with_reducible rfl
      try simp only [Act.put, List.setIfInBounds_toArray, List.set_cons_zero, List.set_cons_succ]
      refine wpAnyH_take (i := 19) (oi := o3_19) (v := ?_) rfl (by kernel_rfl) (by kernel_rfl) (by kernel_rfl) (fun _ _ _ h => h) (Or.inl ⟨by rfl, ?_⟩) (by assumption) ?_
      rotate_left
      · intro w hSw
        try dsimp only at hSw
        go_simp
        try with_reducible rfl
      try simp only [Act.put, List.setIfInBounds_toArray, List.set_cons_zero, List.set_cons_succ]
      refine wpAnyH_take (i := 20) (oi := o3_20) (v := ?_) rfl (by kernel_rfl) (by kernel_rfl) (by kernel_rfl) (fun _ _ _ h => h) (Or.inl ⟨by rfl, ?_⟩) (by assumption) ?_
      rotate_left
      · intro w hSw
        try dsimp only at hSw
        go_simp
        try with_reducible rfl
      try simp only [Act.put, List.setIfInBounds_toArray, List.set_cons_zero, List.set_cons_succ]
      refine wpAnyH_ready (rs := [21]) (by kernel_rfl) (by simp) ?_
      refine AllReadyH.cons (o := o3_21) rfl (fun K hK => ?_) AllReadyH.nil
      go_simp
      refine (listof_walk Tr _ k a n c b 0 d A (LA.out.on hHeld.2.2.2.2.2.2.2.2.2)).mono ?_
      rintro e v3 ⟨k11, a11, n11, c11, b11, m11, d11, rfl, L11, hb3⟩
      have HBx := Lib.hid (bstep hHeld.2.2.2.2.2.2.2.2.2 hb3)
      clear hHeld hb3
      refine hK.out _ _ ?_ (fun hHeld => ?_)
      · exact (km9 CV (HBx.out))
      clear hK K HBx
      try simp only [Act.put, List.setIfInBounds_toArray, List.set_cons_zero, List.set_cons_succ]
      refine wpAnyH_ready (rs := [22]) (by kernel_rfl) (by simp) ?_
      refine AllReadyH.cons (o := o3_22) rfl (fun K hK => ?_) AllReadyH.nil
      go_simp
      refine (kmay_at (T.one 10 A) OK1.out _ _ _ _ _ _ _ _ L11.tr).mono ?_
      rintro e v4 ⟨rfl, hb4⟩
      have HBx := Lib.hid (bstep hHeld.2.2.2.2.2.2.2.2.2 hb4)
      clear hHeld hb4
      refine hK.out _ _ ?_ (fun hHeld => ?_)
      · exact (km9 CV (HBx.out))
      clear hK K HBx
      try simp only [Act.put, List.setIfInBounds_toArray, List.set_cons_zero, List.set_cons_succ]
      refine wpAnyH_take (i := 23) (oi := o3_23) (v := ?_) rfl (by kernel_rfl) (by kernel_rfl) (by kernel_rfl) (fun _ _ _ h => h) (Or.inl ⟨by rfl, ?_⟩) (by assumption) ?_
      rotate_left
      · intro w hSw
        try dsimp only at hSw
        go_simp
        try with_reducible rfl
      try simp only [Act.put, List.setIfInBounds_toArray, List.set_cons_zero, List.set_cons_succ]
      refine wpAnyH_take (i := 24) (oi := o3_24) (v := ?_) rfl (by kernel_rfl) (by kernel_rfl) (by kernel_rfl) (fun _ _ _ h => h) (Or.inl ⟨by rfl, ?_⟩) (by assumption) ?_
      rotate_left
      · intro w hSw
        try dsimp only at hSw
        go_simp
        try with_reducible rfl
      try simp only [Act.put, List.setIfInBounds_toArray, List.set_cons_zero, List.set_cons_succ]
      refine wpAnyH_take (i := 25) (oi := o3_25) (v := ?_) rfl (by kernel_rfl) (by kernel_rfl) (by kernel_rfl) (fun _ _ _ h => h) (Or.inl ⟨by rfl, ?_⟩) (by assumption) ?_
      rotate_left
      · intro w hSw
        try dsimp only at hSw
        go_simp
        try with_reducible rfl
      try simp only [Act.put, List.setIfInBounds_toArray, List.set_cons_zero, List.set_cons_succ]
      refine wpAnyH_ready (rs := [26]) (by kernel_rfl) (by simp) ?_
      refine AllReadyH.cons (o := o3_26) rfl (fun K hK => ?_) AllReadyH.nil
      go_simp
      refine (rangeof_walk Tr _ k a n c b 0 d A (LA.out.on hHeld.2.2.2.2.2.2.2.2.2)).mono ?_
      rintro e v5 ⟨k12, a12, n12, c12, b12, m12, d12, rfl, L12, hb5⟩
      have HBx := Lib.hid (bstep hHeld.2.2.2.2.2.2.2.2.2 hb5)
      clear hHeld hb5
      refine hK.out _ _ ?_ (fun hHeld => ?_)
      · exact (km9 CV (HBx.out))
      clear hK K HBx
      try simp only [Act.put, List.setIfInBounds_toArray, List.set_cons_zero, List.set_cons_succ]
      refine wpAnyH_ready (rs := [27]) (by kernel_rfl) (by simp) ?_
      refine AllReadyH.cons (o := o3_27) rfl (fun K hK => ?_) AllReadyH.nil
      go_simp
      refine (kmay_at (T.one 12 A) OK2.out _ _ _ _ _ _ _ _ L12.tr).mono ?_
      rintro e v6 ⟨rfl, hb6⟩
      have HBx := Lib.hid (bstep hHeld.2.2.2.2.2.2.2.2.2 hb6)
      clear hHeld hb6
      refine hK.out _ _ ?_ (fun hHeld => ?_)
      · exact (km9 CV (HBx.out))
      clear hK K HBx
      try simp only [Act.put, List.setIfInBounds_toArray, List.set_cons_zero, List.set_cons_succ]
      refine wpAnyH_take (i := 28) (oi := o3_28) (v := ?_) rfl (by kernel_rfl) (by kernel_rfl) (by kernel_rfl) (fun _ _ _ h => h) (Or.inl ⟨by rfl, ?_⟩) (by assumption) ?_
      rotate_left
      · intro w hSw
        try dsimp only at hSw
        go_simp
        try with_reducible rfl
      try simp only [Act.put, List.setIfInBounds_toArray, List.set_cons_zero, List.set_cons_succ]
      refine wpAnyH_take (i := 29) (oi := o3_29) (v := ?_) rfl (by kernel_rfl) (by kernel_rfl) (by kernel_rfl) (fun _ _ _ h => h) (Or.inl ⟨by rfl, ?_⟩) (by assumption) ?_
      rotate_left
      · intro w hSw
        try dsimp only at hSw
        go_simp
        try with_reducible rfl
      try simp only [Act.put, List.setIfInBounds_toArray, List.set_cons_zero, List.set_cons_succ]
      refine wpAnyH_take (i := 30) (oi := o3_30) (v := ?_) rfl (by kernel_rfl) (by kernel_rfl) (by kernel_rfl) (fun _ _ _ h => h) (Or.inl ⟨by rfl, ?_⟩) (by assumption) ?_
      rotate_left
      · intro w hSw
        try dsimp only at hSw
        go_simp
        try with_reducible rfl
      try simp only [Act.put, List.setIfInBounds_toArray, List.set_cons_zero, List.set_cons_succ]
      refine wpAnyH_take (i := 31) (oi := o3_31) (v := ?_) rfl (by kernel_rfl) (by kernel_rfl) (by kernel_rfl) (fun _ _ _ h => h) (Or.inl ⟨by rfl, ?_⟩) (by assumption) ?_
      rotate_left
      · intro w hSw
        try dsimp only at hSw
        go_simp
        try with_reducible rfl
      try simp only [Act.put, List.setIfInBounds_toArray, List.set_cons_zero, List.set_cons_succ]
      refine wpAnyH_take (i := 32) (oi := o3_32) (v := ?_) rfl (by kernel_rfl) (by kernel_rfl) (by kernel_rfl) (fun _ _ _ h => h) (Or.inl ⟨by rfl, ?_⟩) (by assumption) ?_
      rotate_left
      · intro w hSw
        try dsimp only at hSw
        go_simp
        try with_reducible rfl
      try simp only [Act.put, List.setIfInBounds_toArray, List.set_cons_zero, List.set_cons_succ]
      refine wpAnyH_ready (rs := [33]) (by kernel_rfl) (by simp) ?_
      refine AllReadyH.cons (o := o3_33) rfl (fun K hK => ?_) AllReadyH.nil
      go_simp
      have IT := Lib.hid (two_row v6 k a n c b 0 d A (LA.out.on hHeld.2.2.2.2.2.2.2.2.2))
      have hb7 := (Below.refl v6.heap.size v6).alloc (Nat.le_refl _) (.cells #[.int .i64 k, .slice a n c, .slice b 0 d, .int .i64 k, .slice a n c, .slice b 0 d] 26)
      have HBx := Lib.hid (bstep hHeld.2.2.2.2.2.2.2.2.2 hb7)
      clear hHeld hb7
      refine hK.out _ _ ?_ (fun hHeld => ?_)
      · exact (km9 CV (HBx.out))
      clear hK K HBx
      try simp only [Act.put, List.setIfInBounds_toArray, List.set_cons_zero, List.set_cons_succ]
      refine wpAnyH_ready (rs := [34]) (by kernel_rfl) (by simp) ?_
      refine AllReadyH.cons (o := o3_34) rfl (fun K hK => ?_) AllReadyH.nil
      go_simp
      refine (funcof_walk Tr _ k a n c b 0 d A (LA.out.on hHeld.2.2.2.2.2.2.2.2.2) v6.heap.size 0 2 2 (fun _ => A) IT.out (by decide) (by decide)).mono ?_
      rintro e v8 ⟨k13, a13, n13, c13, b13, m13, d13, rfl, L13, hb8⟩
      have HBx := Lib.hid (bstep hHeld.2.2.2.2.2.2.2.2.2 hb8)
      clear hHeld hb8
      refine hK.out _ _ ?_ (fun hHeld => ?_)
      · exact (km9 CV (HBx.out))
      clear hK K HBx
      try simp only [Act.put, List.setIfInBounds_toArray, List.set_cons_zero, List.set_cons_succ]
      refine wpAnyH_ready (rs := [35]) (by kernel_rfl) (by simp) ?_
      refine AllReadyH.cons (o := o3_35) rfl (fun K hK => ?_) AllReadyH.nil
      go_simp
      refine (kmay_at (T.func 2 (fun _ => A) A) OK3.out _ _ _ _ _ _ _ _ L13.tr).mono ?_
      rintro e v9 ⟨rfl, hb9⟩
      have HBx := Lib.hid (bstep hHeld.2.2.2.2.2.2.2.2.2 hb9)
      clear hHeld hb9
      refine hK.out _ _ ?_ (fun hHeld => ?_)
      · exact (km9 CV (HBx.out))
      clear hK K HBx
      try simp only [Act.put, List.setIfInBounds_toArray, List.set_cons_zero, List.set_cons_succ]
      refine wpAnyH_take (i := 36) (oi := o3_36) (v := ?_) rfl (by kernel_rfl) (by kernel_rfl) (by kernel_rfl) (fun _ _ _ h => h) (Or.inl ⟨by rfl, ?_⟩) (by assumption) ?_
      rotate_left
      · intro w hSw
        try dsimp only at hSw
        go_simp
        try with_reducible rfl
      try simp only [Act.put, List.setIfInBounds_toArray, List.set_cons_zero, List.set_cons_succ]
      refine wpAnyH_take (i := 37) (oi := o3_37) (v := ?_) rfl (by kernel_rfl) (by kernel_rfl) (by kernel_rfl) (fun _ _ _ h => h) (Or.inl ⟨by rfl, ?_⟩) (by assumption) ?_
      rotate_left
      · intro w hSw
        try dsimp only at hSw
        go_simp
        try with_reducible rfl
      try simp only [Act.put, List.setIfInBounds_toArray, List.set_cons_zero, List.set_cons_succ]
      refine wpAnyH_done (by kernel_rfl) ?_ _
      go_wp2
      go_ret
      exact ⟨rfl, bstep BW.out hHeld.2.2.2.2.2.2.2.2.2⟩
end Go.Proofs.Ytielmfchbgajnaa

/-
  A type's text (layer 13): textL, told plainly; write of simple types, lists and ranges.
-/
import Derived.Test.YtielmfchbgajnaaJt
import Derived.Test.YtielmfchbgajnaaJp
namespace Go.Proofs.Ytielmfchbgajnaa
open Go.RowKit Go.Shelf

/-- Things behind one another, with a comma between. -/
def seqL (f : Nat → List UInt8) : Nat → List UInt8
  | 0 => []
  | i + 1 => seqL f i ++ (if 0 < i then [44, 32] else []) ++ f i
def litList : List UInt8 := [108, 105, 115, 116, 60]
def litRange : List UInt8 := [114, 97, 110, 103, 101, 60]
def litCtx : List UInt8 := [99, 111, 110, 116, 101, 120, 116, 60]
def litFun : List UInt8 := [102, 117, 110, 99, 116, 105, 111, 110, 60]
def litGives : List UInt8 := [62, 32, 45, 62, 32]
/-- A type's text. -/
def textL : T → List UInt8
  | .z => []
  | .mk k n it m nm =>
    if k = 10 then litList ++ (if n = 0 then [] else textL (it 0)) ++ [62]
    else if k = 12 then litRange ++ (if n = 0 then [] else textL (it 0)) ++ [62]
    else if k = 11 then litCtx ++ seqL (fun i => quoteL (nm i) ++ [58, 32] ++ textL (it i)) (min m n) ++ [62]
    else if k = 13 then litFun ++ seqL (fun i => textL (it i)) (n - 1) ++ litGives ++ (if n = 0 then [] else textL (it (n - 1)))
    else (wordOf k).data.toList
def sumN (f : Nat → Nat) : Nat → Nat
  | 0 => 0
  | i + 1 => sumN f i + f i
/-- How much room a type's text takes at most. -/
def room : T → Nat
  | .z => 0
  | .mk k n it m nm => (if k = 0 then 40 else 80) + sumN (fun i => room (it i) + 8) n + sumN (fun i => 5 * (nm i).size + 8) m
theorem sumN_at (f : Nat → Nat) : ∀ n i, i < n → f i ≤ sumN f n
  | n + 1, i, h => by
    rcases Nat.lt_or_ge i n with q | q
    · exact Nat.le_trans (sumN_at f n i q) (Nat.le_add_right _ _)
    · obtain rfl : i = n := by omega
      exact Nat.le_add_left _ _
theorem sumN_up (f : Nat → Nat) : ∀ n i, i ≤ n → sumN f i ≤ sumN f n
  | 0, i, h => by obtain rfl : i = 0 := by omega
                  exact Nat.le_refl _
  | n + 1, i, h => by
    rcases Nat.lt_or_ge i (n + 1) with q | q
    · exact Nat.le_trans (sumN_up f n i (by omega)) (Nat.le_add_right _ _)
    · obtain rfl : i = n + 1 := by omega
      exact Nat.le_refl _
theorem seqL_le (f : Nat → List UInt8) (r : Nat → Nat) : ∀ n, (∀ i, i < n → (f i).length ≤ r i) → (seqL f n).length ≤ sumN (fun i => r i + 2) n
  | 0, _ => Nat.zero_le _
  | n + 1, h => by
    have h1 := seqL_le f r n (fun i hi => h i (by omega))
    have h2 := h n (by omega)
    have h3 : (if 0 < n then ([44, 32] : List UInt8) else []).length ≤ 2 := by split <;> simp
    show (seqL f n ++ (if 0 < n then [44, 32] else []) ++ f n).length ≤ sumN (fun i => r i + 2) n + (r n + 2)
    simp only [List.length_append]
    omega
theorem sumN_le (f g : Nat → Nat) : ∀ n, (∀ i, i < n → f i ≤ g i) → sumN f n ≤ sumN g n
  | 0, _ => Nat.le_refl _
  | n + 1, h => by
    have h1 := sumN_le f g n (fun i hi => h i (by omega))
    have h2 := h n (by omega)
    show sumN f n + f n ≤ sumN g n + g n
    omega
theorem sumN_add (f g : Nat → Nat) : ∀ n, sumN (fun i => f i + g i) n = sumN f n + sumN g n
  | 0 => rfl
  | n + 1 => by
    have := sumN_add f g n
    show sumN (fun i => f i + g i) n + (f n + g n) = sumN f n + f n + (sumN g n + g n)
    omega
theorem wordOf_le (k : Int) : (wordOf k).data.toList.length ≤ 30 := by
  unfold wordOf
  repeat' split
  all_goals decide
theorem textL_le : ∀ t, (textL t).length ≤ room t := by
  intro t
  induction t with
  | z => exact Nat.zero_le _
  | mk k n it m nm ih =>
    show (textL (.mk k n it m nm)).length ≤ (if k = 0 then 40 else 80) + sumN (fun i => room (it i) + 8) n + sumN (fun i => 5 * (nm i).size + 8) m
    have hc : 40 ≤ (if k = 0 then 40 else 80) := by split <;> omega
    generalize (if k = 0 then 40 else 80) = cc at hc ⊢
    have one : ∀ i, (if n = 0 then [] else textL (it i)).length ≤ if n = 0 then 0 else room (it i) := fun i => by
      split
      · exact Nat.zero_le _
      · exact ih i
    have into : ∀ i, (n ≠ 0 → i < n) → (if n = 0 then 0 else room (it i)) ≤ sumN (fun i => room (it i) + 8) n := fun i hi => by
      split
      · exact Nat.zero_le _
      · rename_i h
        have h9 : room (it i) + 8 ≤ sumN (fun i => room (it i) + 8) n := sumN_at (fun i => room (it i) + 8) n i (hi h)
        omega
    unfold textL
    split
    · have h1 := one 0
      have h2 := into 0 (fun h => by omega)
      simp only [List.length_append]
      have : litList.length = 5 := rfl
      have : ([62] : List UInt8).length = 1 := rfl
      omega
    · split
      · have h1 := one 0
        have h2 := into 0 (fun h => by omega)
        simp only [List.length_append]
        have : litRange.length = 6 := rfl
        have : ([62] : List UInt8).length = 1 := rfl
        omega
      · split
        · have h1 := seqL_le (fun i => quoteL (nm i) ++ [58, 32] ++ textL (it i)) (fun i => (room (it i) + 4) + (5 * (nm i).size)) (min m n) (fun i _ => by
            have := quoteL_le (nm i)
            have := ih i
            simp only [List.length_append]
            have : ([58, 32] : List UInt8).length = 2 := rfl
            omega)
          have h2 : sumN (fun i => (room (it i) + 4) + (5 * (nm i).size) + 2) (min m n) ≤ sumN (fun i => (room (it i) + 8) + (5 * (nm i).size + 8)) (min m n) := sumN_le _ _ _ (fun i _ => by omega)
          have h5 : sumN (fun i => (room (it i) + 8) + (5 * (nm i).size + 8)) (min m n) = sumN (fun i => room (it i) + 8) (min m n) + sumN (fun i => 5 * (nm i).size + 8) (min m n) := sumN_add (fun i => room (it i) + 8) (fun i => 5 * (nm i).size + 8) (min m n)
          have h3 := sumN_up (fun i => room (it i) + 8) n (min m n) (by omega)
          have h4 := sumN_up (fun i => 5 * (nm i).size + 8) m (min m n) (by omega)
          simp only [List.length_append]
          have : litCtx.length = 8 := rfl
          have : ([62] : List UInt8).length = 1 := rfl
          omega
        · split
          · by_cases hn : n = 0
            · subst hn
              simp only [List.length_append, if_pos]
              have : litFun.length = 9 := rfl
              have : litGives.length = 5 := rfl
              have : (seqL (fun i => textL (it i)) (0 - 1)).length = 0 := rfl
              have : ([] : List UInt8).length = 0 := rfl
              omega
            · have h1 := seqL_le (fun i => textL (it i)) (fun i => room (it i)) (n - 1) (fun i _ => ih i)
              have h2 := sumN_le (fun i => room (it i) + 2) (fun i => room (it i) + 8) (n - 1) (fun i _ => by omega)
              have h3 := ih (n - 1)
              have h4 : sumN (fun i => room (it i) + 8) n = sumN (fun i => room (it i) + 8) (n - 1) + (room (it (n - 1)) + 8) := by
                obtain ⟨q, rfl⟩ : ∃ q, n = q + 1 := ⟨n - 1, by omega⟩
                rfl
              rw [if_neg hn]
              simp only [List.length_append]
              have : litFun.length = 9 := rfl
              have : litGives.length = 5 := rfl
              omega
          · have := wordOf_le k
            omega
/-- A box that holds a type. -/
def Boxed (w : World) (g : Nat) (x y z : Value) : Prop := w.heap[g]? = some (.cells #[x, y, z] 26 (0, 0))
theorem Boxed.kept {w W : World} {g p : Nat} {x y z : Value} (h : Boxed w g x y z) (k : Lib.OthersKept BE (some p) w W) (hne : g ≠ p) : Boxed W g x y z :=
  k g _ h (fun e => hne (Option.some.inj e)) (fun c fz e => by injection e with _ e2 _; exact absurd e2 (by decide))
theorem Boxed.lt {w : World} {g : Nat} {x y z : Value} (h : Boxed w g x y z) : g < w.heap.size := (Array.getElem?_eq_some_iff.1 h).1
theorem Boxed.below {w W : World} {g : Nat} {x y z : Value} (h : Boxed w g x y z) (b : Below w.heap.size w W) : Boxed W g x y z := (b.block g h.lt).trans h
theorem Boxed.cells {w : World} {g : Nat} {x y z : Value} (h : Boxed w g x y z) : w.cell? ⟨g, 0, none⟩ = some x ∧ w.cell? ⟨g, 1, none⟩ = some y ∧ w.cell? ⟨g, 2, none⟩ = some z :=
  ⟨by rw [Lib.cell_of_heap h]; rfl, by rw [Lib.cell_of_heap h]; rfl, by rw [Lib.cell_of_heap h]; rfl⟩
theorem Boxed.new (w : World) (x y z : Value) : Boxed (w.alloc (.cells #[x, y, z] 26)) w.heap.size x y z := heap_alloc_new w _
theorem Lies.under {S : Nat → Prop} {w W : World} {v : Value} {t : T} {B : Nat} (h : Lies S w v t) (hS : ∀ g, S g → g < B) (b : Below B w W) : Lies S W v t := h.turned fun g s _ => b.block g (hS g s)
theorem builder_under {B b : Nat} {bs : List Value} {w W : World} (h : Lib.IsBuilderF BT BE B b bs w) (hb : Below w.heap.size w W) : Lib.IsBuilderF BT BE B b bs W := by
  have key : ∀ p, Lib.BuilderAtF BT BE B b p bs w → Lib.BuilderAtF BT BE B b p bs W := by
    rintro p ⟨hB, v, hbk, hown, hne⟩
    refine ⟨hB, v, (hb.block b (Array.getElem?_eq_some_iff.1 hbk).1).trans hbk, ⟨hown.1, ?_⟩, hne⟩
    rcases hown.2 with hn | ⟨g, cap, cur, fz, hv, hbg, hg, rest⟩
    · exact .inl hn
    · exact .inr ⟨g, cap, cur, fz, hv, hbg, (hb.block g (Array.getElem?_eq_some_iff.1 hg).1).trans hg, rest⟩
  exact h.elim (fun x => .inl (key _ x)) (fun x => .inr (key _ x))
theorem okept_below {e : TypeId} {b : Option Nat} {w W : World} (h : Below w.heap.size w W) : Lib.OthersKept e b w W := fun k o hk _ _ => (h.block k (Array.getElem?_eq_some_iff.1 hk).1).trans hk
/-- write lays the text of this type. -/
def WritesFor (t : T) : Prop := ∀ (S : Nat → Prop) (w : World) (k : Int) (a : Option Addr) (n c : Nat) (b : Option Addr) (m d : Nat) (B p : Nat) (acc : List UInt8), Lies S w (TV k a n c b m d) t → (∀ g, S g → g < B) → Lib.IsBuilderF BT BE B p (Lib.byteCells acc) w → B ≤ w.heap.size → acc.length + room t + 64 ≤ 140737488355328 →
  Calls Try.prog 36 #[.pointer (some ⟨p, 0, none⟩), TV k a n c b m d] w (Wrote B p (acc ++ textL t) w)
set_option linter.unusedVariables false in
set_option linter.unusedSimpArgs false in
set_option maxHeartbeats 2000000 in
set_option maxRecDepth 100000 in
theorem write_word (t : T) (S : Nat → Prop) (w : World) (k : Int) (a : Option Addr) (n c : Nat) (b : Option Addr) (m d : Nat) (B p : Nat) (acc : List UInt8) (h : Lies S w (TV k a n c b m d) t) (hb : Lib.IsBuilderF BT BE B p (Lib.byteCells acc) w) (hB : B ≤ w.heap.size) (hl : acc.length + room t + 64 ≤ 140737488355328)
    (k0 : k ≠ 10) (k1 : k ≠ 11) (k2 : k ≠ 12) (k3 : k ≠ 13) :
    Calls Try.prog 36 #[.pointer (some ⟨p, 0, none⟩), TV k a n c b m d] w (Wrote B p (acc ++ textL t) w) := by
  have ht : textL t = (wordOf k).data.toList := by
    cases h
    unfold textL
    rw [if_neg k0, if_neg k2, if_neg k1, if_neg k3]
  have hw := wordOf_le k
  have hw2 : (wordOf k).size = (wordOf k).data.toList.length := rfl
  have j0 : (k == 10) = false := by simp [k0]
  have j1 : (k == 11) = false := by simp [k1]
  have j2 : (k == 12) = false := by simp [k2]
  have j3 : (k == 13) = false := by simp [k3]
  have WS := Lib.hid (fun (W : World) (h1 : Lib.IsBuilderF BT BE B p (Lib.byteCells acc) W) (h2 : B ≤ W.heap.size) => ws_any B p acc (wordOf k) W h1 (by omega) h2)
  have hb0 := hb.alloc (.cells #[.int .i64 k, .slice a n c, .slice b m d] 26)
  have WW := Lib.hid (word_walk k)
  rw [ht]
  clear hl hw hw2 h
  have B0 : Below B w (w.alloc (.cells #[.int .i64 k, .slice a n c, .slice b m d] 26)) := (Below.refl _ _).alloc hB _
  have hB1 : B ≤ (w.alloc (.cells #[.int .i64 k, .slice a n c, .slice b m d] 26)).heap.size := by simp only [World.size_alloc]; omega
  have K0 : Lib.OthersKept BE (some p) w (w.alloc (.cells #[.int .i64 k, .slice a n c, .slice b m d] 26)) := (Lib.OthersKept.refl _ _ _).alloc _
  go_enter Try.func36, Try.ntmps36
  go_wp2_with (first
    | (go_at_call 28; (with_reducible refine (WW.out _).mono ?_); rintro e w1 ⟨rfl, hb1⟩; have b1 := Below.trans B0 (hb1.mono hB1))
    | (go_at_call 55; (with_reducible refine (WS.out _ (builder_under hb0 hb1) (Nat.le_trans hB1 hb1.size)).mono ?_); rintro e w2 ⟨rfl, h2, b2, q2⟩))
  go_end0
  exact ⟨rfl, h2, b1.trans b2, (K0.trans (okept_below hb1)).trans q2⟩
theorem room_within (t : T) : room t.within + 40 ≤ room t ∨ t = .z ∨ t.k = 0 := by
  cases t with
  | z => exact .inr (.inl rfl)
  | mk k n it m nm =>
    by_cases hk : k = 0
    · exact .inr (.inr hk)
    left
    show room (if n = 0 then T.zero else it 0) + 40 ≤ (if k = 0 then 40 else 80) + sumN (fun i => room (it i) + 8) n + sumN (fun i => 5 * (nm i).size + 8) m
    rw [if_neg hk]
    split
    · show (40 + 0 + 0) + 40 ≤ _; omega
    · have h9 : room (it 0) + 8 ≤ sumN (fun i => room (it i) + 8) n := sumN_at (fun i => room (it i) + 8) n 0 (by omega)
      omega
theorem text_zero : textL T.zero = [] := rfl
theorem textL_list (n : Nat) (it : Nat → T) (m : Nat) (nm : Nat → ByteArray) : textL (.mk 10 n it m nm) = litList ++ textL (T.within (.mk 10 n it m nm)) ++ [62] := by
  show litList ++ (if n = 0 then [] else textL (it 0)) ++ [62] = litList ++ textL (if n = 0 then T.zero else it 0) ++ [62]
  split
  · rw [text_zero]
  · rfl
theorem textL_range (n : Nat) (it : Nat → T) (m : Nat) (nm : Nat → ByteArray) : textL (.mk 12 n it m nm) = litRange ++ textL (T.within (.mk 12 n it m nm)) ++ [62] := by
  show litRange ++ (if n = 0 then [] else textL (it 0)) ++ [62] = litRange ++ textL (if n = 0 then T.zero else it 0) ++ [62]
  split
  · rw [text_zero]
  · rfl
set_option linter.unusedVariables false in
set_option linter.unusedSimpArgs false in
set_option maxHeartbeats 4000000 in
set_option maxRecDepth 100000 in
theorem write_list (t : T) (HW : WritesFor t.within) (S : Nat → Prop) (w : World) (a : Option Addr) (n c : Nat) (b : Option Addr) (m d : Nat) (B p : Nat) (acc : List UInt8) (h : Lies S w (TV 10 a n c b m d) t) (hS : ∀ g, S g → g < B) (hb : Lib.IsBuilderF BT BE B p (Lib.byteCells acc) w) (hB : B ≤ w.heap.size) (hl : acc.length + room t + 64 ≤ 140737488355328) :
    Calls Try.prog 36 #[.pointer (some ⟨p, 0, none⟩), TV 10 a n c b m d] w (Wrote B p (acc ++ textL t) w) := by
  have ht : textL t = litList ++ textL t.within ++ [62] := by
    cases h
    exact textL_list _ _ _ _
  have hr : room t.within + 40 ≤ room t := by
    rcases room_within t with q | q | q
    · exact q
    · subst q; cases h
    · rw [h.kk] at q; cases q
  have hx := textL_le t.within
  have hp := builder_lt hb
  have B0 : Below B w (w.alloc (.cells #[.int .i64 10, .slice a n c, .slice b m d] 26)) := (Below.refl _ _).alloc hB _
  have hB1 : B ≤ (w.alloc (.cells #[.int .i64 10, .slice a n c, .slice b m d] 26)).heap.size := by simp only [World.size_alloc]; omega
  have K0 : Lib.OthersKept BE (some p) w (w.alloc (.cells #[.int .i64 10, .slice a n c, .slice b m d] 26)) := (Lib.OthersKept.refl _ _ _).alloc _
  have WS := Lib.hid (ws_any B p acc ⟨#[108, 105, 115, 116, 60]⟩ _ (hb.alloc (.cells #[.int .i64 10, .slice a n c, .slice b m d] 26)) (by show acc.length + 5 ≤ _; omega) hB1)
  have HV := Lib.hid (fun (W : World) (k2 : Int) (a2 : Option Addr) (n2 c2 : Nat) (b2 : Option Addr) (m2 d2 : Nat) (l : Lies S W (TV k2 a2 n2 c2 b2 m2 d2) t.within) (h1 : Lib.IsBuilderF BT BE B p (Lib.byteCells (acc ++ litList)) W) (h2 : B ≤ W.heap.size) => HW S W k2 a2 n2 c2 b2 m2 d2 B p (acc ++ litList) l hS h1 h2 (by rw [List.length_append]; have : litList.length = 5 := rfl; omega))
  have WT := Lib.hid (fun (W : World) (h1 : Lib.IsBuilderF BT BE B p (Lib.byteCells (acc ++ litList ++ textL t.within)) W) (h2 : B ≤ W.heap.size) => ws_any B p (acc ++ litList ++ textL t.within) ⟨#[62]⟩ W h1 (by simp only [List.length_append]; have : litList.length = 5 := rfl; show _ + 1 ≤ _; omega) h2)
  have WI := Lib.hid (fun W (l : Lies S W (TV 10 a n c b m d) t) => within_walk 10 a n c b m d t S W l)
  have BX := Lib.hid (fun (W : World) (q : Lib.OthersKept BE (some p) (w.alloc (.cells #[.int .i64 10, .slice a n c, .slice b m d] 26)) W) => (Boxed.new w (.int .i64 10) (.slice a n c) (.slice b m d)).kept q (fun e => by omega))
  have HL := Lib.hid h
  rw [ht]
  clear hl hr hx h HW ht
  go_enter Try.func36, Try.ntmps36
  go_wp2_with (first
    | (go_at_call 55; (with_reducible refine (WS.out).mono ?_); rintro e w1 ⟨rfl, h1, b1, q1⟩; have bx1 := BX.out _ q1; obtain ⟨x0, x1, x2⟩ := bx1.cells; have b01 := B0.trans b1; have s1 := b01.size; have g1 : Lib.IsBuilderF BT BE B p (Lib.byteCells (acc ++ litList)) w1 := h1)
    | (go_at_call 50; (with_reducible refine (WI.out _ (HL.out.under hS b01)).mono ?_); rintro e w2 ⟨k2, a2, n2, c2, b2', m2, d2, rfl, L2, hb2⟩; have s2 := hb2.size)
    | (go_at_call 36; (with_reducible refine (HV.out _ _ _ _ _ _ _ _ L2 (builder_under g1 hb2) (by omega)).mono ?_); rintro e w3 ⟨rfl, h3, b3, q3⟩; have s3 := b3.size)
    | (go_at_call 55; (with_reducible refine (WT.out _ h3 (by omega)).mono ?_); rintro e w4 ⟨rfl, h4, b4, q4⟩))
  go_end0
  refine ⟨rfl, ?_, ((b01.trans (hb2.mono (by omega))).trans b3).trans b4, (((K0.trans q1).trans (okept_below hb2)).trans q3).trans q4⟩
  rw [← List.append_assoc, ← List.append_assoc]
  exact h4
set_option linter.unusedVariables false in
set_option linter.unusedSimpArgs false in
set_option maxHeartbeats 4000000 in
set_option maxRecDepth 100000 in
theorem write_range (t : T) (HW : WritesFor t.within) (S : Nat → Prop) (w : World) (a : Option Addr) (n c : Nat) (b : Option Addr) (m d : Nat) (B p : Nat) (acc : List UInt8) (h : Lies S w (TV 12 a n c b m d) t) (hS : ∀ g, S g → g < B) (hb : Lib.IsBuilderF BT BE B p (Lib.byteCells acc) w) (hB : B ≤ w.heap.size) (hl : acc.length + room t + 64 ≤ 140737488355328) :
    Calls Try.prog 36 #[.pointer (some ⟨p, 0, none⟩), TV 12 a n c b m d] w (Wrote B p (acc ++ textL t) w) := by
  have ht : textL t = litRange ++ textL t.within ++ [62] := by
    cases h
    exact textL_range _ _ _ _
  have hr : room t.within + 40 ≤ room t := by
    rcases room_within t with q | q | q
    · exact q
    · subst q; cases h
    · rw [h.kk] at q; cases q
  have hx := textL_le t.within
  have hp := builder_lt hb
  have B0 : Below B w (w.alloc (.cells #[.int .i64 12, .slice a n c, .slice b m d] 26)) := (Below.refl _ _).alloc hB _
  have hB1 : B ≤ (w.alloc (.cells #[.int .i64 12, .slice a n c, .slice b m d] 26)).heap.size := by simp only [World.size_alloc]; omega
  have K0 : Lib.OthersKept BE (some p) w (w.alloc (.cells #[.int .i64 12, .slice a n c, .slice b m d] 26)) := (Lib.OthersKept.refl _ _ _).alloc _
  have WS := Lib.hid (ws_any B p acc ⟨#[114, 97, 110, 103, 101, 60]⟩ _ (hb.alloc (.cells #[.int .i64 12, .slice a n c, .slice b m d] 26)) (by show acc.length + 6 ≤ _; omega) hB1)
  have HV := Lib.hid (fun (W : World) (k2 : Int) (a2 : Option Addr) (n2 c2 : Nat) (b2 : Option Addr) (m2 d2 : Nat) (l : Lies S W (TV k2 a2 n2 c2 b2 m2 d2) t.within) (h1 : Lib.IsBuilderF BT BE B p (Lib.byteCells (acc ++ litRange)) W) (h2 : B ≤ W.heap.size) => HW S W k2 a2 n2 c2 b2 m2 d2 B p (acc ++ litRange) l hS h1 h2 (by rw [List.length_append]; have : litRange.length = 6 := rfl; omega))
  have WT := Lib.hid (fun (W : World) (h1 : Lib.IsBuilderF BT BE B p (Lib.byteCells (acc ++ litRange ++ textL t.within)) W) (h2 : B ≤ W.heap.size) => ws_any B p (acc ++ litRange ++ textL t.within) ⟨#[62]⟩ W h1 (by simp only [List.length_append]; have : litRange.length = 6 := rfl; show _ + 1 ≤ _; omega) h2)
  have WI := Lib.hid (fun W (l : Lies S W (TV 12 a n c b m d) t) => within_walk 12 a n c b m d t S W l)
  have BX := Lib.hid (fun (W : World) (q : Lib.OthersKept BE (some p) (w.alloc (.cells #[.int .i64 12, .slice a n c, .slice b m d] 26)) W) => (Boxed.new w (.int .i64 12) (.slice a n c) (.slice b m d)).kept q (fun e => by omega))
  have HL := Lib.hid h
  rw [ht]
  clear hl hr hx h HW ht
  go_enter Try.func36, Try.ntmps36
  go_wp2_with (first
    | (go_at_call 55; (with_reducible refine (WS.out).mono ?_); rintro e w1 ⟨rfl, h1, b1, q1⟩; have bx1 := BX.out _ q1; obtain ⟨x0, x1, x2⟩ := bx1.cells; have b01 := B0.trans b1; have s1 := b01.size; have g1 : Lib.IsBuilderF BT BE B p (Lib.byteCells (acc ++ litRange)) w1 := h1)
    | (go_at_call 50; (with_reducible refine (WI.out _ (HL.out.under hS b01)).mono ?_); rintro e w2 ⟨k2, a2, n2, c2, b2', m2, d2, rfl, L2, hb2⟩; have s2 := hb2.size)
    | (go_at_call 36; (with_reducible refine (HV.out _ _ _ _ _ _ _ _ L2 (builder_under g1 hb2) (by omega)).mono ?_); rintro e w3 ⟨rfl, h3, b3, q3⟩; have s3 := b3.size)
    | (go_at_call 55; (with_reducible refine (WT.out _ h3 (by omega)).mono ?_); rintro e w4 ⟨rfl, h4, b4, q4⟩))
  go_end0
  refine ⟨rfl, ?_, ((b01.trans (hb2.mono (by omega))).trans b3).trans b4, (((K0.trans q1).trans (okept_below hb2)).trans q3).trans q4⟩
  rw [← List.append_assoc, ← List.append_assoc]
  exact h4
end Go.Proofs.Ytielmfchbgajnaa

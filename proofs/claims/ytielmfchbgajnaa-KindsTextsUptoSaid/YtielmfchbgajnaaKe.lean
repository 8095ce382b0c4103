/-
  Entry walked (layer 13): what a context's type has by a name.
-/
import Derived.Test.YtielmfchbgajnaaKAt
namespace Go.Proofs.Ytielmfchbgajnaa
open Go.RowKit Go.Shelf

theorem boxed_two (w : World) (x : Obj) : Boxed ((w.alloc x).alloc (.cells #[.int .i64 0, .slice none 0 0, .slice none 0 0] 26)) (w.heap.size + 1) (.int .i64 0) (.slice none 0 0) (.slice none 0 0) := by
  have := Boxed.new (w.alloc x) (.int .i64 0) (.slice none 0 0) (.slice none 0 0)
  rwa [World.size_alloc] at this
theorem getD_names (r : Nat) (nm : Nat → ByteArray) (j : Nat) (hj : j < r) : ((List.range r).map nm).getD j ByteArray.empty = nm j := by
  simp [List.getD, hj]
theorem index_yes (S : Nat → Prop) (W : World) (b : Option Addr) (r d : Nat) (nm : Nat → ByteArray) (h : NamesAt S W b r nm) (hr : r ≤ 8796093021952) (s : ByteArray) (j : Nat) (hj : j < r) (e : nm j = s) (hno : ∀ i, i < j → nm i ≠ s) :
    Calls Try.prog 39 #[.slice b r d, .string s] W fun e w' => e = .returned (.int .i64 (j : Int)) ∧ w' = W := by
  obtain ⟨g, o, rfl, -, -, -⟩ := h 0 (by omega)
  have hz : ((List.range r).map nm).length = r := by simp
  have c := Try.slices_Index_string g o r d ((List.range r).map nm) s W (by rw [hz]; exact Nat.le_refl _) (by omega) (fun i hi => by
    rw [hz] at hi
    obtain ⟨g', o', e', -, c, -⟩ := h i hi
    injection e' with e'
    injection e' with e1 e2
    subst e1 e2
    rw [getD_names r nm i hi]
    exact c)
  rw [Lib.idxOfS_hit _ r j s hj (by rw [hz]; exact Nat.le_refl _) (by rw [getD_names r nm j hj]; exact e) (fun i hi => by rw [getD_names r nm i (by omega)]; exact hno i hi)] at c
  exact c
theorem index_no (S : Nat → Prop) (W : World) (b : Option Addr) (r d : Nat) (nm : Nat → ByteArray) (h : NamesAt S W b r nm) (hr : r ≤ 8796093021952) (s : ByteArray) (hno : ∀ i, i < r → nm i ≠ s) :
    Calls Try.prog 39 #[.slice b r d, .string s] W fun e w' => e = .returned (.int .i64 (-1)) ∧ w' = W := by
  rcases Nat.eq_zero_or_pos r with rfl | hp
  · have c := Try.slices_Index_string_empty b d s W
    have e := Lib.idxOfS_miss [] 0 s (fun j hj => absurd hj (Nat.not_lt_zero _))
    rw [show ([] : List ByteArray).take 0 = [] from rfl] at e
    rw [e] at c
    exact c
  · obtain ⟨g, o, rfl, -, -, -⟩ := h 0 hp
    have hz : ((List.range r).map nm).length = r := by simp
    have c := Try.slices_Index_string g o r d ((List.range r).map nm) s W (by rw [hz]; exact Nat.le_refl _) (by omega) (fun i hi => by
      rw [hz] at hi
      obtain ⟨g', o', e', -, c, -⟩ := h i hi
      injection e' with e'
      injection e' with e1 e2
      subst e1 e2
      rw [getD_names r nm i hi]
      exact c)
    rw [Lib.idxOfS_miss _ r s (fun i hi => by rw [getD_names r nm i hi]; exact hno i hi)] at c
    exact c
set_option linter.unusedSimpArgs false in
set_option linter.unusedVariables false in
set_option maxRecDepth 100000 in
set_option maxHeartbeats 4000000 in
theorem entry_other (S : Nat → Prop) (w : World) (k : Int) (a : Option Addr) (n c : Nat) (b : Option Addr) (m d : Nat) (t : T) (h : Lies S w (TV k a n c b m d) t) (s : ByteArray) (hk : k ≠ 11) : Calls Try.prog 14 #[TV k a n c b m d, .string s] w (RetTO (New w) T.zero false w) := by
  have j1 : (k == 11) = false := by simp [hk]
  have j2 : (k != 11) = true := by simp [hk]
  clear h
  go_enter Try.func14, Try.ntmps14
  go_wp2
  refine bodyPost_ret (v := .tuple #[TV 0 none 0 0 none 0 0, .bool false]) (by simp [results, Try.results14, go_sem, *]) rfl ⟨0, none, 0, 0, none, 0, 0, rfl, lies_zero, ?_⟩
  (repeat' (first | (with_reducible assumption) | (with_reducible exact Below.refl _ _) | (with_reducible refine Below.drew ?_) | (with_reducible refine ballD1 ?_ _) | (with_reducible refine Below.set1 ?_ _ _ ?_ _) | (show _ ≤ _; (try simp only [World.size_alloc, World.size_drew]); omega)))
set_option linter.unusedSimpArgs false in
set_option linter.unusedVariables false in
set_option maxRecDepth 100000 in
set_option maxHeartbeats 4000000 in
theorem entry_no (S : Nat → Prop) (w : World) (a : Option Addr) (n c : Nat) (b : Option Addr) (m d : Nat) (t : T) (h : Lies S w (TV 11 a n c b m d) t) (s : ByteArray) (hno : ∀ i, i < min m n → t.nm i ≠ s) : Calls Try.prog 14 #[TV 11 a n c b m d, .string s] w (RetTO (New w) T.zero false w) := by
  have FW := h.few.1
  have EW := Lib.hid (fun X (l : Lies S X (TV 11 a n c b m d) t) => entries_walk 11 a n c b m d t S X l)
  have IX := Lib.hid (fun X (q : NamesAt S X b (min m n) t.nm) => index_no S X b (min m n) d t.nm q (by have := FW.2; omega) s hno)
  have HL := Lib.hid h
  have HN := Lib.hid (show NamesAt S w b (min m n) t.nm from fun i hi => h.names i (by omega))
  generalize min m n = r at *
  clear h FW hno
  go_enter Try.func14, Try.ntmps14
  go_wp2_with (first
    | (go_at_call 38; (with_reducible refine (EW.out _ (HL.out.on ?_)).mono ?_); (· (repeat' (first | (with_reducible assumption) | (with_reducible exact Below.refl _ _) | (with_reducible refine Below.drew ?_) | (with_reducible refine ballD1 ?_ _) | (with_reducible refine Below.set1 ?_ _ _ ?_ _) | (show _ ≤ _; (try simp only [World.size_alloc, World.size_drew]); omega)))); rintro e w1 ⟨rfl, hb1⟩; have bx := Boxed.below (boxed_two _ _) hb1; obtain ⟨e0, e1, e2⟩ := bx.cells; have f0 : w1.frozen? ⟨w.heap.size + 1, 0, none⟩ = false := Lib.frozen_of_heap bx 0; have f1 : w1.frozen? ⟨w.heap.size + 1, 1, none⟩ = false := Lib.frozen_of_heap bx 1; have f2 : w1.frozen? ⟨w.heap.size + 1, 2, none⟩ = false := Lib.frozen_of_heap bx 2; have s1 := hb1.size; (simp only [World.size_alloc] at s1))
    | (go_at_call 39; (with_reducible refine (IX.out _ (HN.out.on ?_)).mono ?_); (· (repeat' (first | (with_reducible assumption) | (with_reducible exact Below.refl _ _) | (with_reducible refine Below.drew ?_) | (with_reducible refine ballD1 ?_ _) | (with_reducible refine Below.set1 ?_ _ _ ?_ _) | (show _ ≤ _; (try simp only [World.size_alloc, World.size_drew]); omega) | (refine bstep ?_ hb1)))); rintro e w2 ⟨rfl, rfl⟩))
  have B1 := Lib.hid (bstep (((Below.refl w.heap.size w).alloc (Nat.le_refl _) _).alloc (by simp only [World.size_alloc]; omega) _) hb1)
  refine bodyPost_ret (v := .tuple #[TV 0 none 0 0 none 0 0, .bool false]) ?_ rfl ⟨0, none, 0, 0, none, 0, 0, rfl, lies_zero, ?_⟩
  · simp [results, Try.results14, go_sem, *]
  · (repeat' (first | (with_reducible assumption) | (with_reducible exact Below.refl _ _) | (with_reducible refine Below.drew ?_) | (with_reducible refine ballD1 ?_ _) | (with_reducible refine Below.set1 ?_ _ _ ?_ _) | (show _ ≤ _; (try simp only [World.size_alloc, World.size_drew]); omega) | (with_reducible exact B1.out)))
set_option linter.unusedSimpArgs false in
set_option linter.unusedVariables false in
set_option maxRecDepth 100000 in
set_option maxHeartbeats 4000000 in
theorem entry_yes (S : Nat → Prop) (w : World) (a : Option Addr) (n c : Nat) (b : Option Addr) (m d : Nat) (t : T) (h : Lies S w (TV 11 a n c b m d) t) (s : ByteArray) (j : Nat) (hj : j < min m n) (e : t.nm j = s) (hno : ∀ i, i < j → t.nm i ≠ s) : Calls Try.prog 14 #[TV 11 a n c b m d, .string s] w (RetTO (New w) (t.it j) true w) := by
  have FW := h.few.1
  have EW := Lib.hid (fun X (l : Lies S X (TV 11 a n c b m d) t) => entries_walk 11 a n c b m d t S X l)
  have IX := Lib.hid (fun X (q : NamesAt S X b (min m n) t.nm) => index_yes S X b (min m n) d t.nm q (by have := FW.2; omega) s j hj e hno)
  have HL := Lib.hid h
  have HN := Lib.hid (show NamesAt S w b (min m n) t.nm from fun i hi => h.names i (by omega))
  have HCC := Lib.hid h.few
  obtain ⟨g3, o3, rfl, k3, a3, n3, c3, b3, m3, d3, t0, t1, t2, tg, L3⟩ := h.item j (by omega)
  have H3 := Lib.hid L3
  have CO := Lib.hid (copied_any (t.it j))
  unfold CopiesFor at CO
  have NB : (n : Int) ≤ 9223372036854775806 := by have := FW.1; omega
  generalize hmn : min m n = r at *
  have hjj : (0 : Int) ≤ (j : Int) ∧ (j : Int) < (r : Int) := by omega
  have jn : ¬ ((j : Int) < 0) := by omega
  have HM := Lib.hid hmn
  clear h FW hno e L3 hmn
  go_enter Try.func14, Try.ntmps14
  go_wp2_with (first
    | (go_at_call 38; (with_reducible refine (EW.out _ (HL.out.on ?_)).mono ?_); (· (repeat' (first | (with_reducible assumption) | (with_reducible exact Below.refl _ _) | (with_reducible refine Below.drew ?_) | (with_reducible refine ballD1 ?_ _) | (with_reducible refine Below.set1 ?_ _ _ ?_ _) | (show _ ≤ _; (try simp only [World.size_alloc, World.size_drew]); omega)))); rintro e w1 ⟨rfl, hb1⟩; have bx := Boxed.below (boxed_two _ _) hb1; have s1 := hb1.size; (simp only [World.size_alloc] at s1); have B1 := Lib.hid (bstep (((Below.refl w.heap.size w).alloc (Nat.le_refl _) _).alloc (by simp only [World.size_alloc]; omega) _) hb1); have v0 := cell_below t0 B1.out; have v1 := cell_below t1 B1.out; have v2 := cell_below t2 B1.out)
    | (go_at_call 39; (with_reducible refine (IX.out _ (HN.out.on ?_)).mono ?_); (· (repeat' (first | (with_reducible assumption) | (with_reducible exact Below.refl _ _) | (with_reducible refine Below.drew ?_) | (with_reducible refine ballD1 ?_ _) | (with_reducible refine Below.set1 ?_ _ _ ?_ _) | (show _ ≤ _; (try simp only [World.size_alloc, World.size_drew]); omega) | (refine bstep ?_ hb1)))); rintro e w2 ⟨rfl, rfl⟩)
    | (go_at_call 35; (with_reducible refine (CO.out _ _ _ _ _ _ _ _ _ (H3.out.on B1.out)).mono ?_); rintro e w3 ⟨k6, a6, n6, c6, b6, m6, d6, rfl, L6, hb3⟩; have bx3 := Boxed.below bx hb3; obtain ⟨e0, e1, e2⟩ := bx3.cells; have f0 : w3.frozen? ⟨w.heap.size + 1, 0, none⟩ = false := Lib.frozen_of_heap bx3 0; have f1 : w3.frozen? ⟨w.heap.size + 1, 1, none⟩ = false := Lib.frozen_of_heap bx3 1; have f2 : w3.frozen? ⟨w.heap.size + 1, 2, none⟩ = false := Lib.frozen_of_heap bx3 2))
  have L7 := Lies.frm (N := w.heap.size + 1 + 1) L6 (by omega)
  have B3 := bstep B1.out hb3
  refine bodyPost_ret (v := .tuple #[TV k6 a6 n6 c6 b6 m6 d6, .bool true]) (by simp [results, Try.results14, go_sem, *]) rfl ⟨k6, a6, n6, c6, b6, m6, d6, rfl, ?_, ?_⟩
  · refine Lies.wide (S := From (w.heap.size + 1 + 1)) ?_ (fun g _ s => by have s' : w.heap.size + 1 + 1 ≤ g := s; show w.heap.size ≤ g; omega)
    repeat' (first | (with_reducible exact L7) | (with_reducible refine Lies.set ?_ _ _ _ (not_from (by omega))))
  · (repeat' (first | (with_reducible assumption) | (with_reducible exact Below.refl _ _) | (with_reducible refine Below.drew ?_) | (with_reducible refine ballD1 ?_ _) | (with_reducible refine Below.set1 ?_ _ _ ?_ _) | (show _ ≤ _; (try simp only [World.size_alloc, World.size_drew]); omega) | (with_reducible exact B3)))
end Go.Proofs.Ytielmfchbgajnaa

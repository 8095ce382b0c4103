/-
  Small things of layer 16.
-/
import Derived.Test.YtfelcneedpndiaaDoorIlb
import Derived.Test.YtfelcneedpndiaaDoorIx
namespace Go.Proofs.YtfelcneedpndiaaDoor
open Go.RowKit Go.Lib
theorem rett_lit2 {L : List UInt8} {l : ByteArray} {w : World} {e : Ending} {w' : World} (hl : (⟨L.toArray⟩ : ByteArray) = l) (h : RetTx L w e w') : Ret (.string l) w e w' := by
  subst hl
  exact h
theorem cell_belowI {W w1 : World} {g o : Nat} {v : Value} (h : W.cell? ⟨g, o, none⟩ = some v) (hb : Below W.heap.size W w1) : w1.cell? ⟨g, o, none⟩ = some v := by
  have lt : g < W.heap.size := by
    rcases Nat.lt_or_ge g W.heap.size with x | x
    · exact x
    · unfold World.cell? at h
      simp only [Array.getElem?_eq_none x] at h
      cases h
  exact ((bcell hb).1 _ _ lt).trans h
theorem km6 {V w' : World} {g o kk h : Nat} {t : Nat × List Nat × Nat} {X : List UInt8} {P a : Nat} (q : V.cell? ⟨g, o + kk * 3, none⟩ = some (.int .i64 (t.1 : Int)) ∧ V.cell? ⟨g, o + kk * 3 + 1, none⟩ = some (.string ⟨X.toArray⟩) ∧ V.cell? ⟨g, o + kk * 3 + 2, none⟩ = some (.int .i64 (P : Int)) ∧ V.cell? ⟨h, kk * 3, none⟩ = some (.int .i64 (t.1 : Int)) ∧ V.cell? ⟨h, kk * 3 + 1, none⟩ = some (.string ⟨X.toArray⟩) ∧ V.cell? ⟨h, kk * 3 + 2, none⟩ = some (.int .i64 (a : Int))) (hb : Below V.heap.size V w') : w'.cell? ⟨g, o + kk * 3, none⟩ = some (.int .i64 (t.1 : Int)) ∧ w'.cell? ⟨g, o + kk * 3 + 1, none⟩ = some (.string ⟨X.toArray⟩) ∧ w'.cell? ⟨g, o + kk * 3 + 2, none⟩ = some (.int .i64 (P : Int)) ∧ w'.cell? ⟨h, kk * 3, none⟩ = some (.int .i64 (t.1 : Int)) ∧ w'.cell? ⟨h, kk * 3 + 1, none⟩ = some (.string ⟨X.toArray⟩) ∧ w'.cell? ⟨h, kk * 3 + 2, none⟩ = some (.int .i64 (a : Int)) ∧ Below V.heap.size V w' :=
  ⟨cell_belowI q.1 hb, cell_belowI q.2.1 hb, cell_belowI q.2.2.1 hb, cell_belowI q.2.2.2.1 hb, cell_belowI q.2.2.2.2.1 hb, cell_belowI q.2.2.2.2.2 hb, hb⟩
theorem tokCs_at (n : Nat) : ∀ (ts : List (Nat × List Nat × Nat)) (i : Nat) (t : Nat × List Nat × Nat), ts[i]? = some t → (tokCs n ts)[i * 3]? = some (.int .i64 (t.1 : Int)) ∧ (tokCs n ts)[i * 3 + 1]? = some (.string ⟨(enc t.2.1).toArray⟩) ∧ (tokCs n ts)[i * 3 + 2]? = some (.int .i64 ((n - t.2.2 : Nat) : Int))
  | [], i, t, h => by simp at h
  | a :: r, 0, t, h => by
    obtain rfl : a = t := by simpa using h
    exact ⟨rfl, rfl, rfl⟩
  | a :: r, i + 1, t, h => by
    have ih := tokCs_at n r i t (by simpa using h)
    have e : tokCs n (a :: r) = tokC n a ++ tokCs n r := rfl
    have l : (tokC n a).length = 3 := rfl
    rw [e]
    refine ⟨?_, ?_, ?_⟩
    · rw [List.getElem?_append_right (by omega), l, show (i + 1) * 3 - 3 = i * 3 by omega]; exact ih.1
    · rw [List.getElem?_append_right (by omega), l, show (i + 1) * 3 + 1 - 3 = i * 3 + 1 by omega]; exact ih.2.1
    · rw [List.getElem?_append_right (by omega), l, show (i + 1) * 3 + 2 - 3 = i * 3 + 2 by omega]; exact ih.2.2
theorem chain_len {L : List Nat} : ∀ (ts : List (Nat × List Nat × Nat)) (t : Nat × List Nat × Nat), chain L (t :: ts) → ts.length ≤ t.2.2
  | [], t, _ => Nat.zero_le _
  | u :: r, t, h => by
    have ih := chain_len r u h.2.2.2.2.2
    have := h.1
    rw [List.length_cons]
    omega
theorem tok_len {L : List Nat} {ts : List (Nat × List Nat × Nat)} (h : tokS L = some ts) : ts.length ≤ L.length + 1 := by
  obtain ⟨c, t, r, rfl, le⟩ := tok_chain L _ L ts (Nat.le_refl _) (List.suffix_refl _) h
  have := chain_len r t c
  rw [List.length_cons]
  omega
theorem valS_ne {s : ByteArray} (h : validD s.data.toList = false) : (⟨(enc (rnS s)).toArray⟩ : ByteArray) ≠ s := by
  intro e
  have : validD s.data.toList = true := by
    rw [validD_iff]
    have q := congrArg (fun b : ByteArray => b.data.toList) e
    simpa [val, rnS] using q
  rw [h] at this
  cases this
theorem valS_same {s : ByteArray} (h : validD s.data.toList = true) : (⟨(enc (rnS s)).toArray⟩ : ByteArray) = s := by
  rw [validD_iff] at h
  apply ByteArray.ext
  apply Array.ext'
  simpa [val, rnS] using h
theorem strne2 {a b : ByteArray} (h : a ≠ b) : (a.toList == b.toList) = false := by
  rw [beq_eq_false_iff_ne]
  intro e
  rw [ByteArray.toList_eq, ByteArray.toList_eq] at e
  exact h (ByteArray.ext (Array.ext' e))
theorem RowN.capL {b : Nat} {W : World} {A : Option Addr} {n cap : Nat} {L : List Nat} (h : RowN b W (.slice A n cap) L) : n ≤ cap ∧ cap ≤ 9223372036854775807 := by
  rcases h.form with ⟨e, _⟩ | ⟨g, cap', e, h1, h2, _⟩
  · injection e with e1 e2 e3
    omega
  · injection e with e1 e2 e3
    unfold maxLen at h2
    omega
/-- The text of the first runes. -/
theorem text_pre (b : Nat) (A : Option Addr) (c : Nat) (L : List Nat) (a : Nat) (ha : a ≤ L.length) (hL : L.length ≤ 17592186044416) (w : World) (h : RowN b w (.slice A L.length c) L) : Calls Tryd.prog 18 #[.slice A a c] w (RetTx (enc (L.take a)) w) := by
  rcases Nat.eq_zero_or_pos L.length with z | z
  · obtain rfl : a = 0 := by omega
    exact text_part _ (L.take 0) w (by simp) ⟨A, c, by simp, fun k hk => by simp at hk⟩
  · obtain ⟨g, rfl, -⟩ := h.cell2 z
    have q := h.part 0 a c (Nat.zero_le _) ha
    rw [Nat.sub_zero, List.drop_zero] at q
    exact text_part _ _ w (by rw [List.length_take]; omega) q
end Go.Proofs.YtfelcneedpndiaaDoor

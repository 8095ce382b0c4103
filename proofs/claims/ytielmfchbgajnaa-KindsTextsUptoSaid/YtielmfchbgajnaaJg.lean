/-
  Types held against one another: contexts: what the loop over the names carries from round to round.
-/
import Derived.Test.YtielmfchbgajnaaJf
import Derived.Deep.AppendLies
import Derived.OwnWalk
namespace Go.Proofs.Ytielmfchbgajnaa
open Go.RowKit

theorem info26 : (Try.prog.info? 26).map (fun i => (i.zero, i.size, i.bytes)) = some (some (.agg #[.int .i64 0, .slice none 0 0, .slice none 0 0]), 3, 56) := by kernel_rfl
theorem info9 : (Try.prog.info? 9).map (fun i => (i.zero, i.size, i.bytes)) = some (some (.string ⟨#[]⟩), 1, 16) := by kernel_rfl

/-- The block that a slice lies in. -/
def blk (a : Option Addr) : Option Nat := a.map (·.block)
theorem own_blk (a : Option Addr) (n c : Nat) : (Value.slice a n c).ownBlock = blk a := by cases a <;> rfl
/-- A row of types' values leads to these types. -/
inductive Rows (S : Nat → Prop) (w : World) : List Value → List (ByteArray × T) → Prop
  | nil : Rows S w [] []
  | snoc {xs : List Value} {L : List (ByteArray × T)} {k : Int} {a : Option Addr} {n c : Nat} {b : Option Addr} {m d : Nat} {s : ByteArray} {t : T} (h : Rows S w xs L) (hl : Lies S w (TV k a n c b m d) t) : Rows S w (xs ++ [.int .i64 k, .slice a n c, .slice b m d]) (L ++ [(s, t)])
theorem Rows.len {S : Nat → Prop} {w : World} {xs : List Value} {L : List (ByteArray × T)} (h : Rows S w xs L) : xs.length = L.length * 3 := by
  induction h with
  | nil => rfl
  | snoc h hl ih => simp [ih]; omega
theorem Rows.map {S S' : Nat → Prop} {w w' : World} {xs : List Value} {L : List (ByteArray × T)} (h : Rows S w xs L) (f : ∀ v t, Lies S w v t → Lies S' w' v t) : Rows S' w' xs L := by
  induction h with
  | nil => exact .nil
  | snoc h hl ih => exact .snoc ih (f _ _ hl)
theorem Rows.get {S : Nat → Prop} {w : World} {xs : List Value} {L : List (ByteArray × T)} (h : Rows S w xs L) : ∀ i, i < L.length → ∃ (k : Int) (a : Option Addr) (n c : Nat) (b : Option Addr) (m d : Nat), xs[i * 3]? = some (.int .i64 k) ∧ xs[i * 3 + 1]? = some (.slice a n c) ∧ xs[i * 3 + 2]? = some (.slice b m d) ∧ Lies S w (TV k a n c b m d) (L.getD i (ByteArray.empty, .z)).2 := by
  induction h with
  | nil => intro i hi; exact absurd hi (Nat.not_lt_zero _)
  | @snoc xs L k a n c b m d s t h hl ih =>
    intro i hi
    have hlen := h.len
    rw [List.length_append, List.length_singleton] at hi
    rcases Nat.lt_or_ge i L.length with q | q
    · obtain ⟨k1, a1, n1, c1, b1, m1, d1, e0, e1, e2, l⟩ := ih i q
      refine ⟨k1, a1, n1, c1, b1, m1, d1, ?_, ?_, ?_, ?_⟩
      · rw [List.getElem?_append_left (by omega)]; exact e0
      · rw [List.getElem?_append_left (by omega)]; exact e1
      · rw [List.getElem?_append_left (by omega)]; exact e2
      · rw [List.getD, List.getElem?_append_left q]; exact l
    · obtain rfl : i = L.length := by omega
      refine ⟨k, a, n, c, b, m, d, ?_, ?_, ?_, ?_⟩
      · rw [List.getElem?_append_right (by omega), hlen, Nat.sub_self]; rfl
      · rw [List.getElem?_append_right (by omega), hlen, show L.length * 3 + 1 - L.length * 3 = 1 by omega]; rfl
      · rw [List.getElem?_append_right (by omega), hlen, show L.length * 3 + 2 - L.length * 3 = 2 by omega]; rfl
      · rw [List.getD, List.getElem?_append_right (Nat.le_refl _), Nat.sub_self]; exact hl
/-- A context made of such rows leads to its type. -/
theorem ctx_lies {S : Nat → Prop} {w : World} {base : Nat} {ai : Option Addr} {ci : Nat} {bi : Option Addr} {di : Nat} {xs : List Value} {L : List (ByteArray × T)}
    (hi : w.ownsRow base 26 3 (.slice ai L.length ci) L.length xs) (hn : w.ownsRow base 9 1 (.slice bi L.length di) L.length (L.map fun p => .string p.1))
    (hr : Rows S w xs L) (hs : ∀ p ∈ L, Short p.1) (hf : Few L.length L.length) (sa : ∀ g, blk ai = some g → S g) (sb : ∀ g, blk bi = some g → S g) :
    Lies S w (TV 11 ai L.length ci bi L.length di) (ctxT L) := by
  have cA : ∀ i, i < L.length → ∃ g, ai = some ⟨g, 0, none⟩ := fun i h => by
    obtain ⟨g, cap, e, _⟩ := hi.form (by omega)
    exact ⟨g, by injection e⟩
  have cB : ∀ i, i < L.length → ∃ g, bi = some ⟨g, 0, none⟩ := fun i h => by
    obtain ⟨g, cap, e, _⟩ := hn.form (by omega)
    exact ⟨g, by injection e⟩
  have fA : (L.length ≤ ci ∧ ci ≤ maxLen) ∧ (ai = none → ci = 0) := by
    rcases hi.2 with ⟨e, z⟩ | ⟨g, cap, cur, e, _, _, q1, q2, _⟩
    · injection e with e1 e2 e3
      subst e3
      exact ⟨⟨by omega, Nat.zero_le _⟩, fun _ => rfl⟩
    · injection e with e1 e2 e3
      subst e3
      exact ⟨⟨q1, q2⟩, fun z => by rw [e1] at z; cases z⟩
  have fB : (L.length ≤ di ∧ di ≤ maxLen) ∧ (bi = none → di = 0) := by
    rcases hn.2 with ⟨e, z⟩ | ⟨g, cap, cur, e, _, _, q1, q2, _⟩
    · injection e with e1 e2 e3
      subst e3
      exact ⟨⟨by omega, Nat.zero_le _⟩, fun _ => rfl⟩
    · injection e with e1 e2 e3
      subst e3
      exact ⟨⟨q1, q2⟩, fun z => by rw [e1] at z; cases z⟩
  have hget := fun (i : Nat) (h : i < L.length) => hr.get i h
  have hch : ∃ V : Nat → Value, ∀ i, i < L.length → ∃ (k : Int) (a : Option Addr) (n c : Nat) (b : Option Addr) (m d : Nat), V i = TV k a n c b m d ∧ xs[i * 3]? = some (.int .i64 k) ∧ xs[i * 3 + 1]? = some (.slice a n c) ∧ xs[i * 3 + 2]? = some (.slice b m d) ∧ Lies S w (V i) (L.getD i (ByteArray.empty, .z)).2 := by
    haveI : Inhabited Value := ⟨.bool false⟩
    refine Go.Deep.choose_lt (p := fun i v => ∃ (k : Int) (a : Option Addr) (n c : Nat) (b : Option Addr) (m d : Nat), v = TV k a n c b m d ∧ xs[i * 3]? = some (.int .i64 k) ∧ xs[i * 3 + 1]? = some (.slice a n c) ∧ xs[i * 3 + 2]? = some (.slice b m d) ∧ Lies S w v (L.getD i (ByteArray.empty, .z)).2) (fun i h => ?_)
    obtain ⟨k, a, n, c, b, m, d, e0, e1, e2, l⟩ := hget i h
    exact ⟨_, k, a, n, c, b, m, d, rfl, e0, e1, e2, l⟩
  obtain ⟨V, hV⟩ := hch
  refine .mk ai ci bi di V ⟨by decide, by decide⟩ hf fA.1 fB.1 fA.2 fB.2 (fun i h => ?_) (fun i h => ?_) (fun i h => ?_)
  · obtain ⟨g, rfl⟩ := cA i h
    obtain ⟨k, a, n, c, b, m, d, e, e0, e1, e2, l⟩ := hV i h
    have hx := hi.cellAt
    refine ⟨g, 0, rfl, sa g rfl, k, a, n, c, b, m, d, e, ?_, ?_, ?_⟩
    · rw [Nat.zero_add, hi.cellAt _ (by omega)]; exact e0
    · rw [Nat.zero_add, hi.cellAt _ (by omega)]; exact e1
    · rw [Nat.zero_add, hi.cellAt _ (by omega)]; exact e2
  · obtain ⟨k, a, n, c, b, m, d, e, e0, e1, e2, l⟩ := hV i h
    exact l
  · obtain ⟨g, rfl⟩ := cB i h
    refine ⟨g, 0, rfl, sb g rfl, ?_, ?_⟩
    · rw [Nat.zero_add, hn.cellAt _ (by omega)]
      simp [List.getD, List.getElem?_eq_getElem h]
    · refine hs _ ?_
      simp [List.getD, List.getElem?_eq_getElem h]
end Go.Proofs.Ytielmfchbgajnaa

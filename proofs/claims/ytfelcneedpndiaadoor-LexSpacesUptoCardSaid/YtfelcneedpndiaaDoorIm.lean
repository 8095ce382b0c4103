/-
  The document's answer of layer 16: one, as a contract of its call.
-/
import Derived.Test.YtfelcneedpndiaaDoorIj
import Derived.Test.YtfelcneedpndiaaDoorIk
import Derived.Test.YtfelcneedpndiaaDoorIl
import Derived.Deep.DeepCutAuto
namespace Go.Proofs.YtfelcneedpndiaaDoor
open Go.RowKit Go.Lib

/-- A token as it lies in a block -/
abbrev Tk (c : Int) (s : ByteArray) (q : Int) : Value := .agg #[.int .i64 c, .string s, .int .i64 q]
def HoldsTk (W : World) (g : Nat) (c : Int) (s : ByteArray) (q : Int) : Prop := (W.cell? ⟨g, 0, none⟩ = some (.int .i64 c) ∧ W.cell? ⟨g, 1, none⟩ = some (.string s) ∧ W.cell? ⟨g, 2, none⟩ = some (.int .i64 q)) ∧ (W.frozen? ⟨g, 0, none⟩ = false ∧ W.frozen? ⟨g, 1, none⟩ = false ∧ W.frozen? ⟨g, 2, none⟩ = false) ∧ g < W.heap.size
theorem HoldsTk.below {W W' : World} {g : Nat} {c : Int} {s : ByteArray} {q : Int} (H : HoldsTk W g c s q) (hb : Below W.heap.size W W') : HoldsTk W' g c s q := by
  obtain ⟨⟨a0, a1, a2⟩, ⟨b0, b1, b2⟩, k⟩ := H
  obtain ⟨hc, hf⟩ := bcell hb
  exact ⟨⟨(hc _ _ k).trans a0, (hc _ _ k).trans a1, (hc _ _ k).trans a2⟩, ⟨(hf _ _ k).trans b0, (hf _ _ k).trans b1, (hf _ _ k).trans b2⟩, Nat.lt_of_lt_of_le k hb.size⟩
theorem HoldsTk.alloc {W : World} {g : Nat} {c : Int} {s : ByteArray} {q : Int} (H : HoldsTk W g c s q) (x : Obj) : HoldsTk (W.alloc x) g c s q := H.below ((Below.refl _ _).alloc (Nat.le_refl _) x)
theorem HoldsTk.drew {W : World} {g : Nat} {c : Int} {s : ByteArray} {q : Int} (H : HoldsTk W g c s q) : HoldsTk W.drew g c s q := H
theorem HoldsTk.new {W : World} {g t : Nat} {c : Int} {s : ByteArray} {q : Int} (hg : g = W.heap.size) : HoldsTk (W.alloc (.cells #[.int .i64 c, .string s, .int .i64 q] t)) g c s q := by
  subst hg
  simp [HoldsTk, go_sem]
theorem HoldsTk.far {W : World} {g : Nat} {c : Int} {s : ByteArray} {q : Int} (H : HoldsTk W g c s q) {p : Addr} (hp : g ≠ p.block) (u : Value) : HoldsTk (W.setCell p u) g c s q := by
  obtain ⟨⟨a0, a1, a2⟩, ⟨b0, b1, b2⟩, k⟩ := H
  have n := Below.heap_setCell W p u g hp
  exact ⟨⟨(World.cell?_of_block (a := ⟨g, 0, none⟩) n).trans a0, (World.cell?_of_block (a := ⟨g, 1, none⟩) n).trans a1, (World.cell?_of_block (a := ⟨g, 2, none⟩) n).trans a2⟩, ⟨(World.frozen?_of_block (a := ⟨g, 0, none⟩) n).trans b0, (World.frozen?_of_block (a := ⟨g, 1, none⟩) n).trans b1, (World.frozen?_of_block (a := ⟨g, 2, none⟩) n).trans b2⟩, by simpa using k⟩
theorem HoldsTk.put {W : World} {g : Nat} {c : Int} {s : ByteArray} {p c' : Int} {s' : ByteArray} {p' : Int} (H : HoldsTk W g c s p) : HoldsTk (((W.setCell ⟨g, 0, none⟩ (.int .i64 c')).setCell ⟨g, 1, none⟩ (.string s')).setCell ⟨g, 2, none⟩ (.int .i64 p')) g c' s' p' := by
  obtain ⟨⟨a, b, c⟩, ⟨a', b', c'⟩, s⟩ := H
  simp [HoldsTk, go_sem, *]
theorem BI3 {w W : World} {g : Nat} (B : Below w.heap.size w W) (hg : w.heap.size ≤ g) (x y z : Value) : Below w.heap.size w (((W.setCell ⟨g, 0, none⟩ x).setCell ⟨g, 1, none⟩ y).setCell ⟨g, 2, none⟩ z) := ((B.setCell hg _).setCell hg _).setCell hg _
theorem dw_le (p : Nat → Bool) : ∀ S : List Nat, (S.dropWhile p).length ≤ S.length
  | [] => by simp
  | c :: t => by
    rw [List.dropWhile_cons]
    split
    · have := dw_le p t; rw [List.length_cons]; omega
    · simp
theorem digS_le (S : List Nat) : (digS S).length ≤ S.length := dw_le _ S
theorem xpS_le (b : List Nat) : (xpS b).length ≤ b.length := by
  unfold xpS
  by_cases h : hd b = 69
  · rw [if_pos h]
    have he : (if hd (b.drop 1) = 43 ∨ hd (b.drop 1) = 45 then b.drop 2 else b.drop 1).length ≤ b.length := by split <;> simp
    dsimp only
    generalize (if hd (b.drop 1) = 43 ∨ hd (b.drop 1) = 45 then b.drop 2 else b.drop 1) = e at *
    split
    · exact Nat.le_trans (digS_le e) he
    · exact Nat.le_refl _
  · rw [if_neg h]
    exact Nat.le_refl _
theorem numS_lt {S : List Nat} (h : digR (hd S) = true ∨ (hd S = 46 ∧ digR (hd (S.drop 1)) = true)) : (numS S).length < S.length := by
  rcases S with _ | ⟨c, t⟩
  · exfalso
    rcases h with h | h
    · simp [hd, digR] at h
    · simp [hd] at h
  rw [numS_xp]
  refine Nat.lt_of_le_of_lt (xpS_le _) ?_
  by_cases hc : digR c = true
  · have e : digS (c :: t) = digS t := by rw [digS_cons, if_pos hc]
    have a := digS_le t
    rw [e, List.length_cons]
    split
    · have b := digS_le ((digS t).drop 1)
      rw [List.length_drop] at b
      omega
    · omega
  · have e : digS (c :: t) = c :: t := by rw [digS_cons, if_neg hc]
    rcases h with h | ⟨h1, h2⟩
    · exact absurd h hc
    · rw [e, if_pos ⟨h1, h2⟩]
      have b := digS_le ((c :: t).drop 1)
      simp at b ⊢
      omega
theorem take_dw (p : Nat → Bool) (L : List Nat) (k e : Nat) (hk : k ≤ e) (he : e ≤ L.length) (h : L.drop e = (L.drop k).dropWhile p) : (L.drop k).takeWhile p = (L.drop k).take (e - k) := by
  have a := List.takeWhile_append_dropWhile (p := p) (l := L.drop k)
  have l1 := congrArg List.length a
  rw [List.length_append, ← h, List.length_drop, List.length_drop] at l1
  conv => rhs; rw [← a]
  rw [List.take_append_of_le_length (by omega), List.take_of_length_le (by omega)]
/-- What one answers. -/
def RetOne (L : List Nat) (q : Option (Nat × List Nat × List Nat)) (k : Nat) (w : World) (e : Ending) (w' : World) : Prop :=
  ∃ (c : Int) (s : ByteArray) (j : Nat) (ok : Bool), e = .returned (.tuple #[Tk c s (k : Int), .int .i64 (j : Int), .bool ok]) ∧ Below w.heap.size w w' ∧ s.size ≤ 140737488355328 ∧
    (match q with | none => ok = false | some (d, T, R) => ok = true ∧ c = (d : Int) ∧ s = ⟨(enc T).toArray⟩ ∧ k < j ∧ j ≤ L.length ∧ L.drop j = R)
theorem oneS_letter {S : List Nat} (h : letR (hd S) = true) : oneS S = some (1, S.takeWhile wordR, S.dropWhile wordR) := by unfold oneS; rw [if_pos h]
theorem enc_take_size (L : List Nat) (a e : Nat) (hL : L.length ≤ 17592186044416) : (enc ((L.drop a).take (e - a))).length ≤ 70368744177664 := by
  have h := (enc_length_le ((L.drop a).take (e - a))).2
  have : ((L.drop a).take (e - a)).length ≤ L.length := by rw [List.length_take, List.length_drop]; omega
  omega
end Go.Proofs.YtfelcneedpndiaaDoor

/-
  Types held against one another: contexts: the two rows that the loop makes, and how they grow.
-/
import Derived.Test.YtielmfchbgajnaaJg
namespace Go.Proofs.Ytielmfchbgajnaa
open Go.RowKit

theorem ownsRow_below {w w' : World} {base e size : Nat} {v : Value} {n : Nat} {xs : List Value} (h : w.ownsRow base e size v n xs) (hb : Below w.heap.size w w') : w'.ownsRow base e size v n xs := by
  refine ⟨h.1, ?_⟩
  rcases h.2 with q | ⟨g, cap, cur, e1, e2, e3, r⟩
  · exact .inl q
  · exact .inr ⟨g, cap, cur, e1, e2, (hb.block g (Array.getElem?_eq_some_iff.1 e3).1).trans e3, r⟩
theorem ownsRow_set {w : World} {base e size : Nat} {v : Value} {n : Nat} {xs : List Value} (h : w.ownsRow base e size v n xs) {C : Nat} (hC : C < base) (o : Nat) (u : Value) : (w.setCell ⟨C, o, none⟩ u).ownsRow base e size v n xs := by
  refine ⟨h.1, ?_⟩
  rcases h.2 with q | ⟨g, cap, cur, e1, e2, e3, r⟩
  · exact .inl q
  · exact .inr ⟨g, cap, cur, e1, e2, (RowKit.Below.heap_setCell _ _ _ _ (show g ≠ C by omega)).trans e3, r⟩
theorem grown_below {w w' : World} {row : Option Nat} {N : Nat} (h : w.grownBy w' row) (hN : N ≤ w.heap.size) (hr : ∀ g, row = some g → N ≤ g) : Below N w w' :=
  ⟨h.os, h.tape, h.output, h.size, fun i hi => h.block i (by omega) (fun e => by have := hr i e.symm; omega)⟩

/-- Where a join may lie: in none of the blocks that the loop writes. -/
def SJ (S : Nat → Prop) (C : Nat) (a b : Option Addr) : Nat → Prop := fun g => S g ∧ g ≠ C ∧ blk a ≠ some g ∧ blk b ≠ some g
/-- What the loop over the names has made. -/
structure Inv (S : Nat → Prop) (C : Nat) (V0 : World) (ai : Option Addr) (n ci : Nat) (xs : List Value) (bi : Option Addr) (m di : Nat) (ys : List Value) (L : List (ByteArray × T)) (V : World) : Prop where
  bc : Below C V0 V
  hc : C < V0.heap.size
  c0 : V.cell? ⟨C, 0, none⟩ = some (.int .i64 11)
  fz : ∀ i, V.frozen? ⟨C, i, none⟩ = false
  oi : V.ownsRow (C + 1) 26 3 (.slice ai n ci) n xs
  on : V.ownsRow (C + 1) 9 1 (.slice bi m di) m ys
  ap : ∀ g, blk ai = some g → blk bi ≠ some g
  rw : Rows (SJ S C ai bi) V xs L
section
variable {S : Nat → Prop} {C : Nat} {V0 : World} {ai : Option Addr} {n ci : Nat} {xs : List Value} {bi : Option Addr} {m di : Nat} {ys : List Value} {L : List (ByteArray × T)} {V : World}
theorem Inv.lt (h : Inv S C V0 ai n ci xs bi m di ys L V) : C < V.heap.size := Nat.lt_of_lt_of_le h.hc h.bc.size
theorem Inv.blkI (h : Inv S C V0 ai n ci xs bi m di ys L V) {g : Nat} (e : blk ai = some g) : C + 1 ≤ g ∧ g < V.heap.size := h.oi.lt g ((own_blk ai n ci).trans e)
theorem Inv.blkN (h : Inv S C V0 ai n ci xs bi m di ys L V) {g : Nat} (e : blk bi = some g) : C + 1 ≤ g ∧ g < V.heap.size := h.on.lt g ((own_blk bi m di).trans e)
theorem Inv.below {V' : World} (h : Inv S C V0 ai n ci xs bi m di ys L V) (hb : Below V.heap.size V V') : Inv S C V0 ai n ci xs bi m di ys L V' :=
  ⟨h.bc.trans (hb.mono (Nat.le_of_lt h.lt)), h.hc, cell_below h.c0 hb, fun i => (hb.frozen (p := ⟨C, i, none⟩) h.lt).trans (h.fz i), ownsRow_below h.oi hb, ownsRow_below h.on hb, h.ap, h.rw.map fun _ _ l => l.on hb⟩
theorem Inv.alloc (h : Inv S C V0 ai n ci xs bi m di ys L V) (o : Obj) : Inv S C V0 ai n ci xs bi m di ys L (V.alloc o) := h.below ((Below.refl _ _).alloc (Nat.le_refl _) o)
theorem Inv.drew (h : Inv S C V0 ai n ci xs bi m di ys L V) : Inv S C V0 ai n ci xs bi m di ys L V.drew := h.below (Below.refl _ _).drew
theorem Inv.setC (h : Inv S C V0 ai n ci xs bi m di ys L V) (o : Nat) (u : Value) : Inv S C V0 ai n ci xs bi m di ys L (V.setCell ⟨C, o + 1, none⟩ u) :=
  ⟨Below.setCell h.bc (Nat.le_refl _) _, h.hc, by have := h.c0; simp [go_sem, this], fun i => (World.frozen?_setCell _ _ _ _).trans (h.fz i), ownsRow_set h.oi (Nat.lt_succ_self C) _ _, ownsRow_set h.on (Nat.lt_succ_self C) _ _, h.ap, h.rw.map fun _ _ l => l.set C _ _ (fun s => s.2.1 rfl)⟩
/-- What lies aside of the rows, lies still when the names' row has grown. -/
theorem Inv.farN (_h : Inv S C V0 ai n ci xs bi m di ys L V) {V' : World} {g : Nat} (hg : V.grownBy V' (Value.slice bi m di).ownBlock) (hat : (Value.slice bi m di).ownBlock = some g ∨ g = V.heap.size) {v : Value} {t : T} (l : Lies (SJ S C ai bi) V v t) : Lies (SJ S C ai (some ⟨g, 0, none⟩)) V' v t := by
  rw [own_blk] at hg hat
  have l' : Lies (fun i => SJ S C ai (some ⟨g, 0, none⟩) i ∧ blk bi ≠ some i) V v t := l.wide fun i hi s => ⟨⟨s.1, s.2.1, s.2.2.1, fun e => by
    have e' : g = i := by injection e
    rcases hat with q | q
    · exact s.2.2.2 (e' ▸ q)
    · omega⟩, s.2.2.2⟩
  exact (l'.turned fun i s hi => hg.block i hi (fun e => s.2 e.symm)).wide fun _ _ s => s.1
theorem Inv.farI (_h : Inv S C V0 ai n ci xs bi m di ys L V) {V' : World} {g : Nat} (hg : V.grownBy V' (Value.slice ai n ci).ownBlock) (hat : (Value.slice ai n ci).ownBlock = some g ∨ g = V.heap.size) {v : Value} {t : T} (l : Lies (SJ S C ai bi) V v t) : Lies (SJ S C (some ⟨g, 0, none⟩) bi) V' v t := by
  rw [own_blk] at hg hat
  have l' : Lies (fun i => SJ S C (some ⟨g, 0, none⟩) bi i ∧ blk ai ≠ some i) V v t := l.wide fun i hi s => ⟨⟨s.1, s.2.1, fun e => by
    have e' : g = i := by injection e
    rcases hat with q | q
    · exact s.2.2.1 (e' ▸ q)
    · omega, s.2.2.2⟩, s.2.2.1⟩
  exact (l'.turned fun i s hi => hg.block i hi (fun e => s.2 e.symm)).wide fun _ _ s => s.1
/-- The names' row has grown. -/
theorem Inv.appN (h : Inv S C V0 ai n ci xs bi m di ys L V) {V' : World} {g cap m' : Nat} {ys' : List Value} (ho : V'.ownsRow (C + 1) 9 1 (.slice (some ⟨g, 0, none⟩) m' cap) m' ys') (hg : V.grownBy V' (Value.slice bi m di).ownBlock) (hat : (Value.slice bi m di).ownBlock = some g ∨ g = V.heap.size) :
    Inv S C V0 ai n ci xs (some ⟨g, 0, none⟩) m' cap ys' L V' := by
  have hr : ∀ i, (Value.slice bi m di).ownBlock = some i → C + 1 ≤ i := fun i e => (h.on.lt i e).1
  refine ⟨h.bc.trans (grown_below hg (Nat.le_of_lt h.lt) (fun i e => Nat.le_of_succ_le (hr i e))), h.hc, (hg.cell_far ⟨C, 0, none⟩ h.lt (fun e => by have := hr C e.symm; omega)).trans h.c0, fun i => (hg.frozen_far ⟨C, i, none⟩ h.lt (fun e => by have := hr C e.symm; omega)).trans (h.fz i), h.oi.kept hg ?_, ho, fun i e => ?_, h.rw.map fun _ _ l => h.farN hg hat l⟩
  · rw [own_blk, own_blk]
    rcases e : blk ai with _ | i
    · exact .inl rfl
    · exact .inr (fun q => h.ap i e q.symm)
  · intro q
    have q' : g = i := by injection q
    subst q'
    rw [own_blk] at hat
    rcases hat with r | r
    · exact h.ap g e r
    · have := (h.blkI e).2; omega
/-- The items' row has grown by a join. -/
theorem Inv.appI (h : Inv S C V0 ai n ci xs bi m di ys L V) {V' : World} {g cap n' : Nat} {k1 : Int} {a1 : Option Addr} {n1 c1 : Nat} {b1 : Option Addr} {m1 d1 : Nat} {s : ByteArray} {t : T} (ho : V'.ownsRow (C + 1) 26 3 (.slice (some ⟨g, 0, none⟩) n' cap) n' (xs ++ [.int .i64 k1, .slice a1 n1 c1, .slice b1 m1 d1])) (hg : V.grownBy V' (Value.slice ai n ci).ownBlock) (hat : (Value.slice ai n ci).ownBlock = some g ∨ g = V.heap.size)
    (l : Lies (SJ S C ai bi) V (TV k1 a1 n1 c1 b1 m1 d1) t) : Inv S C V0 (some ⟨g, 0, none⟩) n' cap (xs ++ [.int .i64 k1, .slice a1 n1 c1, .slice b1 m1 d1]) bi m di ys (L ++ [(s, t)]) V' := by
  have hr : ∀ i, (Value.slice ai n ci).ownBlock = some i → C + 1 ≤ i := fun i e => (h.oi.lt i e).1
  refine ⟨h.bc.trans (grown_below hg (Nat.le_of_lt h.lt) (fun i e => Nat.le_of_succ_le (hr i e))), h.hc, (hg.cell_far ⟨C, 0, none⟩ h.lt (fun e => by have := hr C e.symm; omega)).trans h.c0, fun i => (hg.frozen_far ⟨C, i, none⟩ h.lt (fun e => by have := hr C e.symm; omega)).trans (h.fz i), ho, h.on.kept hg ?_, fun i e q => ?_, .snoc (h.rw.map fun _ _ l => h.farI hg hat l) (h.farI hg hat l)⟩
  · rw [own_blk, own_blk]
    rcases e : blk bi with _ | i
    · exact .inl rfl
    · exact .inr (fun q => h.ap i q.symm e)
  · have q' : g = i := by injection e
    subst q'
    rw [own_blk] at hat
    rcases hat with r | r
    · exact h.ap g r q
    · have := (h.blkN q).2; omega
theorem Inv.join {w : World} {N : Nat} (h : Inv (Sx S w N) C V0 ai n ci xs bi m di ys L V) {W0 W : World} {v : Value} {t : T} (hw : w.heap.size ≤ C) (hV : V.heap.size ≤ W0.heap.size) (hN : N ≤ V.heap.size) (l : Lies (Sn (Sb S w) W0) W v t) : Lies (SJ (Sx S w N) C ai bi) W v t :=
  l.wide fun g _ s => by
    have hl := h.lt
    rcases s with s | s
    · have h2 := s.2
      exact ⟨.inl s, by omega, fun e => by have := (h.blkI e).1; omega, fun e => by have := (h.blkN e).1; omega⟩
    · exact ⟨.inr (by omega), by omega, fun e => by have := (h.blkI e).2; omega, fun e => by have := (h.blkN e).2; omega⟩
end
section
variable {w w' : World} {g0 g1 o0 o1 o2 o3 o4 : Nat} {v0 v1 v2 v3 v4 : Value}
theorem keep23 (h : w.cell? ⟨g0, o0, none⟩ = some v0 ∧ w.cell? ⟨g0, o1, none⟩ = some v1 ∧ w.cell? ⟨g1, o2, none⟩ = some v2 ∧ w.cell? ⟨g1, o3, none⟩ = some v3 ∧ w.cell? ⟨g1, o4, none⟩ = some v4) (hb : Below w.heap.size w w') : w'.cell? ⟨g0, o0, none⟩ = some v0 ∧ w'.cell? ⟨g0, o1, none⟩ = some v1 ∧ w'.cell? ⟨g1, o2, none⟩ = some v2 ∧ w'.cell? ⟨g1, o3, none⟩ = some v3 ∧ w'.cell? ⟨g1, o4, none⟩ = some v4 :=
  ⟨cell_below (h.1) hb, cell_below (h.2.1) hb, cell_below (h.2.2.1) hb, cell_below (h.2.2.2.1) hb, cell_below (h.2.2.2.2) hb⟩
theorem keep23d (h : w.cell? ⟨g0, o0, none⟩ = some v0 ∧ w.cell? ⟨g0, o1, none⟩ = some v1 ∧ w.cell? ⟨g1, o2, none⟩ = some v2 ∧ w.cell? ⟨g1, o3, none⟩ = some v3 ∧ w.cell? ⟨g1, o4, none⟩ = some v4) : w.drew.cell? ⟨g0, o0, none⟩ = some v0 ∧ w.drew.cell? ⟨g0, o1, none⟩ = some v1 ∧ w.drew.cell? ⟨g1, o2, none⟩ = some v2 ∧ w.drew.cell? ⟨g1, o3, none⟩ = some v3 ∧ w.drew.cell? ⟨g1, o4, none⟩ = some v4 := h
theorem keep23u (h : w.drew.cell? ⟨g0, o0, none⟩ = some v0 ∧ w.drew.cell? ⟨g0, o1, none⟩ = some v1 ∧ w.drew.cell? ⟨g1, o2, none⟩ = some v2 ∧ w.drew.cell? ⟨g1, o3, none⟩ = some v3 ∧ w.drew.cell? ⟨g1, o4, none⟩ = some v4) : w.cell? ⟨g0, o0, none⟩ = some v0 ∧ w.cell? ⟨g0, o1, none⟩ = some v1 ∧ w.cell? ⟨g1, o2, none⟩ = some v2 ∧ w.cell? ⟨g1, o3, none⟩ = some v3 ∧ w.cell? ⟨g1, o4, none⟩ = some v4 := h
theorem keep23a (h : w.cell? ⟨g0, o0, none⟩ = some v0 ∧ w.cell? ⟨g0, o1, none⟩ = some v1 ∧ w.cell? ⟨g1, o2, none⟩ = some v2 ∧ w.cell? ⟨g1, o3, none⟩ = some v3 ∧ w.cell? ⟨g1, o4, none⟩ = some v4) (o : Obj) : (w.alloc o).cell? ⟨g0, o0, none⟩ = some v0 ∧ (w.alloc o).cell? ⟨g0, o1, none⟩ = some v1 ∧ (w.alloc o).cell? ⟨g1, o2, none⟩ = some v2 ∧ (w.alloc o).cell? ⟨g1, o3, none⟩ = some v3 ∧ (w.alloc o).cell? ⟨g1, o4, none⟩ = some v4 := keep23 h ((Below.refl _ _).alloc (Nat.le_refl _) o)
theorem keep23n {x : Obj} (h : (w.alloc x).cell? ⟨g0, o0, none⟩ = some v0 ∧ (w.alloc x).cell? ⟨g0, o1, none⟩ = some v1 ∧ (w.alloc x).cell? ⟨g1, o2, none⟩ = some v2 ∧ (w.alloc x).cell? ⟨g1, o3, none⟩ = some v3 ∧ (w.alloc x).cell? ⟨g1, o4, none⟩ = some v4) (y : Obj) (n0 : g0 < w.heap.size) (n1 : g1 < w.heap.size) : (w.alloc y).cell? ⟨g0, o0, none⟩ = some v0 ∧ (w.alloc y).cell? ⟨g0, o1, none⟩ = some v1 ∧ (w.alloc y).cell? ⟨g1, o2, none⟩ = some v2 ∧ (w.alloc y).cell? ⟨g1, o3, none⟩ = some v3 ∧ (w.alloc y).cell? ⟨g1, o4, none⟩ = some v4 :=
  ⟨(cellN n0 y x).trans (h.1), (cellN n0 y x).trans (h.2.1), (cellN n1 y x).trans (h.2.2.1), (cellN n1 y x).trans (h.2.2.2.1), (cellN n1 y x).trans (h.2.2.2.2)⟩
theorem keep23s (h : w.cell? ⟨g0, o0, none⟩ = some v0 ∧ w.cell? ⟨g0, o1, none⟩ = some v1 ∧ w.cell? ⟨g1, o2, none⟩ = some v2 ∧ w.cell? ⟨g1, o3, none⟩ = some v3 ∧ w.cell? ⟨g1, o4, none⟩ = some v4) {g o : Nat} (n0 : g0 ≠ g) (n1 : g1 ≠ g) (v : Value) : (w.setCell ⟨g, o, none⟩ v).cell? ⟨g0, o0, none⟩ = some v0 ∧ (w.setCell ⟨g, o, none⟩ v).cell? ⟨g0, o1, none⟩ = some v1 ∧ (w.setCell ⟨g, o, none⟩ v).cell? ⟨g1, o2, none⟩ = some v2 ∧ (w.setCell ⟨g, o, none⟩ v).cell? ⟨g1, o3, none⟩ = some v3 ∧ (w.setCell ⟨g, o, none⟩ v).cell? ⟨g1, o4, none⟩ = some v4 :=
  ⟨(cellS n0 o v).trans (h.1), (cellS n0 o v).trans (h.2.1), (cellS n1 o v).trans (h.2.2.1), (cellS n1 o v).trans (h.2.2.2.1), (cellS n1 o v).trans (h.2.2.2.2)⟩
end
section
variable {w w' : World} {row : Option Nat} {g0 g1 o0 o1 o2 o3 o4 : Nat} {v0 v1 v2 v3 v4 : Value}
theorem keep23g (h : w.cell? ⟨g0, o0, none⟩ = some v0 ∧ w.cell? ⟨g0, o1, none⟩ = some v1 ∧ w.cell? ⟨g1, o2, none⟩ = some v2 ∧ w.cell? ⟨g1, o3, none⟩ = some v3 ∧ w.cell? ⟨g1, o4, none⟩ = some v4) (hg : w.grownBy w' row) (n0 : some g0 ≠ row) (n1 : some g1 ≠ row) : w'.cell? ⟨g0, o0, none⟩ = some v0 ∧ w'.cell? ⟨g0, o1, none⟩ = some v1 ∧ w'.cell? ⟨g1, o2, none⟩ = some v2 ∧ w'.cell? ⟨g1, o3, none⟩ = some v3 ∧ w'.cell? ⟨g1, o4, none⟩ = some v4 :=
  ⟨(hg.cell_far ⟨g0, o0, none⟩ (cell_lt (h.1)) n0).trans (h.1), (hg.cell_far ⟨g0, o1, none⟩ (cell_lt (h.2.1)) n0).trans (h.2.1), (hg.cell_far ⟨g1, o2, none⟩ (cell_lt (h.2.2.1)) n1).trans (h.2.2.1), (hg.cell_far ⟨g1, o3, none⟩ (cell_lt (h.2.2.2.1)) n1).trans (h.2.2.2.1), (hg.cell_far ⟨g1, o4, none⟩ (cell_lt (h.2.2.2.2)) n1).trans (h.2.2.2.2)⟩
end
theorem oc1 (s : ByteArray) : ∀ u ∈ [Value.string s], u.oneCell' = true := by
  intro u hu
  rw [List.mem_singleton.1 hu]
  rfl
theorem oc3 (k : Int) (a : Option Addr) (n c : Nat) (b : Option Addr) (m d : Nat) : ∀ u ∈ [Value.int .i64 k, .slice a n c, .slice b m d], u.oneCell' = true := by
  intro u hu
  simp only [List.mem_cons, List.not_mem_nil, or_false] at hu
  rcases hu with rfl | rfl | rfl <;> rfl
theorem news1 {W : World} {B : Nat} {v : Value} (h : W.cell? ⟨B, 0, none⟩ = some v) : ∀ j u, [v][j]? = some u → W.cell? ((⟨B, 0, none⟩ : Addr).add j) = some u := by
  intro j u hu
  match j, hu with
  | 0, hu => simp at hu; subst hu; exact h
theorem news3 {W : World} {B : Nat} {v0 v1 v2 : Value} (h0 : W.cell? ⟨B, 0, none⟩ = some v0) (h1 : W.cell? ⟨B, 1, none⟩ = some v1) (h2 : W.cell? ⟨B, 2, none⟩ = some v2) : ∀ j u, [v0, v1, v2][j]? = some u → W.cell? ((⟨B, 0, none⟩ : Addr).add j) = some u := by
  intro j u hu
  have hadd : (⟨B, 0, none⟩ : Addr).add j = ⟨B, j, none⟩ := by unfold Addr.add; split <;> simp_all
  rw [hadd]
  match j, hu with
  | 0, hu => simp at hu; subst hu; exact h0
  | 1, hu => simp at hu; subst hu; exact h1
  | 2, hu => simp at hu; subst hu; exact h2
end Go.Proofs.Ytielmfchbgajnaa

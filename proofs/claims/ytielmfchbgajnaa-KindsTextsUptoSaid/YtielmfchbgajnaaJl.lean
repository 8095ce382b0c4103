/-
  Types copied into new memory.
-/
import Derived.Test.YtielmfchbgajnaaJk
import Derived.Laws.MakeOwn
import Derived.Laws.OwnMore
namespace Go.Proofs.Ytielmfchbgajnaa
open Go.RowKit

/-- Types lie in a slice. -/
def ItemsAt (S : Nat → Prop) (w : World) (a : Option Addr) (n : Nat) (it : Nat → T) : Prop := ∀ i, i < n → ∃ g o, a = some ⟨g, o, none⟩ ∧ S g ∧ ∃ k1 a1 n1 c1 b1 m1 d1, Cell3 w g (o + i * 3) k1 a1 n1 c1 b1 m1 d1 ∧ Lies S w (TV k1 a1 n1 c1 b1 m1 d1) (it i)
/-- Names lie in a slice. -/
def NamesAt (S : Nat → Prop) (w : World) (b : Option Addr) (m : Nat) (nm : Nat → ByteArray) : Prop := ∀ i, i < m → ∃ g o, b = some ⟨g, o, none⟩ ∧ S g ∧ w.cell? ⟨g, o + i, none⟩ = some (.string (nm i)) ∧ Short (nm i)
theorem ItemsAt.on {S : Nat → Prop} {w w' : World} {a : Option Addr} {n : Nat} {it : Nat → T} (h : ItemsAt S w a n it) (hb : Below w.heap.size w w') : ItemsAt S w' a n it := fun i hi => by
  obtain ⟨g, o, e, s, k1, a1, n1, c1, b1, m1, d1, q, l⟩ := h i hi
  exact ⟨g, o, e, s, k1, a1, n1, c1, b1, m1, d1, q.below hb, l.on hb⟩
theorem NamesAt.on {S : Nat → Prop} {w w' : World} {b : Option Addr} {m : Nat} {nm : Nat → ByteArray} (h : NamesAt S w b m nm) (hb : Below w.heap.size w w') : NamesAt S w' b m nm := fun i hi => by
  obtain ⟨g, o, e, s, q, l⟩ := h i hi
  exact ⟨g, o, e, s, cell_below q hb, l⟩
theorem ItemsAt.wide {S S' : Nat → Prop} {w : World} {a : Option Addr} {n : Nat} {it : Nat → T} (h : ItemsAt S w a n it) (hs : ∀ g, g < w.heap.size → S g → S' g) : ItemsAt S' w a n it := fun i hi => by
  obtain ⟨g, o, e, s, k1, a1, n1, c1, b1, m1, d1, q, l⟩ := h i hi
  exact ⟨g, o, e, hs g q.lt s, k1, a1, n1, c1, b1, m1, d1, q, l.wide hs⟩
theorem NamesAt.wide {S S' : Nat → Prop} {w : World} {b : Option Addr} {m : Nat} {nm : Nat → ByteArray} (h : NamesAt S w b m nm) (hs : ∀ g, g < w.heap.size → S g → S' g) : NamesAt S' w b m nm := fun i hi => by
  obtain ⟨g, o, e, s, q, l⟩ := h i hi
  exact ⟨g, o, e, hs g (cell_lt q) s, q, l⟩
theorem ItemsAt.set {S : Nat → Prop} {w : World} {a : Option Addr} {n : Nat} {it : Nat → T} (h : ItemsAt S w a n it) (g o : Nat) (u : Value) (hg : ¬ S g) : ItemsAt S (w.setCell ⟨g, o, none⟩ u) a n it := fun i hi => by
  obtain ⟨g', o', e, s, k1, a1, n1, c1, b1, m1, d1, q, l⟩ := h i hi
  have ne : g' ≠ g := fun e => hg (e ▸ s)
  exact ⟨g', o', e, s, k1, a1, n1, c1, b1, m1, d1, ⟨(cellS ne o u).trans q.c0, (cellS ne o u).trans q.c1, (cellS ne o u).trans q.c2⟩, l.set g o u hg⟩
theorem NamesAt.set {S : Nat → Prop} {w : World} {b : Option Addr} {m : Nat} {nm : Nat → ByteArray} (h : NamesAt S w b m nm) (g o : Nat) (u : Value) (hg : ¬ S g) : NamesAt S (w.setCell ⟨g, o, none⟩ u) b m nm := fun i hi => by
  obtain ⟨g', o', e, s, q, l⟩ := h i hi
  have ne : g' ≠ g := fun e => hg (e ▸ s)
  exact ⟨g', o', e, s, (cellS ne o u).trans q, l⟩
/-- From a number of blocks on. -/
def From (N : Nat) : Nat → Prop := fun g => N ≤ g
theorem ItemsAt.frm {W w : World} {a : Option Addr} {n N : Nat} {it : Nat → T} (h : ItemsAt (New W) w a n it) (hN : N ≤ W.heap.size) : ItemsAt (From N) w a n it := h.wide fun _ _ s => Nat.le_trans hN s
theorem NamesAt.frm {W w : World} {b : Option Addr} {m N : Nat} {nm : Nat → ByteArray} (h : NamesAt (New W) w b m nm) (hN : N ≤ W.heap.size) : NamesAt (From N) w b m nm := h.wide fun _ _ s => Nat.le_trans hN s
theorem Lies.frm {W w : World} {v : Value} {t : T} {N : Nat} (h : Lies (New W) w v t) (hN : N ≤ W.heap.size) : Lies (From N) w v t := h.wide fun _ _ s => Nat.le_trans hN s
theorem not_from {N g : Nat} (h : g < N) : ¬ From N g := Nat.not_le.2 h
theorem Lies.items {S : Nat → Prop} {w : World} {k : Int} {a : Option Addr} {n c : Nat} {b : Option Addr} {m d : Nat} {t : T} (h : Lies S w (TV k a n c b m d) t) : ItemsAt S w a n t.it := by
  cases h with
  | mk a c b d V hk hf hc hd ha hb' hV hit hn =>
    intro i hi
    obtain ⟨g, o, e, s, k1, a1, n1, c1, b1, m1, d1, f, q⟩ := hV i hi
    have := hit i hi
    rw [f] at this
    exact ⟨g, o, e, s, k1, a1, n1, c1, b1, m1, d1, q, this⟩
theorem Lies.names {S : Nat → Prop} {w : World} {k : Int} {a : Option Addr} {n c : Nat} {b : Option Addr} {m d : Nat} {t : T} (h : Lies S w (TV k a n c b m d) t) : NamesAt S w b m t.nm := by
  cases h with
  | mk a c b d V hk hf hc hd ha hb' hV hit hn => exact hn
theorem lies_mk {S : Nat → Prop} {w : World} {k : Int} {a : Option Addr} {n c : Nat} {b : Option Addr} {m d : Nat} {it : Nat → T} {nm : Nat → ByteArray} (hk : I64 k) (hf : Few n m) (hc : n ≤ c ∧ c ≤ maxLen) (hd : m ≤ d ∧ d ≤ maxLen) (ha : a = none → c = 0) (hb : b = none → d = 0) (hi : ItemsAt S w a n it) (hn : NamesAt S w b m nm) : Lies S w (TV k a n c b m d) (.mk k n it m nm) := by
  haveI : Inhabited Value := ⟨.bool false⟩
  obtain ⟨V, hV⟩ := Go.Deep.choose_lt (n := n) (p := fun i v => ∃ g o, a = some ⟨g, o, none⟩ ∧ S g ∧ ∃ k1 a1 n1 c1 b1 m1 d1, v = TV k1 a1 n1 c1 b1 m1 d1 ∧ Cell3 w g (o + i * 3) k1 a1 n1 c1 b1 m1 d1 ∧ Lies S w v (it i)) (fun i h => by
    obtain ⟨g, o, e, s, k1, a1, n1, c1, b1, m1, d1, q, l⟩ := hi i h
    exact ⟨_, g, o, e, s, k1, a1, n1, c1, b1, m1, d1, rfl, q, l⟩)
  refine .mk a c b d V hk hf hc hd ha hb (fun i h => ?_) (fun i h => ?_) hn
  · obtain ⟨g, o, e, s, k1, a1, n1, c1, b1, m1, d1, f, q, l⟩ := hV i h
    exact ⟨g, o, e, s, k1, a1, n1, c1, b1, m1, d1, f, q⟩
  · obtain ⟨g, o, e, s, k1, a1, n1, c1, b1, m1, d1, f, q, l⟩ := hV i h
    exact l
/-- The first of a row's cells lead to these types. -/
def Part (S : Nat → Prop) (w : World) (xs : List Value) (kk : Nat) (it : Nat → T) : Prop := ∀ j, j < kk → ∃ (k : Int) (a : Option Addr) (n c : Nat) (b : Option Addr) (m d : Nat), xs[j * 3]? = some (.int .i64 k) ∧ xs[j * 3 + 1]? = some (.slice a n c) ∧ xs[j * 3 + 2]? = some (.slice b m d) ∧ Lies S w (TV k a n c b m d) (it j)
theorem Part.step {S : Nat → Prop} {w w' : World} {xs : List Value} {kk : Nat} {it : Nat → T} (h : Part S w xs kk it) (hx : kk * 3 + 2 < xs.length) (f : ∀ v t, Lies S w v t → Lies S w' v t) {k : Int} {a : Option Addr} {n c : Nat} {b : Option Addr} {m d : Nat} (l : Lies S w' (TV k a n c b m d) (it kk)) :
    Part S w' (((xs.set (kk * 3) (.int .i64 k)).set (kk * 3 + 1) (.slice a n c)).set (kk * 3 + 2) (.slice b m d)) (kk + 1) it := by
  intro j hj
  by_cases e : j = kk
  · subst e
    refine ⟨k, a, n, c, b, m, d, ?_, ?_, ?_, l⟩
    · rw [List.getElem?_set_ne (by omega), List.getElem?_set_ne (by omega), List.getElem?_set_self (by omega)]
    · rw [List.getElem?_set_ne (by omega), List.getElem?_set_self (by rw [List.length_set]; omega)]
    · rw [List.getElem?_set_self (by rw [List.length_set, List.length_set]; omega)]
  · obtain ⟨k1, a1, n1, c1, b1, m1, d1, e0, e1, e2, l1⟩ := h j (by omega)
    refine ⟨k1, a1, n1, c1, b1, m1, d1, ?_, ?_, ?_, f _ _ l1⟩
    · rw [List.getElem?_set_ne (by omega), List.getElem?_set_ne (by omega), List.getElem?_set_ne (by omega)]; exact e0
    · rw [List.getElem?_set_ne (by omega), List.getElem?_set_ne (by omega), List.getElem?_set_ne (by omega)]; exact e1
    · rw [List.getElem?_set_ne (by omega), List.getElem?_set_ne (by omega), List.getElem?_set_ne (by omega)]; exact e2
theorem Part.wide {S S' : Nat → Prop} {w : World} {xs : List Value} {kk : Nat} {it : Nat → T} (h : Part S w xs kk it) (hs : ∀ g, S g → S' g) : Part S' w xs kk it := fun j hj => by
  obtain ⟨k1, a1, n1, c1, b1, m1, d1, e0, e1, e2, l1⟩ := h j hj
  exact ⟨k1, a1, n1, c1, b1, m1, d1, e0, e1, e2, l1.wide fun g _ s => hs g s⟩
theorem Part.items {S : Nat → Prop} {w : World} {base n c : Nat} {g : Nat} {xs : List Value} {it : Nat → T} (h : Part S w xs n it) (ho : w.ownsRow base 26 3 (.slice (some ⟨g, 0, none⟩) n c) n xs) (sg : S g) : ItemsAt S w (some ⟨g, 0, none⟩) n it := by
  intro i hi
  obtain ⟨k1, a1, n1, c1, b1, m1, d1, e0, e1, e2, l1⟩ := h i hi
  refine ⟨g, 0, rfl, sg, k1, a1, n1, c1, b1, m1, d1, ⟨?_, ?_, ?_⟩, l1⟩
  · rw [Nat.zero_add, ho.cellAt _ (by omega)]; exact e0
  · rw [Nat.zero_add, ho.cellAt _ (by omega)]; exact e1
  · rw [Nat.zero_add, ho.cellAt _ (by omega)]; exact e2
/-- copied comes to the same type, in new memory. -/
def CopiesFor (t : T) : Prop := ∀ (S : Nat → Prop) (w : World) (k : Int) (a : Option Addr) (n c : Nat) (b : Option Addr) (m d : Nat), Lies S w (TV k a n c b m d) t → Calls Try.prog 35 #[TV k a n c b m d] w (RetT (New w) t w)
set_option linter.unusedSimpArgs false in
set_option linter.unusedVariables false in
set_option maxRecDepth 100000 in
set_option maxHeartbeats 2000000 in
theorem copiedAll_none (a : Option Addr) (c : Nat) (w : World) : Calls Try.prog 53 #[.slice a 0 c] w (Ret (.slice none 0 0) w) := by
  go_enter Try.func53, Try.ntmps53
  go_wp2
  go_ret
  exact ⟨rfl, by go_grown⟩
set_option linter.unusedSimpArgs false in
set_option linter.unusedVariables false in
set_option maxRecDepth 100000 in
set_option maxHeartbeats 4000000 in
theorem copiedAll_some (S : Nat → Prop) (w : World) (a : Option Addr) (n c : Nat) (it : Nat → T) (hn : 0 < n) (hf : n ≤ 2513169434843) (h : ItemsAt S w a n it) (ih : ∀ i, i < n → CopiesFor (it i)) :
    Calls Try.prog 53 #[.slice a n c] w fun e w' => e = .returned (.slice (some ⟨w.heap.size, 0, none⟩) n n) ∧ ItemsAt (New w) w' (some ⟨w.heap.size, 0, none⟩) n it ∧ Below w.heap.size w w' := by
  obtain ⟨i26, hi26, hz26, hs26, hb26⟩ := info_parts info26
  have mk := fun W : World => run_make (P := Try.prog) W 23 26 i26 _ Try.underlying23 hi26 hz26 .i64 .i64 (n : Int) (n : Int) (by omega) (Int.le_refl _) (by rw [hb26]; omega) (by omega)
  rw [hs26, Int.toNat_natCast] at mk
  have HI := Lib.hid h
  have HC := Lib.hid ih
  have HF := Lib.hid hf
  have hz : ((n : Int) == 0) = false := by simp; omega
  have NB : (n : Int) ≤ 9223372036854775806 := by omega
  clear h ih hf hi26 hz26 hs26 hb26
  go_enter Try.func53, Try.ntmps53
  go_wp2
  go_loopg [14] n (fun gg i wr => ∃ (kk : Nat) (xs : List Value), kk ≤ n ∧ n - kk ≤ gg ∧ i = .int .i64 (kk : Int) ∧ Hid (wr.ownsRow w.heap.size 26 3 (.slice (some ⟨w.heap.size, 0, none⟩) n n) n xs) ∧ Hid (Part (fun g => w.heap.size + 1 ≤ g) wr xs kk it) ∧ Hid (Below w.heap.size w wr))
  case atStart =>
    refine ⟨0, _, Nat.zero_le _, Nat.le_refl _, rfl, Lib.hid (World.ownsRow_lit (base := w.heap.size) (size := 3) w _ n (Nat.le_refl _) (by have := HF.out; unfold maxLen; omega) (size_madeCells _ _)), Lib.hid (fun j hj => absurd hj (Nat.not_lt_zero _)), Lib.hid ((Below.refl _ _).alloc (Nat.le_refl _) _)⟩
  case round =>
    obtain ⟨kk, xs, hkk, hg, rfl, OW, PT, HB⟩ := hrel
    by_cases hlt : kk < n
    · obtain ⟨g3, o3, rfl, -, k3, a3, n3, c3, b3, m3, d3, ⟨t0, t1, t2⟩, L3⟩ := HI.out.on HB.out kk hlt
      have tg := cell_lt t0
      have hlti : (0 : Int) ≤ (kk : Int) ∧ (kk : Int) < (n : Int) := by omega
      have xl := OW.out.1
      have f0 := OW.out.frozenAt (kk * 3)
      have f1 := OW.out.frozenAt (kk * 3 + 1)
      have f2 := OW.out.frozenAt (kk * 3 + 2)
      obtain ⟨u0, e0⟩ : ∃ u, wr.cell? ⟨w.heap.size, kk * 3, none⟩ = some u := ⟨_, (OW.out.cellAt _ (by omega)).trans (List.getElem?_eq_getElem (by omega))⟩
      obtain ⟨u1, e1⟩ : ∃ u, wr.cell? ⟨w.heap.size, kk * 3 + 1, none⟩ = some u := ⟨_, (OW.out.cellAt _ (by omega)).trans (List.getElem?_eq_getElem (by omega))⟩
      obtain ⟨u2, e2⟩ : ∃ u, wr.cell? ⟨w.heap.size, kk * 3 + 2, none⟩ = some u := ⟨_, (OW.out.cellAt _ (by omega)).trans (List.getElem?_eq_getElem (by omega))⟩
      have gw := cell_lt e0
      have CP := Lib.hid (show ∀ W, Below wr.heap.size wr W → Calls Try.prog 35 #[TV k3 a3 n3 c3 b3 m3 d3] W (RetT (New W) (it kk) W) from fun W hb => HC.out kk hlt S W k3 a3 n3 c3 b3 m3 d3 (L3.on hb))
      have XL := Lib.hid (show kk * 3 + 2 < xs.length from by omega)
      clear L3 xl
      go_wp2_with (go_at_call 35; (with_reducible refine (CP.out _ ?_).mono ?_); (· (repeat' (first | (with_reducible assumption) | (with_reducible exact Below.refl _ _) | (with_reducible refine Below.drew ?_) | (with_reducible refine ballD1 ?_ _) | (with_reducible refine Below.set1 ?_ _ _ ?_ _) | (show _ ≤ _; (try simp only [World.size_alloc, World.size_drew]); omega)))); rintro e w5 ⟨k5, a5, n5, c5, b5, m5, d5, rfl, L5, hb5⟩; have sz5 := hb5.size; (try simp only [World.size_alloc, World.size_drew] at sz5); obtain ⟨hc5, hf5⟩ := bcell (hb5); have z5_0 : w.heap.size < w5.heap.size := (by omega))
      have OW5 := Lib.hid ((((ownsRow_below OW.out (ballD1 (Below.refl _ _) (.cells #[.int .i64 k3, .slice a3 n3 c3, .slice b3 m3 d3] 26))) |> fun q => ownsRow_below q hb5).stored (kk * 3) (.int .i64 k5)).1.stored (kk * 3 + 1) (.slice a5 n5 c5) |>.1.stored (kk * 3 + 2) (.slice b5 m5 d5) |>.1)
      have B5 := Lib.hid (show Below w.heap.size w w5 from by
        have HBo := HB.out
        (repeat' (first | (with_reducible assumption) | (with_reducible exact Below.refl _ _) | (with_reducible refine Below.drew ?_) | (with_reducible refine ballD1 ?_ _) | (with_reducible refine Below.set1 ?_ _ _ ?_ _) | (show _ ≤ _; (try simp only [World.size_alloc, World.size_drew]); omega) | (refine bstep ?_ hb5) | (refine bstep ?_ HBo))))
      have PT5 := Lib.hid (PT.out.step (w' := (((w5.setCell ⟨w.heap.size, kk * 3, none⟩ (.int .i64 k5)).setCell ⟨w.heap.size, kk * 3 + 1, none⟩ (.slice a5 n5 c5)).setCell ⟨w.heap.size, kk * 3 + 2, none⟩ (.slice b5 m5 d5))) XL.out
        (fun v t l => (((Lies.on (l.alloc _) hb5).set _ _ _ (by omega)).set _ _ _ (by omega)).set _ _ _ (by omega))
        ((((L5.wide (S' := fun g => w.heap.size + 1 ≤ g) (fun g _ s => by have s' : (wr.alloc _).heap.size ≤ g := s; rw [World.size_alloc] at s'; omega)).set _ _ _ (by omega)).set _ _ _ (by omega)).set _ _ _ (by omega)))
      clear hc5 hf5 e0 e1 e2 f0 f1 f2 t0 t1 t2 OW PT HB CP L5 hb5
      go_roundg (n - (kk + 1))
      case measure => omega
      case rel =>
        refine ⟨kk + 1, _, by omega, Nat.le_refl _, by go_num, OW5, PT5, Lib.hid ?_⟩
        have B := B5.out
        (repeat' (first | (with_reducible assumption) | (with_reducible exact Below.refl _ _) | (with_reducible refine Below.drew ?_) | (with_reducible refine ballD1 ?_ _) | (with_reducible refine Below.set1 ?_ _ _ ?_ _) | (show _ ≤ _; (try simp only [World.size_alloc, World.size_drew]); omega) | (refine bstep ?_ B)))
    · have : kk = n := by omega
      subst this
      go_wp2
      go_ret
      refine ⟨rfl, (PT.out.wide (S' := New w) (fun g s => Nat.le_of_succ_le s)).items OW.out (Nat.le_refl _), HB.out⟩
end Go.Proofs.Ytielmfchbgajnaa

/-
  Types, as they lie in memory (layer 13): T, a type told plainly; Lies, a value that leads to one.
-/
import Derived.Test.YtielmfchbgajnaaC0
import Derived.Maps.OwnSet
import Derived.Maps.Views
import Derived.Deep.OwnShut
import Derived.Deep.Slices
namespace Go.Proofs.Ytielmfchbgajnaa
open Go.RowKit

/-- A type, told plainly: its kind, what is in it, its names. -/
inductive T where
  | z
  | mk (k : Int) (n : Nat) (it : Nat → T) (m : Nat) (nm : Nat → ByteArray)
instance : Inhabited T := ⟨.z⟩
namespace T
def k : T → Int | z => 0 | mk k _ _ _ _ => k
def n : T → Nat | z => 0 | mk _ n _ _ _ => n
def it : T → Nat → T | z => fun _ => z | mk _ _ it _ _ => it
def m : T → Nat | z => 0 | mk _ _ _ m _ => m
def nm : T → Nat → ByteArray | z => fun _ => ByteArray.empty | mk _ _ _ _ nm => nm
/-- The type that is nothing. -/
def zero : T := mk 0 0 (fun _ => z) 0 (fun _ => ByteArray.empty)
/-- A type that has nothing in it. -/
def of (k : Int) : T := mk k 0 (fun _ => z) 0 (fun _ => ByteArray.empty)
end T

/-- A type's value: its kind, and where its items and its names lie. -/
abbrev TV (k : Int) (a : Option Addr) (n c : Nat) (b : Option Addr) (m d : Nat) : Value := .agg #[.int .i64 k, .slice a n c, .slice b m d]
/-- The three cells of a type's value. -/
structure Cell3 (w : World) (g o : Nat) (k : Int) (a : Option Addr) (n c : Nat) (b : Option Addr) (m d : Nat) : Prop where
  c0 : w.cell? ⟨g, o, none⟩ = some (.int .i64 k)
  c1 : w.cell? ⟨g, o + 1, none⟩ = some (.slice a n c)
  c2 : w.cell? ⟨g, o + 2, none⟩ = some (.slice b m d)
/-- How many there may be. -/
def Few (n m : Nat) : Prop := n ≤ 2513169434843 ∧ m ≤ 8796093021952
def Short (s : ByteArray) : Prop := s.size ≤ 140737488351232
/-- A type's value leads to this type, through these blocks alone. -/
inductive Lies (S : Nat → Prop) (w : World) : Value → T → Prop
  | mk {k : Int} {n : Nat} {it : Nat → T} {m : Nat} {nm : Nat → ByteArray} (a : Option Addr) (c : Nat) (b : Option Addr) (d : Nat) (V : Nat → Value)
    (hk : I64 k) (hf : Few n m) (hc : n ≤ c ∧ c ≤ maxLen) (hd : m ≤ d ∧ d ≤ maxLen)
    (ha : a = none → c = 0) (hb : b = none → d = 0)
    (hV : ∀ i, i < n → ∃ g o, a = some ⟨g, o, none⟩ ∧ S g ∧ ∃ k1 a1 n1 c1 b1 m1 d1, V i = TV k1 a1 n1 c1 b1 m1 d1 ∧ Cell3 w g (o + i * 3) k1 a1 n1 c1 b1 m1 d1)
    (hi : ∀ i, i < n → Lies S w (V i) (it i))
    (hn : ∀ i, i < m → ∃ g o, b = some ⟨g, o, none⟩ ∧ S g ∧ w.cell? ⟨g, o + i, none⟩ = some (.string (nm i)) ∧ Short (nm i)) :
    Lies S w (TV k a n c b m d) (.mk k n it m nm)

theorem Cell3.lt {w : World} {g o : Nat} {k : Int} {a : Option Addr} {n c : Nat} {b : Option Addr} {m d : Nat} (h : Cell3 w g o k a n c b m d) : g < w.heap.size := by
  rcases Nat.lt_or_ge g w.heap.size with q | q
  · exact q
  · have := h.c0
    have e : w.heap[g]? = none := by simp [q]
    simp [World.cell?, e] at this
theorem cell_lt {w : World} {g o : Nat} {v : Value} (h : w.cell? ⟨g, o, none⟩ = some v) : g < w.heap.size := by
  rcases Nat.lt_or_ge g w.heap.size with q | q
  · exact q
  · have e : w.heap[g]? = none := by simp [q]
    simp [World.cell?, e] at h
theorem cell_below {w w' : World} {g o : Nat} {v : Value} (h : w.cell? ⟨g, o, none⟩ = some v) (hb : Below w.heap.size w w') : w'.cell? ⟨g, o, none⟩ = some v :=
  (hb.cell (p := ⟨g, o, none⟩) (cell_lt h)).trans h
theorem Cell3.below {w w' : World} {g o : Nat} {k : Int} {a : Option Addr} {n c : Nat} {b : Option Addr} {m d : Nat} (h : Cell3 w g o k a n c b m d) (hb : Below w.heap.size w w') : Cell3 w' g o k a n c b m d :=
  ⟨cell_below h.c0 hb, cell_below h.c1 hb, cell_below h.c2 hb⟩
/-- What lies, lies still where no block of these has changed. -/
theorem Lies.turned {S : Nat → Prop} {w w' : World} {v : Value} {t : T} (h : Lies S w v t) (hb : ∀ g, S g → g < w.heap.size → w'.heap[g]? = w.heap[g]?) : Lies S w' v t := by
  have cb : ∀ g o u, S g → w.cell? ⟨g, o, none⟩ = some u → w'.cell? ⟨g, o, none⟩ = some u := fun g o u hg q => (World.cell?_of_block (a := ⟨g, o, none⟩) (hb g hg (cell_lt q))).trans q
  induction h with
  | mk a c b d V hk hf hc hd ha hb' hV hi hn ih =>
    refine .mk a c b d V hk hf hc hd ha hb' (fun i h => ?_) ih (fun i h => ?_)
    · obtain ⟨g, o, e, s, k1, a1, n1, c1, b1, m1, d1, f, q⟩ := hV i h
      exact ⟨g, o, e, s, k1, a1, n1, c1, b1, m1, d1, f, cb _ _ _ s q.c0, cb _ _ _ s q.c1, cb _ _ _ s q.c2⟩
    · obtain ⟨g, o, e, s, q, l⟩ := hn i h
      exact ⟨g, o, e, s, cb _ _ _ s q, l⟩
/-- The same, where nothing that was has changed. -/
theorem Lies.on {S : Nat → Prop} {w w' : World} {v : Value} {t : T} (h : Lies S w v t) (hb : Below w.heap.size w w') : Lies S w' v t := h.turned fun g _ hg => hb.block g hg
/-- Through more blocks. -/
theorem Lies.wide {S S' : Nat → Prop} {w : World} {v : Value} {t : T} (h : Lies S w v t) (hs : ∀ g, g < w.heap.size → S g → S' g) : Lies S' w v t := by
  induction h with
  | mk a c b d V hk hf hc hd ha hb' hV hi hn ih =>
    refine .mk a c b d V hk hf hc hd ha hb' (fun i h => ?_) ih (fun i h => ?_)
    · obtain ⟨g, o, e, s, k1, a1, n1, c1, b1, m1, d1, f, q⟩ := hV i h
      exact ⟨g, o, e, hs g q.lt s, k1, a1, n1, c1, b1, m1, d1, f, q⟩
    · obtain ⟨g, o, e, s, q, l⟩ := hn i h
      exact ⟨g, o, e, hs g (cell_lt q) s, q, l⟩
/-- These blocks, and new ones. -/
def Sn (S : Nat → Prop) (w : World) : Nat → Prop := fun g => S g ∨ w.heap.size ≤ g
/-- Those of these blocks that were there. -/
def Sb (S : Nat → Prop) (w : World) : Nat → Prop := fun g => S g ∧ g < w.heap.size
theorem Lies.sb {S : Nat → Prop} {w : World} {v : Value} {t : T} (h : Lies S w v t) : Lies (Sb S w) w v t := h.wide fun _ l s => ⟨s, l⟩
theorem Lies.set {S : Nat → Prop} {w : World} {v : Value} {t : T} (h : Lies S w v t) (g o : Nat) (u : Value) (hg : ¬ S g) : Lies S (w.setCell ⟨g, o, none⟩ u) v t :=
  h.turned fun i hi _ => RowKit.Below.heap_setCell _ _ _ _ (fun e => hg (by have e' : i = g := e; exact e' ▸ hi))
theorem Lies.alloc {S : Nat → Prop} {w : World} {v : Value} {t : T} (h : Lies S w v t) (o : Obj) : Lies S (w.alloc o) v t := h.on ((Below.refl _ _).alloc (Nat.le_refl _) o)
theorem Lies.drew {S : Nat → Prop} {w : World} {v : Value} {t : T} (h : Lies S w v t) : Lies S w.drew v t := h.on (Below.refl _ _).drew
/-- Those of these blocks that were there, and all from N on. -/
def Sx (S : Nat → Prop) (w : World) (N : Nat) : Nat → Prop := fun g => Sb S w g ∨ N ≤ g
theorem Lies.sx {S : Nat → Prop} {w W : World} {N : Nat} {v : Value} {t : T} (h : Lies (Sb S w) W v t) : Lies (Sx S w N) W v t := h.wide fun _ _ s => .inl s
theorem Lies.grow {S : Nat → Prop} {w W0 W : World} {N : Nat} {v : Value} {t : T} (h : Lies (Sn (Sb S w) W0) W v t) (hle : N ≤ W0.heap.size) : Lies (Sx S w N) W v t :=
  h.wide fun _ _ s => s.elim (fun q => .inl q) (fun q => .inr (Nat.le_trans hle q))
theorem Lies.grow' {S : Nat → Prop} {w W0 W : World} {N : Nat} {v : Value} {t : T} (h : Lies (Sn (Sx S w N) W0) W v t) (hle : N ≤ W0.heap.size) : Lies (Sx S w N) W v t :=
  h.wide fun _ _ s => s.elim id (fun q => .inr (Nat.le_trans hle q))
theorem Lies.out {S : Nat → Prop} {w W : World} {N : Nat} {v : Value} {t : T} (h : Lies (Sx S w N) W v t) (hle : w.heap.size ≤ N) : Lies (Sn S w) W v t :=
  h.wide fun _ _ s => s.elim (fun q => .inl q.1) (fun q => .inr (Nat.le_trans hle q))
theorem not_sn {S : Nat → Prop} {w W0 : World} {g : Nat} (h1 : w.heap.size ≤ g) (h2 : g < W0.heap.size) : ¬ Sn (Sb S w) W0 g := fun s => s.elim (fun q => Nat.not_lt.2 h1 q.2) (fun q => Nat.not_lt.2 q h2)
theorem not_sx {S : Nat → Prop} {w : World} {N g : Nat} (h1 : w.heap.size ≤ g) (h2 : g < N) : ¬ Sx S w N g := fun s => s.elim (fun q => Nat.not_lt.2 h1 q.2) (fun q => Nat.not_lt.2 q h2)
/-- New blocks alone. -/
def New (w : World) : Nat → Prop := fun g => w.heap.size ≤ g
theorem Lies.sn {S : Nat → Prop} {w w0 : World} {v : Value} {t : T} (h : Lies S w v t) : Lies (Sn S w0) w v t := h.wide fun _ _ s => .inl s
theorem Lies.new {S : Nat → Prop} {w w0 : World} {v : Value} {t : T} (h : Lies (New w0) w v t) : Lies (Sn S w0) w v t := h.wide fun _ _ s => .inr s
/-- A call answers a value that leads to this type, and changes nothing that was. -/
def RetT (S : Nat → Prop) (t : T) (w : World) (e : Ending) (w' : World) : Prop := ∃ (k : Int) (a : Option Addr) (n c : Nat) (b : Option Addr) (m d : Nat), e = .returned (TV k a n c b m d) ∧ Lies S w' (TV k a n c b m d) t ∧ Below w.heap.size w w'
/-- Any value that leads to a type is laid out so. -/
theorem Lies.form {S : Nat → Prop} {w : World} {v : Value} {t : T} (h : Lies S w v t) : ∃ (k : Int) (a : Option Addr) (n c : Nat) (b : Option Addr) (m d : Nat), v = TV k a n c b m d ∧ k = t.k ∧ n = t.n ∧ m = t.m := by
  cases h with
  | mk a c b d V => exact ⟨_, a, _, c, b, _, d, rfl, rfl, rfl, rfl⟩
theorem lies_of {S : Nat → Prop} {w : World} {k : Int} (h : I64 k) : Lies S w (TV k none 0 0 none 0 0) (T.of k) :=
  .mk none 0 none 0 (fun _ => .bool false) h ⟨Nat.zero_le _, Nat.zero_le _⟩ ⟨Nat.le_refl _, Nat.zero_le _⟩ ⟨Nat.le_refl _, Nat.zero_le _⟩ (fun _ => rfl) (fun _ => rfl) (fun _ h => absurd h (Nat.not_lt_zero _)) (fun _ h => absurd h (Nat.not_lt_zero _)) (fun _ h => absurd h (Nat.not_lt_zero _))
section
variable {S : Nat → Prop} {w : World} {k : Int} {a : Option Addr} {n c : Nat} {b : Option Addr} {m d : Nat} {t : T}
/-- What is in a type, at a place. -/
theorem Lies.item (h : Lies S w (TV k a n c b m d) t) (i : Nat) (hi : i < n) :
    ∃ g o, a = some ⟨g, o, none⟩ ∧ ∃ k1 a1 n1 c1 b1 m1 d1, w.cell? ⟨g, o + i * 3, none⟩ = some (.int .i64 k1) ∧ w.cell? ⟨g, o + i * 3 + 1, none⟩ = some (.slice a1 n1 c1) ∧ w.cell? ⟨g, o + i * 3 + 2, none⟩ = some (.slice b1 m1 d1) ∧ g < w.heap.size ∧ Lies S w (TV k1 a1 n1 c1 b1 m1 d1) (t.it i) := by
  cases h with
  | mk a c b d V hk hf hc hd ha hb' hV hit hn =>
    obtain ⟨g, o, e, s, k1, a1, n1, c1, b1, m1, d1, f, q⟩ := hV i hi
    have := hit i hi
    rw [f] at this
    exact ⟨g, o, e, k1, a1, n1, c1, b1, m1, d1, q.c0, q.c1, q.c2, q.lt, this⟩
theorem Lies.name (h : Lies S w (TV k a n c b m d) t) (i : Nat) (hi : i < m) :
    ∃ g o, b = some ⟨g, o, none⟩ ∧ w.cell? ⟨g, o + i, none⟩ = some (.string (t.nm i)) ∧ g < w.heap.size ∧ Short (t.nm i) := by
  cases h with
  | mk a c b d V hk hf hc hd ha hb' hV hit hn =>
    obtain ⟨g, o, e, s, q, l⟩ := hn i hi
    exact ⟨g, o, e, q, cell_lt q, l⟩
theorem Lies.kk (h : Lies S w (TV k a n c b m d) t) : t.k = k := by cases h; rfl
theorem Lies.nn (h : Lies S w (TV k a n c b m d) t) : t.n = n := by cases h; rfl
theorem Lies.mm (h : Lies S w (TV k a n c b m d) t) : t.m = m := by cases h; rfl
theorem Lies.few (h : Lies S w (TV k a n c b m d) t) : Few n m ∧ (n ≤ c ∧ c ≤ maxLen) ∧ (m ≤ d ∧ d ≤ maxLen) ∧ I64 k ∧ (a = none → c = 0) ∧ (b = none → d = 0) := by
  cases h with
  | mk a c b d V hk hf hc hd ha hb' hV hit hn => exact ⟨hf, hc, hd, hk, ha, hb'⟩
end

/-! ### Small functions -/
set_option maxRecDepth 100000 in
theorem of_walk (k : Int) (w : World) : Calls Try.prog 33 #[.int .i64 k] w (Ret (TV k none 0 0 none 0 0) w) := by
  go_enter Try.func33, Try.ntmps33
  go_wp2
  exact bodyPost_ret (v := TV k none 0 0 none 0 0) (by simp [results, Try.results33, go_sem]) rfl ⟨rfl, by go_grown⟩
theorem goes_walk (j k : Int) (w : World) : Calls Try.prog 49 #[.int .i64 j, .int .i64 k] w (Ret (.bool (j == 1 || k == 14)) w) := by
  go_enter Try.func49, Try.ntmps49
  go_wp2
  all_goals
    go_ret
    exact ⟨by simp [*], by go_grown⟩
/-- What is in a list's type, or a range's. -/
def T.within (t : T) : T := if t.n = 0 then T.zero else t.it 0
theorem lies_zero {S : Nat → Prop} {w : World} : Lies S w (TV 0 none 0 0 none 0 0) T.zero := lies_of (k := 0) ⟨by omega, by omega⟩
set_option maxRecDepth 100000 in
theorem within_walk (k : Int) (a : Option Addr) (n c : Nat) (b : Option Addr) (m d : Nat) (t : T) (S : Nat → Prop) (w : World) (h : Lies S w (TV k a n c b m d) t) :
    Calls Try.prog 50 #[TV k a n c b m d] w (RetT S t.within w) := by
  by_cases h0 : n = 0
  · subst h0
    have HZ := Lib.hid (show t.within = T.zero from by cases h; rfl)
    clear h
    go_enter Try.func50, Try.ntmps50
    go_wp2
    exact bodyPost_ret (v := TV 0 none 0 0 none 0 0) (by simp [results, Try.results50, go_sem]) rfl ⟨0, none, 0, 0, none, 0, 0, rfl, by rw [HZ.out]; exact lies_zero, by go_grown⟩
  · obtain ⟨g, o, rfl, k1, a1, n1, c1, b1, m1, d1, q0, q1, q2, hg, hL⟩ := h.item 0 (by omega)
    have HL := Lib.hid (show Lies S w (TV k1 a1 n1 c1 b1 m1 d1) t.within from by
      have : t.n ≠ 0 := by cases h; exact h0
      unfold T.within
      rw [if_neg this]
      exact hL)
    rw [Nat.zero_mul, Nat.add_zero] at q0 q1 q2
    have hp : 0 < n := by omega
    have hz : ((n : Int) == 0) = false := by simp; omega
    clear h hL
    go_enter Try.func50, Try.ntmps50
    go_wp2
    exact bodyPost_ret (v := TV k1 a1 n1 c1 b1 m1 d1) (by simp [results, Try.results50, go_sem]) rfl ⟨k1, a1, n1, c1, b1, m1, d1, rfl, HL.out.on (by go_grown), by go_grown⟩

/-- A verdict's value. -/
abbrev VV (p q : Bool) (k : Int) (a : Option Addr) (n c : Nat) (b : Option Addr) (m d : Nat) : Value := .agg #[.bool p, .bool q, .int .i64 k, .slice a n c, .slice b m d]
/-- Which of three types a verdict's join is. -/
def pick3 {α : Type} (p q : Bool) (a b o : α) : α := if p then b else if q then a else o
set_option maxRecDepth 100000 in
theorem judge_walk (k : Int) (a : Option Addr) (n c : Nat) (b : Option Addr) (m d : Nat) (k' : Int) (a' : Option Addr) (n' c' : Nat) (b' : Option Addr) (m' d' : Nat) (p q : Bool) (k2 : Int) (a2 : Option Addr) (n2 c2 : Nat) (b2 : Option Addr) (m2 d2 : Nat) (w : World) :
    Calls Try.prog 48 #[TV k a n c b m d, TV k' a' n' c' b' m' d', .bool p, .bool q, TV k2 a2 n2 c2 b2 m2 d2] w
      (Ret (pick3 p q (VV p q k a n c b m d) (VV p q k' a' n' c' b' m' d') (VV p q k2 a2 n2 c2 b2 m2 d2)) w) := by
  cases p
  · cases q
    · go_enter Try.func48, Try.ntmps48
      go_wp2
      exact bodyPost_ret (v := VV false false k2 a2 n2 c2 b2 m2 d2) (by simp [results, Try.results48, go_sem]) rfl ⟨rfl, by go_grown⟩
    · go_enter Try.func48, Try.ntmps48
      go_wp2
      exact bodyPost_ret (v := VV false true k a n c b m d) (by simp [results, Try.results48, go_sem]) rfl ⟨rfl, by go_grown⟩
  · go_enter Try.func48, Try.ntmps48
    go_wp2
    exact bodyPost_ret (v := VV true q k' a' n' c' b' m' d') (by simp [results, Try.results48, go_sem]) rfl ⟨rfl, by go_grown⟩
set_option maxRecDepth 100000 in
theorem around_walk (kk : Int) (hkk : I64 kk) (k : Int) (a : Option Addr) (n c : Nat) (b : Option Addr) (m d : Nat) (t : T) (S : Nat → Prop) (w : World) (h : Lies S w (TV k a n c b m d) t) :
    Calls Try.prog 43 #[.int .i64 kk, TV k a n c b m d] w (RetT (Sn S w) (.mk kk 1 (fun _ => t) 0 (fun _ => ByteArray.empty)) w) := by
  have HL := Lib.hid h
  have HK := Lib.hid hkk
  clear h hkk
  go_enter Try.func43, Try.ntmps43
  go_wp2
  refine bodyPost_ret (v := TV kk (some ⟨w.heap.size + 1 + 1, 0, none⟩) 1 1 none 0 0) (by simp [results, Try.results43, go_sem]) rfl ⟨kk, _, 1, 1, none, 0, 0, rfl, ?_, by go_grown⟩
  refine .mk _ _ _ _ (fun _ => TV k a n c b m d) HK.out ⟨by decide, by decide⟩ ⟨Nat.le_refl _, by decide⟩ ⟨Nat.le_refl _, by decide⟩ (fun h => by cases h) (fun _ => rfl) (fun i hi => ?_) (fun i _ => (HL.out.on (by go_grown)).sn) (fun i hi => absurd hi (Nat.not_lt_zero _))
  obtain rfl : i = 0 := by omega
  refine ⟨_, _, rfl, .inr (by omega), k, a, n, c, b, m, d, rfl, ?_, ?_, ?_⟩ <;> simp [go_sem]
set_option maxRecDepth 100000 in
theorem entries_walk (k : Int) (a : Option Addr) (n c : Nat) (b : Option Addr) (m d : Nat) (t : T) (S : Nat → Prop) (w : World) (h : Lies S w (TV k a n c b m d) t) :
    Calls Try.prog 38 #[TV k a n c b m d] w (Ret (.tuple #[.slice b (min m n) d, .slice a (min m n) c]) w) := by
  obtain ⟨F1, F2, F3, -, -, -⟩ := h.few
  clear h F1
  unfold maxLen at F2 F3
  by_cases hlt : n < m
  · rw [show min m n = n by omega]
    go_enter Try.func38, Try.ntmps38
    go_wp2
    go_region
    go_wp2
    go_ret2
    exact ⟨rfl, by go_grown⟩
  · rw [show min m n = m by omega]
    go_enter Try.func38, Try.ntmps38
    go_wp2
    go_region
    go_wp2
    go_ret2
    exact ⟨rfl, by go_grown⟩
/-- What a function takes, and what it gives. -/
def T.gives (t : T) : T := if t.n = 0 then T.zero else t.it (t.n - 1)
set_option maxRecDepth 100000 in
theorem parts_walk (k : Int) (a : Option Addr) (n c : Nat) (b : Option Addr) (m d : Nat) (t : T) (S : Nat → Prop) (w : World) (h : Lies S w (TV k a n c b m d) t) :
    Calls Try.prog 63 #[TV k a n c b m d] w (fun e w' => ∃ (a0 : Option Addr) (c0 : Nat) (k1 : Int) (a1 : Option Addr) (n1 c1 : Nat) (b1 : Option Addr) (m1 d1 : Nat), e = .returned (.tuple #[.slice a0 (n - 1) c0, TV k1 a1 n1 c1 b1 m1 d1]) ∧ (n ≠ 0 → a0 = a ∧ c0 = c) ∧ Lies S w' (TV k1 a1 n1 c1 b1 m1 d1) t.gives ∧ Below w.heap.size w w') := by
  obtain ⟨F1, F2, F3, -, -, -⟩ := h.few
  by_cases h0 : n = 0
  · subst h0
    have HZ := Lib.hid (show t.gives = T.zero from by unfold T.gives; rw [h.nn]; rfl)
    clear h F1 F2 F3
    go_enter Try.func63, Try.ntmps63
    go_wp2
    exact bodyPost_ret (v := .tuple #[.slice none 0 0, TV 0 none 0 0 none 0 0]) (by simp [results, Try.results63, go_sem]) rfl ⟨none, 0, 0, none, 0, 0, none, 0, 0, rfl, fun h => absurd rfl h, by rw [HZ.out]; exact lies_zero, by go_grown⟩
  · obtain ⟨r, hr⟩ : ∃ r, n = r + 1 := ⟨n - 1, by omega⟩
    obtain ⟨g, o, rfl, k1, a1, n1, c1, b1, m1, d1, q0, q1, q2, hg, hL⟩ := h.item r (by omega)
    have HL := Lib.hid (show Lies S w (TV k1 a1 n1 c1 b1 m1 d1) t.gives from by
      unfold T.gives
      rw [h.nn, if_neg h0, hr]
      exact hL)
    rw [show n - 1 = r by omega]
    have hz : ((n : Int) == 0) = false := by simp; omega
    have F4 : (n : Int) ≤ 9223372036854775807 := by unfold maxLen at F2; omega
    have r0 : 0 < n := by omega
    have r1 : (0 : Int) ≤ (r : Int) ∧ (r : Int) < (n : Int) := by omega
    have r2 : r ≤ n ∧ r < n ∧ r ≤ c := by omega
    have r3 : (n : Int) - 1 = (r : Int) := by omega
    clear h hL h0 F1 F2 F3 hr
    go_enter Try.func63, Try.ntmps63
    go_wp2
    go_region
    go_wp2
    exact bodyPost_ret (v := .tuple #[.slice (some ⟨g, o, none⟩) r c, TV k1 a1 n1 c1 b1 m1 d1]) (by simp [results, Try.results63, go_sem]) rfl ⟨_, _, k1, a1, n1, c1, b1, m1, d1, rfl, fun _ => ⟨rfl, rfl⟩, HL.out.on (by go_grown), by go_grown⟩

/-- The name of a kind that has nothing in it. -/
def wordOf (k : Int) : ByteArray :=
  if k = 1 then ⟨#[78, 117, 108, 108]⟩
  else if k = 2 then ⟨#[98, 111, 111, 108, 101, 97, 110]⟩
  else if k = 3 then ⟨#[110, 117, 109, 98, 101, 114]⟩
  else if k = 4 then ⟨#[115, 116, 114, 105, 110, 103]⟩
  else if k = 5 then ⟨#[100, 97, 116, 101]⟩
  else if k = 6 then ⟨#[116, 105, 109, 101]⟩
  else if k = 7 then ⟨#[100, 97, 116, 101, 32, 97, 110, 100, 32, 116, 105, 109, 101]⟩
  else if k = 8 then ⟨#[100, 97, 121, 115, 32, 97, 110, 100, 32, 116, 105, 109, 101, 32, 100, 117, 114, 97, 116, 105, 111, 110]⟩
  else if k = 9 then ⟨#[121, 101, 97, 114, 115, 32, 97, 110, 100, 32, 109, 111, 110, 116, 104, 115, 32, 100, 117, 114, 97, 116, 105, 111, 110]⟩
  else if k = 14 then ⟨#[65, 110, 121]⟩
  else ⟨#[]⟩
/-- Is a kind simple? -/
def simB (k : Int) : Bool := k == 1 || k == 2 || k == 3 || k == 4 || k == 5 || k == 6 || k == 7 || k == 8 || k == 9 || k == 14
theorem kinds_ways {P : Int → Prop} (h1 : P 1) (h2 : P 2) (h3 : P 3) (h4 : P 4) (h5 : P 5) (h6 : P 6) (h7 : P 7) (h8 : P 8) (h9 : P 9) (h14 : P 14) (ho : ∀ k, k ≠ 1 → k ≠ 2 → k ≠ 3 → k ≠ 4 → k ≠ 5 → k ≠ 6 → k ≠ 7 → k ≠ 8 → k ≠ 9 → k ≠ 14 → P k) (k : Int) : P k := by
  by_cases e1 : k = 1
  · exact e1 ▸ h1
  by_cases e2 : k = 2
  · exact e2 ▸ h2
  by_cases e3 : k = 3
  · exact e3 ▸ h3
  by_cases e4 : k = 4
  · exact e4 ▸ h4
  by_cases e5 : k = 5
  · exact e5 ▸ h5
  by_cases e6 : k = 6
  · exact e6 ▸ h6
  by_cases e7 : k = 7
  · exact e7 ▸ h7
  by_cases e8 : k = 8
  · exact e8 ▸ h8
  by_cases e9 : k = 9
  · exact e9 ▸ h9
  by_cases e14 : k = 14
  · exact e14 ▸ h14
  exact ho k e1 e2 e3 e4 e5 e6 e7 e8 e9 e14
set_option maxRecDepth 100000 in
set_option maxHeartbeats 1000000 in
theorem word_walk (k : Int) (w : World) : Calls Try.prog 28 #[.int .i64 k] w (Ret (.string (wordOf k)) w) := by
  refine kinds_ways (P := fun k => Calls Try.prog 28 #[.int .i64 k] w (Ret (.string (wordOf k)) w)) ?_ ?_ ?_ ?_ ?_ ?_ ?_ ?_ ?_ ?_ (fun k e1 e2 e3 e4 e5 e6 e7 e8 e9 e14 => ?_) k
  · show Calls Try.prog 28 #[.int .i64 1] w (Ret (.string ⟨#[78, 117, 108, 108]⟩) w)
    go_enter Try.func28, Try.ntmps28
    go_wp2
    go_ret
    exact ⟨rfl, by go_grown⟩
  · show Calls Try.prog 28 #[.int .i64 2] w (Ret (.string ⟨#[98, 111, 111, 108, 101, 97, 110]⟩) w)
    go_enter Try.func28, Try.ntmps28
    go_wp2
    go_ret
    exact ⟨rfl, by go_grown⟩
  · show Calls Try.prog 28 #[.int .i64 3] w (Ret (.string ⟨#[110, 117, 109, 98, 101, 114]⟩) w)
    go_enter Try.func28, Try.ntmps28
    go_wp2
    go_ret
    exact ⟨rfl, by go_grown⟩
  · show Calls Try.prog 28 #[.int .i64 4] w (Ret (.string ⟨#[115, 116, 114, 105, 110, 103]⟩) w)
    go_enter Try.func28, Try.ntmps28
    go_wp2
    go_ret
    exact ⟨rfl, by go_grown⟩
  · show Calls Try.prog 28 #[.int .i64 5] w (Ret (.string ⟨#[100, 97, 116, 101]⟩) w)
    go_enter Try.func28, Try.ntmps28
    go_wp2
    go_ret
    exact ⟨rfl, by go_grown⟩
  · show Calls Try.prog 28 #[.int .i64 6] w (Ret (.string ⟨#[116, 105, 109, 101]⟩) w)
    go_enter Try.func28, Try.ntmps28
    go_wp2
    go_ret
    exact ⟨rfl, by go_grown⟩
  · show Calls Try.prog 28 #[.int .i64 7] w (Ret (.string ⟨#[100, 97, 116, 101, 32, 97, 110, 100, 32, 116, 105, 109, 101]⟩) w)
    go_enter Try.func28, Try.ntmps28
    go_wp2
    go_ret
    exact ⟨rfl, by go_grown⟩
  · show Calls Try.prog 28 #[.int .i64 8] w (Ret (.string ⟨#[100, 97, 121, 115, 32, 97, 110, 100, 32, 116, 105, 109, 101, 32, 100, 117, 114, 97, 116, 105, 111, 110]⟩) w)
    go_enter Try.func28, Try.ntmps28
    go_wp2
    go_ret
    exact ⟨rfl, by go_grown⟩
  · show Calls Try.prog 28 #[.int .i64 9] w (Ret (.string ⟨#[121, 101, 97, 114, 115, 32, 97, 110, 100, 32, 109, 111, 110, 116, 104, 115, 32, 100, 117, 114, 97, 116, 105, 111, 110]⟩) w)
    go_enter Try.func28, Try.ntmps28
    go_wp2
    go_ret
    exact ⟨rfl, by go_grown⟩
  · show Calls Try.prog 28 #[.int .i64 14] w (Ret (.string ⟨#[65, 110, 121]⟩) w)
    go_enter Try.func28, Try.ntmps28
    go_wp2
    go_ret
    exact ⟨rfl, by go_grown⟩
  · have HW := Lib.hid (show wordOf k = ⟨#[]⟩ from by unfold wordOf; simp only [if_neg e1, if_neg e2, if_neg e3, if_neg e4, if_neg e5, if_neg e6, if_neg e7, if_neg e8, if_neg e9, if_neg e14])
    have f1 : (k == 1) = false := beq_eq_false_iff_ne.2 e1
    have f2 : (k == 2) = false := beq_eq_false_iff_ne.2 e2
    have f3 : (k == 3) = false := beq_eq_false_iff_ne.2 e3
    have f4 : (k == 4) = false := beq_eq_false_iff_ne.2 e4
    have f5 : (k == 5) = false := beq_eq_false_iff_ne.2 e5
    have f6 : (k == 6) = false := beq_eq_false_iff_ne.2 e6
    have f7 : (k == 7) = false := beq_eq_false_iff_ne.2 e7
    have f8 : (k == 8) = false := beq_eq_false_iff_ne.2 e8
    have f9 : (k == 9) = false := beq_eq_false_iff_ne.2 e9
    have f14 : (k == 14) = false := beq_eq_false_iff_ne.2 e14
    clear e1 e2 e3 e4 e5 e6 e7 e8 e9 e14
    go_enter Try.func28, Try.ntmps28
    go_wp2
    go_ret
    exact ⟨by rw [HW.out]; rfl, by go_grown⟩
set_option maxRecDepth 100000 in
set_option maxHeartbeats 1000000 in
theorem lword_walk (k : Int) (w : World) : Calls Try.prog 29 #[.int .i64 k] w (Ret (.string (wordOf k)) w) := by
  refine kinds_ways (P := fun k => Calls Try.prog 29 #[.int .i64 k] w (Ret (.string (wordOf k)) w)) ?_ ?_ ?_ ?_ ?_ ?_ ?_ ?_ ?_ ?_ (fun k e1 e2 e3 e4 e5 e6 e7 e8 e9 e14 => ?_) k
  · show Calls Try.prog 29 #[.int .i64 1] w (Ret (.string ⟨#[78, 117, 108, 108]⟩) w)
    go_enter Try.func29, Try.ntmps29
    go_wp2
    go_ret
    exact ⟨rfl, by go_grown⟩
  · show Calls Try.prog 29 #[.int .i64 2] w (Ret (.string ⟨#[98, 111, 111, 108, 101, 97, 110]⟩) w)
    go_enter Try.func29, Try.ntmps29
    go_wp2
    go_ret
    exact ⟨rfl, by go_grown⟩
  · show Calls Try.prog 29 #[.int .i64 3] w (Ret (.string ⟨#[110, 117, 109, 98, 101, 114]⟩) w)
    go_enter Try.func29, Try.ntmps29
    go_wp2
    go_ret
    exact ⟨rfl, by go_grown⟩
  · show Calls Try.prog 29 #[.int .i64 4] w (Ret (.string ⟨#[115, 116, 114, 105, 110, 103]⟩) w)
    go_enter Try.func29, Try.ntmps29
    go_wp2
    go_ret
    exact ⟨rfl, by go_grown⟩
  · show Calls Try.prog 29 #[.int .i64 5] w (Ret (.string ⟨#[100, 97, 116, 101]⟩) w)
    go_enter Try.func29, Try.ntmps29
    go_wp2
    go_ret
    exact ⟨rfl, by go_grown⟩
  · show Calls Try.prog 29 #[.int .i64 6] w (Ret (.string ⟨#[116, 105, 109, 101]⟩) w)
    go_enter Try.func29, Try.ntmps29
    go_wp2
    go_ret
    exact ⟨rfl, by go_grown⟩
  · show Calls Try.prog 29 #[.int .i64 7] w (Ret (.string ⟨#[100, 97, 116, 101, 32, 97, 110, 100, 32, 116, 105, 109, 101]⟩) w)
    go_enter Try.func29, Try.ntmps29
    go_wp2
    go_ret
    exact ⟨rfl, by go_grown⟩
  · show Calls Try.prog 29 #[.int .i64 8] w (Ret (.string ⟨#[100, 97, 121, 115, 32, 97, 110, 100, 32, 116, 105, 109, 101, 32, 100, 117, 114, 97, 116, 105, 111, 110]⟩) w)
    go_enter Try.func29, Try.ntmps29
    go_wp2
    go_ret
    exact ⟨rfl, by go_grown⟩
  · show Calls Try.prog 29 #[.int .i64 9] w (Ret (.string ⟨#[121, 101, 97, 114, 115, 32, 97, 110, 100, 32, 109, 111, 110, 116, 104, 115, 32, 100, 117, 114, 97, 116, 105, 111, 110]⟩) w)
    go_enter Try.func29, Try.ntmps29
    go_wp2
    go_ret
    exact ⟨rfl, by go_grown⟩
  · show Calls Try.prog 29 #[.int .i64 14] w (Ret (.string ⟨#[65, 110, 121]⟩) w)
    go_enter Try.func29, Try.ntmps29
    go_wp2
    go_ret
    exact ⟨rfl, by go_grown⟩
  · have HW := Lib.hid (show wordOf k = ⟨#[]⟩ from by unfold wordOf; simp only [if_neg e1, if_neg e2, if_neg e3, if_neg e4, if_neg e5, if_neg e6, if_neg e7, if_neg e8, if_neg e9, if_neg e14])
    have f1 : (k == 1) = false := beq_eq_false_iff_ne.2 e1
    have f2 : (k == 2) = false := beq_eq_false_iff_ne.2 e2
    have f3 : (k == 3) = false := beq_eq_false_iff_ne.2 e3
    have f4 : (k == 4) = false := beq_eq_false_iff_ne.2 e4
    have f5 : (k == 5) = false := beq_eq_false_iff_ne.2 e5
    have f6 : (k == 6) = false := beq_eq_false_iff_ne.2 e6
    have f7 : (k == 7) = false := beq_eq_false_iff_ne.2 e7
    have f8 : (k == 8) = false := beq_eq_false_iff_ne.2 e8
    have f9 : (k == 9) = false := beq_eq_false_iff_ne.2 e9
    have f14 : (k == 14) = false := beq_eq_false_iff_ne.2 e14
    clear e1 e2 e3 e4 e5 e6 e7 e8 e9 e14
    go_enter Try.func29, Try.ntmps29
    go_wp2
    go_ret
    exact ⟨by rw [HW.out]; rfl, by go_grown⟩
set_option maxRecDepth 100000 in
set_option maxHeartbeats 1000000 in
theorem lsimple_walk (k : Int) (w : World) : Calls Try.prog 18 #[.int .i64 k] w (Ret (.bool (simB k)) w) := by
  refine kinds_ways (P := fun k => Calls Try.prog 18 #[.int .i64 k] w (Ret (.bool (simB k)) w)) ?_ ?_ ?_ ?_ ?_ ?_ ?_ ?_ ?_ ?_ (fun k e1 e2 e3 e4 e5 e6 e7 e8 e9 e14 => ?_) k
  · show Calls Try.prog 18 #[.int .i64 1] w (Ret (.bool true) w)
    go_enter Try.func18, Try.ntmps18
    go_wp2
    go_ret
    exact ⟨rfl, by go_grown⟩
  · show Calls Try.prog 18 #[.int .i64 2] w (Ret (.bool true) w)
    go_enter Try.func18, Try.ntmps18
    go_wp2
    go_ret
    exact ⟨rfl, by go_grown⟩
  · show Calls Try.prog 18 #[.int .i64 3] w (Ret (.bool true) w)
    go_enter Try.func18, Try.ntmps18
    go_wp2
    go_ret
    exact ⟨rfl, by go_grown⟩
  · show Calls Try.prog 18 #[.int .i64 4] w (Ret (.bool true) w)
    go_enter Try.func18, Try.ntmps18
    go_wp2
    go_ret
    exact ⟨rfl, by go_grown⟩
  · show Calls Try.prog 18 #[.int .i64 5] w (Ret (.bool true) w)
    go_enter Try.func18, Try.ntmps18
    go_wp2
    go_ret
    exact ⟨rfl, by go_grown⟩
  · show Calls Try.prog 18 #[.int .i64 6] w (Ret (.bool true) w)
    go_enter Try.func18, Try.ntmps18
    go_wp2
    go_ret
    exact ⟨rfl, by go_grown⟩
  · show Calls Try.prog 18 #[.int .i64 7] w (Ret (.bool true) w)
    go_enter Try.func18, Try.ntmps18
    go_wp2
    go_ret
    exact ⟨rfl, by go_grown⟩
  · show Calls Try.prog 18 #[.int .i64 8] w (Ret (.bool true) w)
    go_enter Try.func18, Try.ntmps18
    go_wp2
    go_ret
    exact ⟨rfl, by go_grown⟩
  · show Calls Try.prog 18 #[.int .i64 9] w (Ret (.bool true) w)
    go_enter Try.func18, Try.ntmps18
    go_wp2
    go_ret
    exact ⟨rfl, by go_grown⟩
  · show Calls Try.prog 18 #[.int .i64 14] w (Ret (.bool true) w)
    go_enter Try.func18, Try.ntmps18
    go_wp2
    go_ret
    exact ⟨rfl, by go_grown⟩
  · have f1 : (k == 1) = false := beq_eq_false_iff_ne.2 e1
    have f2 : (k == 2) = false := beq_eq_false_iff_ne.2 e2
    have f3 : (k == 3) = false := beq_eq_false_iff_ne.2 e3
    have f4 : (k == 4) = false := beq_eq_false_iff_ne.2 e4
    have f5 : (k == 5) = false := beq_eq_false_iff_ne.2 e5
    have f6 : (k == 6) = false := beq_eq_false_iff_ne.2 e6
    have f7 : (k == 7) = false := beq_eq_false_iff_ne.2 e7
    have f8 : (k == 8) = false := beq_eq_false_iff_ne.2 e8
    have f9 : (k == 9) = false := beq_eq_false_iff_ne.2 e9
    have f14 : (k == 14) = false := beq_eq_false_iff_ne.2 e14
    have HW := Lib.hid (show simB k = false from by unfold simB; simp only [f1, f2, f3, f4, f5, f6, f7, f8, f9, f14, Bool.or_self])
    clear e1 e2 e3 e4 e5 e6 e7 e8 e9 e14
    go_enter Try.func18, Try.ntmps18
    go_wp2
    go_ret
    exact ⟨by rw [HW.out]; rfl, by go_grown⟩
theorem wordOf_some (k : Int) : (!(wordOf k).toList.isEmpty) = simB k := by
  refine kinds_ways (P := fun k => (!(wordOf k).toList.isEmpty) = simB k) (by decide +kernel) (by decide +kernel) (by decide +kernel) (by decide +kernel) (by decide +kernel) (by decide +kernel) (by decide +kernel) (by decide +kernel) (by decide +kernel) (by decide +kernel) (fun k e1 e2 e3 e4 e5 e6 e7 e8 e9 e14 => ?_) k
  have : simB k = false := by unfold simB; simp [*]
  rw [this]
  unfold wordOf
  simp only [if_neg e1, if_neg e2, if_neg e3, if_neg e4, if_neg e5, if_neg e6, if_neg e7, if_neg e8, if_neg e9, if_neg e14]
  decide +kernel
set_option maxRecDepth 100000 in
theorem simple_walk (k : Int) (w : World) : Calls Try.prog 17 #[.int .i64 k] w (Ret (.bool (simB k)) w) := by
  obtain ⟨S, hS⟩ : ∃ S, S = wordOf k := ⟨_, rfl⟩
  have WW := Lib.hid (show ∀ w, Calls Try.prog 28 #[.int .i64 k] w (Ret (.string S) w) from fun w => by rw [hS]; exact word_walk k w)
  have HB := Lib.hid (show (!S.toList.isEmpty) = simB k from by rw [hS]; exact wordOf_some k)
  clear hS
  obtain ⟨q, hq⟩ : ∃ q, q = S.toList.isEmpty := ⟨_, rfl⟩
  have HQ := Lib.hid (show (!q) = simB k from by rw [hq]; exact HB.out)
  have hq' := hq.symm
  clear hq
  go_enter Try.func17, Try.ntmps17
  go_wp2_with (go_at_call 28; refine (WW.out _).mono ?_; rintro e w' ⟨rfl, hb'⟩)
  go_ret
  exact ⟨by rw [← HQ.out]; rfl, hb'⟩
end Go.Proofs.Ytielmfchbgajnaa

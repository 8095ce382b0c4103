/-
  Types held against one another, told plainly (vd): what the walk of hold comes to.
-/
import Derived.Test.YtielmfchbgajnaaJb
namespace Go.Proofs.Ytielmfchbgajnaa
open Go.RowKit

/-- A verdict: whether the first conforms to the second, whether the second does to the first, and their join. -/
structure V where
  there : Bool
  back : Bool
  join : T
/-- Of two types a verdict; otherwise is their join, if neither conforms to the other. -/
def judgeV (a b : T) (p q : Bool) (o : T) : V := ⟨p, q, pick3 p q a b o⟩
def goesB (j k : Int) : Bool := j == 1 || k == 14
/-- The verdict of the type that is nothing. -/
def vz (b : T) : V := if (0 : Int) ≠ b.k then judgeV T.zero b (goesB 0 b.k) (goesB b.k 0) (T.of 14) else ⟨true, true, b⟩
/-- A context of these names. -/
def ctxT (L : List (ByteArray × T)) : T := .mk 11 L.length (fun i => (L.getD i (ByteArray.empty, .z)).2) L.length (fun i => (L.getD i (ByteArray.empty, .z)).1)
/-- Of two contexts, name by name. -/
def ctxV (rec : Nat → T → V) (nm : Nat → ByteArray) (b : T) (nb : Nat) : Nat → Bool × Bool × List (ByteArray × T)
  | 0 => (true, true, [])
  | i + 1 =>
    let s := ctxV rec nm b nb i
    if hasN b.nm (nm i) nb then
      let v := rec i (b.it (lastN b.nm (nm i) nb))
      (s.1 && v.there, s.2.1 && v.back, s.2.2 ++ [(nm i, v.join)])
    else (s.1, false, s.2.2)
/-- Of two functions, place by place. -/
def funV (rec : Nat → T → V) (b : T) (g : V) : Nat → Bool × Bool
  | 0 => (g.there, g.back)
  | i + 1 => let s := funV rec b g i; let v := rec i (b.it i); (s.1 && v.back, s.2 && v.there)
/-- The verdict of a type that is made of others. -/
def vstep (k : Int) (n : Nat) (m : Nat) (nm : Nat → ByteArray) (rec : Nat → T → V) (a b : T) : V :=
  if k ≠ b.k then judgeV a b (goesB k b.k) (goesB b.k k) (T.of 14)
  else if k = 10 ∨ k = 12 then
    let v := if n = 0 then vz b.within else rec 0 b.within
    judgeV a b v.there v.back (.mk k 1 (fun _ => v.join) 0 (fun _ => ByteArray.empty))
  else if k = 11 then
    let s := ctxV rec nm b (min b.m b.n) (min m n)
    judgeV a b (s.1 && min b.m b.n == s.2.2.length) s.2.1 (ctxT s.2.2)
  else if k = 13 then
    if n - 1 ≠ b.n - 1 then judgeV a b false false (T.of 14)
    else
      let g := if n = 0 then vz b.gives else rec (n - 1) b.gives
      let s := funV rec b g (n - 1)
      judgeV a b s.1 s.2 (T.of 14)
  else ⟨true, true, b⟩
/-- The verdict of two types. -/
def vd : T → T → V
  | .z, b => ⟨true, true, b⟩
  | .mk k n it m nm, b => vstep k n m nm (fun i => vd (it i)) (.mk k n it m nm) b
theorem vd_mk (k : Int) (n : Nat) (it : Nat → T) (m : Nat) (nm : Nat → ByteArray) (b : T) : vd (.mk k n it m nm) b = vstep k n m nm (fun i => vd (it i)) (.mk k n it m nm) b := rfl
theorem vd_zero (b : T) : vd T.zero b = vz b := by
  unfold T.zero
  rw [vd_mk]
  unfold vstep vz
  split
  · rfl
  · rw [if_neg (by decide), if_neg (by decide), if_neg (by decide)]
theorem ctxV_len (rec : Nat → T → V) (nm : Nat → ByteArray) (b : T) (nb : Nat) : ∀ i, (ctxV rec nm b nb i).2.2.length ≤ i
  | 0 => Nat.le_refl _
  | i + 1 => by
    unfold ctxV
    have := ctxV_len rec nm b nb i
    simp only
    split
    · simp only [List.length_append, List.length_cons, List.length_nil]; omega
    · show (ctxV rec nm b nb i).2.2.length ≤ i + 1; omega
/-- A call answers a verdict. -/
def RetV (S : Nat → Prop) (v : V) (w : World) (e : Ending) (w' : World) : Prop := ∃ (k : Int) (a : Option Addr) (n c : Nat) (b : Option Addr) (m d : Nat), e = .returned (VV v.there v.back k a n c b m d) ∧ Lies S w' (TV k a n c b m d) v.join ∧ Below w.heap.size w w'
/-- hold comes to the verdict, of this type and any other one. -/
def HoldsFor (t : T) : Prop := ∀ (u : T) (S : Nat → Prop) (w : World) (k : Int) (a : Option Addr) (n c : Nat) (b : Option Addr) (m d : Nat) (k' : Int) (a' : Option Addr) (n' c' : Nat) (b' : Option Addr) (m' d' : Nat), Lies S w (TV k a n c b m d) t → Lies S w (TV k' a' n' c' b' m' d') u →
  Calls Try.prog 34 #[TV k a n c b m d, TV k' a' n' c' b' m' d'] w (RetV (Sn S w) (vd t u) w)
end Go.Proofs.Ytielmfchbgajnaa

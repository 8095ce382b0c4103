/-
  The order of two numbers (cmpSizes, Cmp of package dec), each as a contract of its call.
-/
import Derived.Test.YtkkddflclakphaaDoorSc
import Derived.Test.YtkkddflclakphaaDoorE4
namespace Go.Proofs.YtkkddflclakphaaDoor
open Go.RowKit

/-- The sizes of two numbers, the exponent of the first one being not lower. -/
def csz (ca : Nat) (ea : Int) (cb : Nat) (eb : Int) : Int := if 38 < ea - eb then 1 else cmpN (ca * 10 ^ (ea - eb).toNat) cb

def csz2 (ca : Nat) (ea : Int) (cb : Nat) (eb : Int) : Int := if ea < eb then -csz cb eb ca ea else csz ca ea cb eb
theorem csz_range (ca : Nat) (ea : Int) (cb : Nat) (eb : Int) : -1 ≤ csz ca ea cb eb ∧ csz ca ea cb eb ≤ 1 := by
  unfold csz
  split
  · omega
  · rcases cmpN_range (ca * 10 ^ (ea - eb).toNat) cb with ⟨e, _⟩ | ⟨e, _⟩ | ⟨e, _⟩ <;> rw [e] <;> omega
theorem csz2_range (ca : Nat) (ea : Int) (cb : Nat) (eb : Int) : -1 ≤ csz2 ca ea cb eb ∧ csz2 ca ea cb eb ≤ 1 := by
  have a := csz_range ca ea cb eb
  have b := csz_range cb eb ca ea
  unfold csz2
  split <;> omega

/-- What Cmp answers. -/
def cmpD (na : Bool) (ca : Nat) (ea : Int) (nb : Bool) (cb : Nat) (eb : Int) : Int := if sgn na ca = sgn nb cb then sgn na ca * csz2 ca ea cb eb else Lib.compareInt (sgn na ca) (sgn nb cb)
theorem sgn_range (n : Bool) (c : Nat) : -1 ≤ sgn n c ∧ sgn n c ≤ 1 := by unfold sgn; split <;> (try split) <;> omega

end Go.Proofs.YtkkddflclakphaaDoor

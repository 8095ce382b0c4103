/-
  What awake needs of package wide: a quotient by a word, 10 to the 38, and how many digits that has, each as a contract of its call.
-/
import Derived.Test.YtncpdoeikebomaaDoorH
import Derived.Test.YtncpdoeikebomaaDoorF
namespace Go.Proofs.YtncpdoeikebomaaDoor
open Go.RowKit

def RetUUB (F : Nat → Nat → Nat → Nat → Prop) (b : Bool) (w : World) (e : Ending) (w' : World) : Prop :=
  ∃ h l h' l' : Nat, F h l h' l' ∧ e = .returned (.tuple #[U h l, U h' l', .bool b]) ∧ Below w.heap.size w w'

/-- What a quotient of 128 bits is. -/
def QuoF (hh hl lh ll dh dl h l h' l' : Nat) : Prop := WW h l ∧ WW h' l' ∧ nv h' l' < nv dh dl ∧ nv h l * nv dh dl + nv h' l' = nv2 hh hl lh ll

theorem quoF_low {hh hl lh ll x h l h' l' r : Nat} (hx : x < 18446744073709551616) (k : nv hh hl < x) (f : DivWordF hh hl lh ll x h l h' l' r) (h2 : WW lh ll) : QuoF hh hl lh ll 0 x h' l' 0 r := by
  obtain ⟨f1, f2, f3, f4⟩ := f
  have e : nv 0 x = x := by simp [nv]
  have er : nv 0 r = r := by simp [nv]
  refine ⟨f2, ⟨by decide, by omega⟩, by rw [e, er]; exact f3, ?_⟩
  have hq : nv h l = 0 := by
    rcases Nat.eq_zero_or_pos (nv h l) with z | z
    · exact z
    · exfalso
      have a1 := nv_lt h2
      have a2 : B128 ≤ nv h l * B128 := Nat.le_mul_of_pos_left _ z
      have a3 : nv hh hl + 1 ≤ x := k
      have a4 := Nat.mul_le_mul_right B128 a3
      have a5 : B128 * x ≤ nv2 h l h' l' * x := Nat.mul_le_mul_right x (by unfold nv2; omega)
      rw [Nat.mul_comm B128 x] at a5
      unfold nv2 at f4 a5
      rw [Nat.add_mul, Nat.one_mul] at a4
      generalize (nv h l * B128 + nv h' l') * x = A at *
      generalize nv hh hl * B128 = C at *
      generalize x * B128 = E at *
      omega
  rw [e, er]
  unfold nv2 at f4 ⊢
  rw [hq, Nat.zero_mul, Nat.zero_add] at f4
  exact f4

theorem ret_uu0 (h l r : Nat) : Value.tuple #[U h l, .agg #[.int .u64 0, .int .u64 (r : Int)], .bool true] = Value.tuple #[U h l, U 0 r, .bool true] := rfl

set_option maxHeartbeats 1000000 in
theorem div_low (hh hl lh ll x : Nat) (h1 : WW hh hl) (h2 : WW lh ll) (hx : x < 18446744073709551616) (k : nv hh hl < x) (w : World) :
    Calls Tryd.prog 32 #[U hh hl, U lh ll, .agg #[.int .u64 0, .int .u64 (x : Int)]] w (RetUUB (QuoF hh hl lh ll 0 x) true w) := by
  have C := cmp_any hh hl 0 x h1 ⟨by decide, hx⟩
  rw [cmpN_lt (by simpa [nv] using k : nv hh hl < nv 0 x)] at C
  have HC := Lib.hid C
  clear C
  go_enter Tryd.func32, Tryd.ntmps32
  go_wp2_with fail
  refine (HC.out _).mono ?_
  rintro e w1 ⟨rfl, hb1⟩
  have Hb1 : Below w.heap.size w w1 := bstep (by go_grown) hb1
  obtain ⟨z0, z1, z2, z3, z4⟩ : w.heap.size < w1.heap.size ∧ w.heap.size + 1 < w1.heap.size ∧ w.heap.size + 1 + 1 < w1.heap.size ∧ w.heap.size + 1 + 1 + 1 < w1.heap.size ∧ w.heap.size + 1 + 1 + 1 + 1 < w1.heap.size := by have := hb1.size; simp at this; omega
  obtain ⟨hc, hf⟩ := bcell hb1
  clear hb1 HC
  go_wp2_with fail
  refine (divWord_any hh hl lh ll x h1 h2 (by omega) hx _).mono ?_
  rintro e w2 ⟨h, l, h', l', r, F, rfl, hb2⟩
  have Hb2 : Below w.heap.size w w2 := bstep Hb1 hb2
  obtain ⟨x0, x1, x2, x3, x4⟩ : w.heap.size < w2.heap.size ∧ w.heap.size + 1 < w2.heap.size ∧ w.heap.size + 1 + 1 < w2.heap.size ∧ w.heap.size + 1 + 1 + 1 < w2.heap.size ∧ w.heap.size + 1 + 1 + 1 + 1 < w2.heap.size := by have := hb2.size; omega
  have G3 := Lib.hid (Holds2.below (by simp [Holds2, go_sem, *]) hb2 : Holds2 w2 (w.heap.size + 1 + 1 + 1) 0 0)
  have G4 := Lib.hid (Holds2.below (by simp [Holds2, go_sem, *]) hb2 : Holds2 w2 (w.heap.size + 1 + 1 + 1 + 1) 0 0)
  clear hb2 hc hf
  obtain ⟨a1, a2, a3, a4, a5⟩ := G3.out
  obtain ⟨b1, b2, b3, b4, b5⟩ := G4.out
  obtain ⟨y0, y1⟩ : w.heap.size + 1 + 1 + 1 < w2.heap.size + 1 ∧ w.heap.size + 1 + 1 + 1 + 1 < w2.heap.size + 1 := by omega
  obtain ⟨y2, y3⟩ : w.heap.size + 1 + 1 + 1 < w2.heap.size + 1 + 1 ∧ w.heap.size + 1 + 1 + 1 + 1 < w2.heap.size + 1 + 1 := by omega
  go_wp2
  go_region_held3 (fun w' => w'.cell? ⟨w2.heap.size + 1, 0, none⟩ = some (.int .u64 (h' : Int)) ∧ w'.cell? ⟨w2.heap.size + 1, 1, none⟩ = some (.int .u64 (l' : Int))) (simp [go_sem, *])
    (first | (go_at_call 59; refine (of_any r _).mono ?_; rintro e w' ⟨rfl, o1, rfl⟩))
  all_goals
    go_wp2
    refine bodyPost_ret (v := .tuple #[U h' l', U 0 r, .bool true]) (by simp [results, Tryd.results32, go_sem, *]) rfl ⟨_, _, _, _, quoF_low hx k F h2, rfl, ?_⟩
    clear a1 a2 a3 a4 a5 b1 b2 b3 b4 b5 G3 G4
    go_grown
end Go.Proofs.YtncpdoeikebomaaDoor

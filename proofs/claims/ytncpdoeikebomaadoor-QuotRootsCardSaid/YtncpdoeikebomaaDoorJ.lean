/-
  What awake needs of package wide: 10 to the 38, and how many digits that has, each as a contract of its call.
-/
import Derived.Test.YtncpdoeikebomaaDoorI
namespace Go.Proofs.YtncpdoeikebomaaDoor
open Go.RowKit

theorem len_any (x : Nat) (h : x < 18446744073709551616) (w : World) : Calls Tryd.prog 97 #[.int .u64 (x : Int)] w fun e w' => e = .returned (.int .i64 (Lib.bitLen x : Int)) ∧ w = w' := by
  refine (Tryd.bits_Len64 (x : Int) w (by omega) (by omega)).mono fun e w' ⟨a, b⟩ => ⟨?_, b.symm⟩
  rw [a, Int.toNat_natCast]

def bl2 (h l : Nat) : Nat := if h = 0 then Lib.bitLen l else 64 + Lib.bitLen h

set_option maxHeartbeats 400000 in
theorem bitLength_any (h l : Nat) (ha : WW h l) (w : World) : Calls Tryd.prog 103 #[U h l] w (RetI (bl2 h l : Int) w) := by
  obtain ⟨a1, a2⟩ := ha
  by_cases h0 : h = 0
  · subst h0
    rw [show bl2 0 l = Lib.bitLen l from rfl]
    go_enter Tryd.func103, Tryd.ntmps103
    go_wp2_with fail
    refine (len_any l a2 _).mono ?_
    rintro e w1 ⟨rfl, rfl⟩
    go_wp2
    go_ret
    exact ⟨rfl, by go_grown⟩
  · rw [show bl2 h l = 64 + Lib.bitLen h from if_neg h0]
    have b : Lib.bitLen h ≤ 64 := Lib.bitLen_le h 64 (Nat.le_refl _) (by simpa using a1)
    have t : ((h : Int) != 0) = true := by simp; omega
    go_enter Tryd.func103, Tryd.ntmps103
    go_wp2_with fail
    refine (len_any h a1 _).mono ?_
    generalize Lib.bitLen h = n at *
    rintro e w1 ⟨rfl, rfl⟩
    go_wp2
    go_ret
    exact ⟨congrArg Ending.returned (int_eq (by omega)), by go_grown⟩

/-- The table of the powers of ten lies where it was laid. -/
def Tab (w : World) : Prop := 0 < w.heap.size ∧ ∀ k : Nat, k < 20 → w.cell? ⟨0, k, none⟩ = some (.int .u64 ((10 ^ k : Nat) : Int))
theorem Tab.below {w w' : World} (h : Tab w) (hb : Below w.heap.size w w') : Tab w' :=
  ⟨Nat.lt_of_lt_of_le h.1 hb.size, fun k hk => (hb.cell (p := ⟨0, k, none⟩) h.1).trans (h.2 k hk)⟩

def ten38h : Nat := 5421010862427522170
def ten38l : Nat := 687399551400673280

theorem bundrew {W w1 : World} (h : Below W.drew.heap.size W.drew w1) : Below W.heap.size W w1 := ⟨h.os, h.tape, h.output, h.size, h.block⟩
theorem nn3 {a b : Nat} (h : a + 1 + 1 + 1 ≤ b) : a < b ∧ a + 1 < b ∧ a + 1 + 1 < b ∧ a < b + 1 ∧ a + 1 < b + 1 ∧ a + 1 + 1 < b + 1 ∧ 0 < b ∧ 0 < b + 1 := by omega
theorem nn2 {a b : Nat} (h : a + 1 + 1 ≤ b) : a < b ∧ a + 1 < b ∧ True ∧ a < b + 1 ∧ a + 1 < b + 1 ∧ True ∧ 0 < b ∧ 0 < b + 1 := ⟨by omega, by omega, trivial, by omega, by omega, trivial, by omega, by omega⟩
theorem ten38_val {o h l : Nat} (m : MulWordF 0 10000000000000000000 10000000000000000000 o h l) : h = ten38h ∧ l = ten38l := by
  obtain ⟨m1, ⟨m2, m3⟩, m4⟩ := m
  unfold nv B128 at m4
  unfold ten38h ten38l
  omega
set_option maxHeartbeats 1000000 in
theorem ten38_any (w : World) (ht : Tab w) : Calls Tryd.prog 31 #[.int .i64 38] w fun e w' => e = .returned (.tuple #[U ten38h ten38l, .bool true]) ∧ Below w.heap.size w w' := by
  obtain ⟨h0, h1⟩ := ht
  have c19 : w.cell? ⟨0, 19, none⟩ = some (.int .u64 10000000000000000000) := h1 19 (by decide)
  have hM := fun W => mulWord_any 0 10000000000000000000 10000000000000000000 ⟨by decide, by decide⟩ (by decide) W
  have HM := Lib.hid hM
  clear h1 hM
  have e19 : IntKind.i64.wrap 19 = 19 := by decide
  have z1 : 0 < w.heap.size + 1 := by omega
  have y0 : w.heap.size < w.heap.size + 1 + 1 := by omega
  have y1 : w.heap.size < w.heap.size + 1 + 1 + 1 := by omega
  have y2 : w.heap.size + 1 < w.heap.size + 1 + 1 + 1 := by omega
  have z2 : 0 < w.heap.size + 1 + 1 := by omega
  have z3 : 0 < w.heap.size + 1 + 1 + 1 := by omega
  go_enter Tryd.func31, Tryd.ntmps31
  go_wp2
  go_region_held3 (fun w' => w'.cell? ⟨0, 19, none⟩ = some (.int .u64 10000000000000000000)) (simp [go_sem, *])
    (first
      | (go_at_call 59; refine (of_any 10000000000000000000 _).mono ?_; rintro e w' ⟨rfl, o1, rfl⟩)
      | (go_at_call 66; refine (HM.out _).mono ?_; rintro e w3 ⟨o, h, l, M, rfl, hb3⟩; obtain ⟨hc3, hf3⟩ := bcell (bundrew hb3); have Hb3 : Below w.heap.size w w3 := bstep (by go_grown) hb3; have sz := hb3.size; simp only [World.size_alloc, World.size_drew] at sz; first | obtain ⟨u1, u2, u3, u4, u5, u6, u7, u8⟩ := nn3 sz | obtain ⟨u1, u2, u3, u4, u5, u6, u7, u8⟩ := nn2 sz))
  all_goals
    go_wp2
    obtain ⟨rfl, rfl⟩ := ten38_val M
    refine bodyPost_ret (v := .tuple #[U ten38h ten38l, .bool true]) (by simp [results, Tryd.results31, go_sem, *]) rfl ⟨rfl, ?_⟩
    clear hc3 hf3
    go_grown
end Go.Proofs.YtncpdoeikebomaaDoor

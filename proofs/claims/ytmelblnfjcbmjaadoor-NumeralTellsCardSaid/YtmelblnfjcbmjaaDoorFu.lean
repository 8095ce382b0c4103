/-
  strconv.FormatUint at base 10, as a contract of its call: the decimal numeral.
-/
import Derived.Test.YtmelblnfjcbmjaaDoorSh2
import Derived.Test.YtmelblnfjcbmjaaDoorB
import Derived.Lib.AppendIntMem
import Derived.Lib.LaidTab
import Derived.BigCall
import Derived.BigGuard
namespace Go.Proofs.YtmelblnfjcbmjaaDoor
open Go.RowKit Go.Sort

/-- The table of strconv lies where it was laid. -/
def Tab2 (w : World) : Prop := Lib.TabIs Tryd.prog w "internal/strconv.uint64pow10" .u64 Lib.pow10Tab

theorem gTab2 : Tryd.prog.globalNamed "internal/strconv.uint64pow10" = some 3 := by kernel_rfl
theorem Tab2.below {w w' : World} (h : Tab2 w) (hb : Below w.heap.size w w') : Tab2 w' := by
  unfold Tab2 Lib.TabIs World.var? at *
  rw [gTab2] at *
  simp only [Option.bind_some] at *
  have lt : 3 < w.heap.size := by
    rcases Nat.lt_or_ge 3 w.heap.size with x | x
    · exact x
    · rw [Array.getElem?_eq_none x] at h; cases h
  rw [hb.block _ lt]
  exact h

theorem below_grow {w : World} {k : Nat} {os : Array Obj} {w' : World} (e : w' = grow (w.drewN k) os) : Below w.heap.size w w' := by
  subst e
  exact ⟨rfl, rfl, rfl, by simp [grow], fun i hi => by simp [grow, hi, Array.getElem?_append]⟩

def RetS (l : List UInt8) (w : World) (e : Ending) (w' : World) : Prop := e = .returned (.string ⟨l.toArray⟩) ∧ Below w.heap.size w w'

set_option maxHeartbeats 6400000 in
set_option maxRecDepth 100000 in
theorem formatUintIn_any (u : Nat) (hu64 : u < 18446744073709551616) (w : World) (ht : Tab2 w) :
    Calls Tryd.prog 111 #[.int .u64 (u : Int), .int .i64 10] w (RetS (Lib.decDigits u) w) := by
  rcases Nat.lt_or_ge u 100 with hs | hs
  · have t1 : decide (u < 100) = true := by simpa using hs
    have t2 : IntKind.i64.wrap (u : Int) = (u : Int) := by rw [IntKind.wrap_i64]; omega
    go_enter Tryd.func111, Tryd.ntmps111
    go_wp2_with fail
    refine (Tryd.internal_strconv_small u hs _).mono ?_
    rintro e w' ⟨rfl, rfl⟩
    go_wp2
    go_ret
    exact ⟨rfl, Below.refl _ _⟩
  · have t1 : decide (u < 100) = false := by simp; omega
    have hu1 : 1 ≤ u := by omega
    have hnd20 : Lib.nDigits u ≤ 20 := by have := Lib.numDigits_eq u hu1 hu64; split at this <;> omega
    have hal : Tryd.prog.arrayLen 155 = 24 := by kernel_rfl
    have hsl1 : ∀ W, (Instr.sliceAt 155 (.pointer (some ⟨w.heap.size, 0, none⟩)) none (some (.int .i64 (Lib.nDigits u : Int))) none).run Tryd.prog W = .ok (.slice (some ⟨w.heap.size, 0, none⟩) (Lib.nDigits u) 24) W := fun W => by
      rw [run_sliceAt_array_h W 155 ⟨w.heap.size, 0, none⟩ (by kernel_rfl) .i64 (Lib.nDigits u : Int) (by omega) (by rw [hal]; omega)]
      have he : Tryd.prog.elem 155 = 5 := by kernel_rfl
      rw [hal, he]
      have hz := Tryd.sizeOf5
      go_simp
    have hH0 := Lib.holds_zero0 w 155 (Lib.nDigits u) (by omega)
    have hfmt := Tryd.internal_strconv_formatBase10 w.heap.size 0 24 u (Array.replicate (Lib.nDigits u) 0) (w.alloc (.cells Lib.zeros24 155)) hH0 (by rw [Array.size_replicate]; exact Lib.lt_pow_nDigits u) hu64 (by rw [Array.size_replicate]; omega)
    rw [Array.size_replicate] at hfmt
    have HH0 := Lib.hid hH0
    clear hH0 hal
    go_enter Tryd.func111, Tryd.ntmps111
    go_wp2_with fail
    refine (Tryd.internal_strconv_numDigits u hu1 hu64 _ (Lib.tabIs_alloc ht _)).mono ?_
    rintro e w' ⟨rfl, rfl⟩
    go_wp2_with fail
    refine hfmt.mono ?_
    rintro e w' ⟨rfl, k, v', dk, rfl, hF⟩
    have hcv : (convert 125 9 (.slice (some ⟨w.heap.size, 0, none⟩) (Lib.nDigits u) 24)).run Tryd.prog ((putRow (fun (b : UInt8) => Value.int .u8 (b.toNat : Int)) (w.alloc (.cells Lib.zeros24 155)) w.heap.size 0 dk).drewN k) = .ok (.string ⟨(Lib.decDigits u).toArray⟩) ((putRow (fun (b : UInt8) => Value.int .u8 (b.toNat : Int)) (w.alloc (.cells Lib.zeros24 155)) w.heap.size 0 dk).drewN k) := by
      have h := run_convert_bytes_back (P := Tryd.prog) ((putRow (fun (b : UInt8) => Value.int .u8 (b.toNat : Int)) (w.alloc (.cells Lib.zeros24 155)) w.heap.size 0 dk).drewN k) 125 9 5 ⟨w.heap.size, 0, none⟩ 24 (Lib.decDigits u) Tryd.underlying125 Tryd.underlying5 Tryd.underlying9 (fun j hj => by
        rw [Lib.row_is_numeral hF j hj, Lib.add_plain, World.cell?_drewN]
        exact cell?_putRow (fun (b : UInt8) => Value.int .u8 (b.toNat : Int)) _ w.heap.size 0 _ dk HH0.out (by rw [hF.size, Array.size_replicate]) j (by rw [hF.size]; rw [Lib.decDigits_length] at hj; exact hj))
      rw [Lib.decDigits_length] at h
      exact h
    go_wp2
    go_ret
    obtain ⟨os, eo⟩ := Lib.fin_at w (.cells Lib.zeros24 155) dk k 0
    exact ⟨rfl, below_grow eo⟩

set_option maxHeartbeats 400000 in
theorem formatUint_any (u : Nat) (hu64 : u < 18446744073709551616) (w : World) (ht : Tab2 w) :
    Calls Tryd.prog 79 #[.int .u64 (u : Int), .int .i64 10] w (RetS (Lib.decDigits u) w) := by
  have HF := Lib.hid (formatUintIn_any u hu64 w ht)
  clear ht hu64
  go_enter Tryd.func79, Tryd.ntmps79
  go_wp2_with fail
  refine (HF.out).mono ?_
  rintro e w' ⟨rfl, hb⟩
  go_wp2
  go_ret
  exact ⟨rfl, hb⟩
end Go.Proofs.YtmelblnfjcbmjaaDoor

/-
  Types: at which place each name stands (places), as a map.
-/
import Derived.Test.YtielmfchbgajnaaJa
namespace Go.Proofs.Ytielmfchbgajnaa
open Go.RowKit Go.Maps Go.WideMaps

/-- Names lie in a slice. -/
def Row1 (w : World) (b : Option Addr) (r : Nat) (nm : Nat → ByteArray) : Prop := ∀ i, i < r → ∃ g o, b = some ⟨g, o, none⟩ ∧ w.cell? ⟨g, o + i, none⟩ = some (.string (nm i)) ∧ g < w.heap.size ∧ Short (nm i)
theorem Row1.on {w w' : World} {b : Option Addr} {r : Nat} {nm : Nat → ByteArray} (h : Row1 w b r nm) (hb : Below w.heap.size w w') : Row1 w' b r nm := fun i hi => by
  obtain ⟨g, o, e, q, s, t⟩ := h i hi
  exact ⟨g, o, e, cell_below q hb, Nat.lt_of_lt_of_le s hb.size, t⟩
theorem Row1.less {w : World} {b : Option Addr} {r r' : Nat} {nm : Nat → ByteArray} (h : Row1 w b r nm) (hr : r' ≤ r) : Row1 w b r' nm := fun i hi => h i (Nat.lt_of_lt_of_le hi hr)
theorem Lies.row1 {S : Nat → Prop} {w : World} {k : Int} {a : Option Addr} {n c : Nat} {b : Option Addr} {m d : Nat} {t : T} (h : Lies S w (TV k a n c b m d) t) : Row1 w b m t.nm := fun i hi => h.name i hi

abbrev key (s : ByteArray) : Lit := .string s.data.toList
theorem key_inj {s t : ByteArray} (h : key s = key t) : s = t := by
  have : s.data.toList = t.data.toList := by injection h
  exact ByteArray.ext (Array.toList_inj.1 this)
theorem isKey (s : ByteArray) : WideAt.IsKeyLit (key s) := trivial
/-- The last of so many places at which a name stands. -/
def placesD (nm : Nat → ByteArray) : Nat → DataW Unit
  | 0 => .map []
  | i + 1 => (placesD nm i).put (key (nm i)) (.lit (.int .i64 (i : Int)))
/-- Does a name stand at one of so many places? -/
def hasN (nm : Nat → ByteArray) (s : ByteArray) : Nat → Bool
  | 0 => false
  | i + 1 => if nm i = s then true else hasN nm s i
/-- At which one last. -/
def lastN (nm : Nat → ByteArray) (s : ByteArray) : Nat → Nat
  | 0 => 0
  | i + 1 => if nm i = s then i else lastN nm s i
/-- How many different ones there are. -/
def sizeN (nm : Nat → ByteArray) : Nat → Nat
  | 0 => 0
  | i + 1 => if hasN nm (nm i) i then sizeN nm i else sizeN nm i + 1
theorem placesD_tidy (nm : Nat → ByteArray) : ∀ i, Tidy (placesD nm i)
  | 0 => tidy_empty
  | i + 1 => (placesD_tidy nm i).put (isKey _) _
theorem placesD_has (nm : Nat → ByteArray) (s : ByteArray) : ∀ i, Maps.has (placesD nm i) (key s) = hasN nm s i
  | 0 => rfl
  | i + 1 => by
    unfold placesD hasN
    by_cases e : nm i = s
    · rw [if_pos e, e, has_put_same (placesD_tidy nm i).isMap (isKey _)]
    · rw [if_neg e, has_put_other (fun q => e (key_inj q).symm), placesD_has nm s i]
theorem placesD_at (nm : Nat → ByteArray) (s : ByteArray) : ∀ i, (placesD nm i).atKey (key s) (.lit (.int .i64 0)) = .lit (.int .i64 (lastN nm s i : Nat))
  | 0 => rfl
  | i + 1 => by
    unfold placesD lastN
    by_cases e : nm i = s
    · rw [if_pos e, e, atKey_put_same (placesD_tidy nm i).isMap (isKey _)]
    · rw [if_neg e, atKey_put_other (fun q => e (key_inj q).symm), placesD_at nm s i]
theorem placesD_size (nm : Nat → ByteArray) : ∀ i, Maps.size (placesD nm i) = sizeN nm i
  | 0 => rfl
  | i + 1 => by
    unfold placesD sizeN
    rw [size_put (placesD_tidy nm i), placesD_has nm (nm i) i, placesD_size nm i]
theorem hasN_iff (nm : Nat → ByteArray) (s : ByteArray) : ∀ i, hasN nm s i = true ↔ ∃ j, j < i ∧ nm j = s
  | 0 => by simp [hasN]
  | i + 1 => by
    unfold hasN
    by_cases e : nm i = s
    · simp only [if_pos e, true_iff]; exact ⟨i, Nat.lt_succ_self i, e⟩
    · rw [if_neg e, hasN_iff nm s i]
      constructor
      · rintro ⟨j, h, q⟩; exact ⟨j, Nat.lt_succ_of_lt h, q⟩
      · rintro ⟨j, h, q⟩
        refine ⟨j, ?_, q⟩
        have : j ≠ i := fun z => e (z ▸ q)
        omega
theorem lastN_spec (nm : Nat → ByteArray) (s : ByteArray) : ∀ i, hasN nm s i = true → lastN nm s i < i ∧ nm (lastN nm s i) = s
  | 0 => by simp [hasN]
  | i + 1 => by
    unfold hasN lastN
    by_cases e : nm i = s
    · simp [e]
    · rw [if_neg e, if_neg e]
      intro h
      have := lastN_spec nm s i h
      exact ⟨Nat.lt_succ_of_lt this.1, this.2⟩
theorem lastN_le (nm : Nat → ByteArray) (s : ByteArray) : ∀ i, lastN nm s i ≤ i
  | 0 => Nat.le_refl _
  | i + 1 => by
    unfold lastN
    split
    · exact Nat.le_succ i
    · exact Nat.le_succ_of_le (lastN_le nm s i)
theorem sizeN_le (nm : Nat → ByteArray) : ∀ i, sizeN nm i ≤ i
  | 0 => Nat.le_refl _
  | i + 1 => by
    unfold sizeN
    have := sizeN_le nm i
    split <;> omega
/-- No name stands twice just if there are as many different ones. -/
theorem sizeN_eq (nm : Nat → ByteArray) : ∀ i, sizeN nm i = i ↔ ∀ j k, j < k → k < i → nm j ≠ nm k
  | 0 => by simp [sizeN]
  | i + 1 => by
    unfold sizeN
    have hle := sizeN_le nm i
    cases hh : hasN nm (nm i) i with
    | true =>
      obtain ⟨j, hj, e⟩ := (hasN_iff nm (nm i) i).1 hh
      simp only [if_true]
      constructor
      · intro q; omega
      · intro q; exact absurd e (q j i hj (Nat.lt_succ_self i))
    | false =>
      simp only [Bool.false_eq_true, if_false, Nat.add_right_cancel_iff, sizeN_eq nm i]
      constructor
      · intro q j k hj hk
        by_cases e : k = i
        · subst e
          intro z
          have := (hasN_iff nm (nm k) k).2 ⟨j, hj, z⟩
          rw [hh] at this
          exact absurd this (by decide)
        · exact q j k hj (by omega)
      · intro q j k hj hk
        exact q j k hj (by omega)

theorem keyed9 : Keyed Try.prog 9 := string_keyed Try.underlying9
theorem zero3 (w : World) : (zeroValue 3).run Try.prog w = .ok (.int .i64 0) w := by kernel_rfl
theorem short_key {s : ByteArray} (h : Short s) : keyOf Try.prog 9 (.string s) = some (key s) := keyOf_string_mk Try.underlying9 (by unfold Short at h; unfold maxLen; omega)
theorem run_makeMap_some (w : World) (i : Int) : (Instr.makeMap 71 (some (.int .i64 i))).run Try.prog w = .ok (.map (some w.heap.size)) (w.alloc (.map #[] 0)) := by
  simp [Instr.makeMap, run_underlying Try.underlying71, asInt, go_sem, Result.andThen]
/-- A map of a call's own holds at which places so many names stand. -/
def PlacesIn (w : World) (B r : Nat) (nm : Nat → ByteArray) : Prop := w.ownsMap Try.prog 9 (plainElem (H := Unit) Try.prog 3) B r (placesD nm r)
set_option maxRecDepth 100000 in
theorem places_walk (b : Option Addr) (r d : Nat) (nm : Nat → ByteArray) (w : World) (hr : Few 0 r) (h : Row1 w b r nm) :
    Calls Try.prog 58 #[.slice b r d] w fun e w' => e = .returned (.map (some w.heap.size)) ∧ PlacesIn w' w.heap.size r nm ∧ Below w.heap.size w w' := by
  have hmm := run_makeMap_some
  have HR := Lib.hid hr.2
  have HN := Lib.hid h
  clear hr h
  go_enter Try.func58, Try.ntmps58
  go_wp2
  go_loopw [11] (fun i wr => ∃ k : Nat, k ≤ r ∧ i = .int .i64 k ∧ PlacesIn wr w.heap.size k nm ∧ Below w.heap.size w wr)
    (fun i _ => r - (intOf i).toNat)
  case atStart => exact ⟨0, Nat.zero_le _, rfl, World.ownsMap_made _ _ _ _, (Below.refl _ _).alloc (Nat.le_refl _) _⟩
  case round =>
    obtain ⟨k, hk, rfl, hown, hnx⟩ := hrel
    by_cases hlt : k < r
    · obtain ⟨g, o, rfl, hc, hg, hs⟩ := (HN.out.on hnx) k hlt
      have hkey := short_key hs
      obtain ⟨s, hs'⟩ : ∃ s, s = nm k := ⟨_, rfl⟩
      rw [← hs'] at hc hkey
      have KB : (k : Int) + 1 ≤ 9223372036854775807 := by have := HR.out; omega
      have HS := Lib.hid hs'
      clear hs hs'
      go_wp2_with (first
        | (at_mapUpdate; refine wpList_mapUpdate_own _ rfl _ _ _ 71 rfl 9 3 keyed9 Try.underlying71 _ w.heap.size k _ rfl hown (by have := HR.out; unfold maxLen; omega) _ _ _ rfl rfl hkey _ [] (plainElem_int Try.underlying3 (WalkArith.wf_i64 (by omega))) ?_)
        | go_in)
      intro w1 hown1 hgrow1
      have R1 : PlacesIn w1 w.heap.size (k + 1) nm := by
        unfold PlacesIn placesD
        rw [← HS.out]
        exact hown1
      have R2 := hnx.grown hgrow1 hnx.size (fun j hj => by cases hj; exact Nat.le_refl _)
      clear hown1 hgrow1 hown hc hkey
      go_wp2
      go_roundw
      case rel => exact ⟨k + 1, by omega, by go_num, R1, R2⟩
      case measure => simp [intOf]; omega
    · have : k = r := by omega
      subst this
      go_wp2
      go_ret
      exact ⟨rfl, hown, hnx⟩
end Go.Proofs.Ytielmfchbgajnaa

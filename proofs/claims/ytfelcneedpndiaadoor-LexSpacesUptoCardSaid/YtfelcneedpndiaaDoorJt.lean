/-
  writeQuoted, Quote (layer 13): a text as a string of the language, rune by rune.
-/
import Derived.Test.YtfelcneedpndiaaDoorJq
import Derived.BigCall
namespace Go.Proofs.YtfelcneedpndiaaDoor
open Go.RowKit Go.Shelf

/-- A writer answers nothing, and these bytes are behind what was there. -/
def Wrote (B b : Nat) (acc : List UInt8) (w : World) (e : Ending) (w' : World) : Prop :=
  e = .returned (.tuple #[]) ∧ Lib.IsBuilderF BT BE B b (Lib.byteCells acc) w' ∧ Below B w w' ∧ Lib.OthersKept BE (some b) w w'
theorem cells_str (s : ByteArray) : Lib.strCells s = Lib.byteCells s.data.toList := rfl
/-- WriteString, of bytes. -/
theorem ws_any (B b : Nat) (acc : List UInt8) (s : ByteArray) (w : World) (h : Lib.IsBuilderF BT BE B b (Lib.byteCells acc) w) (hlen : acc.length + s.size ≤ 140737488355328) (hBw : B ≤ w.heap.size) :
    Calls Tryd.prog 35 #[.pointer (some ⟨b, 0, none⟩), .string s] w fun e w' => e = .returned (.tuple #[.int .i64 s.size, .nilIface]) ∧ Lib.IsBuilderF BT BE B b (Lib.byteCells (acc ++ s.data.toList)) w' ∧ Below B w w' ∧ Lib.OthersKept BE (some b) w w' := by
  refine (WriteString_k B b _ s w h (by rw [Lib.byteCells_length]; exact hlen) hBw).mono ?_
  rintro e w' ⟨rfl, h1, h2, h3⟩
  refine ⟨rfl, ?_, h2, h3⟩
  rw [Lib.byteCells_append, ← cells_str]
  exact .inr h1
theorem wb_any (B b : Nat) (acc : List UInt8) (c : UInt8) (w : World) (h : Lib.IsBuilderF BT BE B b (Lib.byteCells acc) w) (hlen : acc.length + 1 ≤ 140737488355328) (hBw : B ≤ w.heap.size) :
    Calls Tryd.prog 34 #[.pointer (some ⟨b, 0, none⟩), .int .u8 c.toNat] w fun e w' => e = .returned .nilIface ∧ Lib.IsBuilderF BT BE B b (Lib.byteCells (acc ++ [c])) w' ∧ Below B w w' ∧ Lib.OthersKept BE (some b) w w' := by
  refine (WriteByte_k B b _ c.toNat w h (by rw [Lib.byteCells_length]; exact hlen) hBw).mono ?_
  rintro e w' ⟨rfl, h1, h2, h3⟩
  refine ⟨rfl, ?_, h2, h3⟩
  rw [Lib.byteCells_append]
  exact .inr h1
theorem wr_any (B b : Nat) (acc : List UInt8) (r : Nat) (hr : r ≤ 2147483647) (w : World) (h : Lib.IsBuilderF BT BE B b (Lib.byteCells acc) w) (hlen : acc.length + 4 ≤ 140737488355328) (hBw : B ≤ w.heap.size) :
    Calls Tryd.prog 36 #[.pointer (some ⟨b, 0, none⟩), .int .i32 (r : Int)] w fun e w' => e = .returned (.tuple #[.int .i64 (Lib.runeCells r).length, .nilIface]) ∧ Lib.IsBuilderF BT BE B b (Lib.byteCells (acc ++ Lib.encodeRune r)) w' ∧ Below B w w' ∧ Lib.OthersKept BE (some b) w w' := by
  refine (WriteRune_k B b _ r (by omega) (by omega) w h (by rw [Lib.byteCells_length]; exact hlen) hBw).mono ?_
  rintro e w' ⟨rfl, h1, h2, h3⟩
  refine ⟨rfl, ?_, h2, h3⟩
  rw [Lib.byteCells_append, Lib.byteCells_encodeRune]
  exact .inr h1

/-- A rune within a string of the language. -/
def escR (r : Nat) : List UInt8 := if r = 10 then [92, 110] else if r = 13 then [92, 114] else if r = 9 then [92, 116] else if r = 92 ∨ r = 34 then 92 :: Lib.encodeRune r else Lib.encodeRune r
/-- .. from a place on. -/
def quoteFrom (s : ByteArray) : Nat → Nat → List UInt8
  | 0, _ => []
  | fuel + 1, pos => if pos < s.size then escR (Utf8.decode s pos).1 ++ quoteFrom s fuel (pos + (Utf8.decode s pos).2) else []
/-- A text as a string of the language. -/
def quoteL (s : ByteArray) : List UInt8 := [34] ++ quoteFrom s s.size 0 ++ [34]
theorem width_pos (s : ByteArray) (pos : Nat) (h : pos < s.size) : 1 ≤ (Utf8.decode s pos).2 := by
  by_cases ha : (s[pos]'h).toNat < 128
  · rw [decode_ascii s pos h ha]
    exact Nat.le_refl _
  · exact (decode_high s pos h (by omega)).2
theorem quoteFrom_end (s : ByteArray) (fuel pos : Nat) (h : ¬ pos < s.size) : quoteFrom s fuel pos = [] := by
  cases fuel with
  | zero => rfl
  | succ f => simp [quoteFrom, h]
theorem encodeRune_le (r : Int) : (Lib.encodeRune r).length ≤ 4 := by
  have h := Lib.runeCells_le r
  rw [Lib.runeCells_length] at h
  exact h.2
theorem escR_le (r : Nat) : (escR r).length ≤ 5 := by
  have h := encodeRune_le r
  unfold escR
  repeat' split
  all_goals first
    | omega
    | (simp only [List.length_cons, List.length_nil]; omega)
theorem quoteFrom_le (s : ByteArray) : ∀ fuel pos, (quoteFrom s fuel pos).length ≤ 5 * (s.size - pos)
  | 0, _ => Nat.zero_le _
  | fuel + 1, pos => by
    unfold quoteFrom
    split
    · rename_i h
      have h1 := width_pos s pos h
      have h2 := escR_le (Utf8.decode s pos).1
      have h3 := quoteFrom_le s fuel (pos + (Utf8.decode s pos).2)
      rw [List.length_append]
      omega
    · exact Nat.zero_le _
theorem quoteL_le (s : ByteArray) : (quoteL s).length ≤ 5 * s.size + 2 := by
  have := quoteFrom_le s s.size 0
  unfold quoteL
  simp only [List.length_append, List.length_cons, List.length_nil]
  omega
theorem okept_iter {e : TypeId} {b : Option Nat} {w wr : World} (h : Lib.OthersKept e b w wr) {k : Nat} (hk : w.heap.size ≤ k) (s : ByteArray) (p : Nat) : Lib.OthersKept e b w (wr.iterAt k s p) := by
  intro i o hi hb hx
  have hlt : i < w.heap.size := (Array.getElem?_eq_some_iff.1 hi).1
  rw [Lib.iterAt_other _ _ _ _ _ (by omega)]
  exact h i o hi hb hx
theorem builder_lt {B b : Nat} {bs : List Value} {w : World} (h : Lib.IsBuilderF BT BE B b bs w) : b < w.heap.size := by
  rcases h with ⟨_, v, hb, _⟩ | ⟨_, v, hb, _⟩ <;> exact (Array.getElem?_eq_some_iff.1 hb).1
theorem builder_ge {B b : Nat} {bs : List Value} {w : World} (h : Lib.IsBuilderF BT BE B b bs w) : B ≤ b := by
  rcases h with ⟨q, _⟩ | ⟨q, _⟩ <;> exact q

set_option linter.unusedVariables false in
set_option linter.unusedSimpArgs false in
set_option maxHeartbeats 4000000 in
set_option maxRecDepth 1000000 in
/-- writeQuoted: any string. -/
theorem writeQuoted_walk (B b : Nat) (acc0 : List UInt8) (s : ByteArray) (w : World) (h : Lib.IsBuilderF BT BE B b (Lib.byteCells acc0) w) (hlen : acc0.length + 5 * s.size + 8 ≤ 140737488355328) (hBw : B ≤ w.heap.size) :
    Calls Tryd.prog 20 #[.pointer (some ⟨b, 0, none⟩), .string s] w (Wrote B b (acc0 ++ quoteL s) w) := by
  go_enter Tryd.func20, Tryd.ntmps20
  go_wp2_with (go_at_call 34; refine (wb_any B b acc0 34 w h (by omega) hBw).mono ?_)
  rintro e w1 ⟨rfl, h1, b1, k1⟩
  have hb0 := builder_lt h1
  have hbB := builder_ge h1
  have hs1 := b1.size
  go_wp2
  go_loopw [] (fun wr => ∃ (pos fuel : Nat) (acc : List UInt8), Lib.IsBuilderF BT BE B b (Lib.byteCells acc) wr ∧ wr.heap[w1.heap.size]? = some (.stringIter s pos) ∧ Below B w wr ∧ Lib.OthersKept BE (some b) w1 wr ∧ acc ++ quoteFrom s fuel pos = acc0 ++ [34] ++ quoteFrom s s.size 0 ∧ s.size ≤ pos + fuel ∧ acc.length + 5 * fuel ≤ acc0.length + 1 + 5 * s.size) (fun wr => s.size - wr.iterPos (w1.heap.size))
  case atStart =>
    refine ⟨0, s.size, acc0 ++ [34], h1.alloc _, ?_, b1.alloc (by omega) _, (Lib.OthersKept.refl _ _ _).alloc _, rfl, by omega, by simp⟩
    have := World.iter_heap w1 s 0
    simpa using this
  case round =>
    obtain ⟨pos, fuel, acc, hI, hit, hbw, hok, hacc, hfu, hal⟩ := hrel
    have hsz : w1.heap.size < wr.heap.size := (Array.getElem?_eq_some_iff.1 hit).1
    by_cases hp : pos < s.size
    · have hnx : ∀ ty, (Instr.next (.pointer (some ⟨w1.heap.size, 0, none⟩)) true ty).run Tryd.prog wr = _ := fun ty => Lib.run_next_any_at wr (w1.heap.size) s pos ty hit hp
      have hwd := width_pos s pos hp
      have hd1 := decode_le s pos
      have hI2 := hI.iterAt hit (pos + (Utf8.decode s pos).2)
      have hit2 := Lib.iterAt_heap wr (w1.heap.size) s pos (pos + (Utf8.decode s pos).2) hit
      have hbw2 := Lib.below_iterAt hbw (k := w1.heap.size) (by omega) s (pos + (Utf8.decode s pos).2)
      have hok2 := okept_iter hok (k := w1.heap.size) (Nat.le_refl _) s (pos + (Utf8.decode s pos).2)
      have hsz2 : B ≤ (wr.iterAt (w1.heap.size) s (pos + (Utf8.decode s pos).2)).heap.size := by rw [Lib.iterAt_size]; omega
      obtain ⟨f, rfl⟩ : ∃ f, fuel = f + 1 := ⟨fuel - 1, by omega⟩
      have hq : quoteFrom s (f + 1) pos = escR (Utf8.decode s pos).1 ++ quoteFrom s f (pos + (Utf8.decode s pos).2) := by simp [quoteFrom, hp]
      rw [hq] at hacc
      have hXl := escR_le (Utf8.decode s pos).1
      have hal' : acc.length + 5 * f + 5 ≤ acc0.length + 1 + 5 * s.size := by omega
      by_cases h10 : (Utf8.decode s pos).1 = 10
      · have hX : escR (Utf8.decode s pos).1 = [92, 110] := by simp [escR, *]
        go_wp2_with (go_at_call 35; refine (ws_any B b acc ⟨#[92, 110]⟩ _ hI2 (by show acc.length + 2 ≤ _; omega) hsz2).mono ?_; rintro e W1 ⟨rfl, g1, bb, k1⟩)
        go_wp2
        go_roundw
        case rel =>
          refine ⟨pos + (Utf8.decode s pos).2, f, acc ++ [92, 110], g1, k1.iter hit2 (by omega), hbw2.trans bb, hok2.trans k1, by rw [← hacc, hX]; simp, by omega, by have := hXl; rw [hX] at this; simp only [List.length_append, List.length_cons, List.length_nil] at this ⊢; omega⟩
        case measure =>
          simp only [World.iterPos, k1.iter hit2 (by omega), hit]
          omega
      · by_cases h13 : (Utf8.decode s pos).1 = 13
        · have hX : escR (Utf8.decode s pos).1 = [92, 114] := by simp [escR, *]
          go_wp2_with (go_at_call 35; refine (ws_any B b acc ⟨#[92, 114]⟩ _ hI2 (by show acc.length + 2 ≤ _; omega) hsz2).mono ?_; rintro e W1 ⟨rfl, g1, bb, k1⟩)
          go_wp2
          go_roundw
          case rel =>
            refine ⟨pos + (Utf8.decode s pos).2, f, acc ++ [92, 114], g1, k1.iter hit2 (by omega), hbw2.trans bb, hok2.trans k1, by rw [← hacc, hX]; simp, by omega, by have := hXl; rw [hX] at this; simp only [List.length_append, List.length_cons, List.length_nil] at this ⊢; omega⟩
          case measure =>
            simp only [World.iterPos, k1.iter hit2 (by omega), hit]
            omega
        · by_cases h9 : (Utf8.decode s pos).1 = 9
          · have hX : escR (Utf8.decode s pos).1 = [92, 116] := by simp [escR, *]
            go_wp2_with (go_at_call 35; refine (ws_any B b acc ⟨#[92, 116]⟩ _ hI2 (by show acc.length + 2 ≤ _; omega) hsz2).mono ?_; rintro e W1 ⟨rfl, g1, bb, k1⟩)
            go_wp2
            go_roundw
            case rel =>
              refine ⟨pos + (Utf8.decode s pos).2, f, acc ++ [92, 116], g1, k1.iter hit2 (by omega), hbw2.trans bb, hok2.trans k1, by rw [← hacc, hX]; simp, by omega, by have := hXl; rw [hX] at this; simp only [List.length_append, List.length_cons, List.length_nil] at this ⊢; omega⟩
            case measure =>
              simp only [World.iterPos, k1.iter hit2 (by omega), hit]
              omega
          · by_cases h92 : (Utf8.decode s pos).1 = 92
            · have hX : escR (Utf8.decode s pos).1 = 92 :: Lib.encodeRune 92 := by simp [escR, *]
              go_wp2_with (first
                | (go_at_call 34; refine (wb_any B b acc 92 _ hI2 (by omega) hsz2).mono ?_; rintro e W1 ⟨rfl, g1, bb1, k1⟩; have sW := bb1.size)
                | (go_at_call 36; refine (wr_any B b (acc ++ [92]) 92 (by omega) _ g1 (by simp only [List.length_append, List.length_cons, List.length_nil]; omega) (by omega)).mono ?_; rintro e W2 ⟨rfl, g2, bb2, k2⟩))
              have bb := bb1.trans bb2
              have kk := k1.trans k2
              go_wp2
              go_roundw
              case rel =>
                refine ⟨pos + (Utf8.decode s pos).2, f, (acc ++ [92]) ++ Lib.encodeRune 92, g2, kk.iter hit2 (by omega), hbw2.trans bb, hok2.trans kk, by rw [← hacc, hX]; simp, by omega, by have := hXl; rw [hX] at this; simp only [List.length_append, List.length_cons, List.length_nil] at this ⊢; omega⟩
              case measure =>
                simp only [World.iterPos, kk.iter hit2 (by omega), hit]
                omega
            · by_cases h34 : (Utf8.decode s pos).1 = 34
              · have hX : escR (Utf8.decode s pos).1 = 92 :: Lib.encodeRune 34 := by simp [escR, *]
                go_wp2_with (first
                  | (go_at_call 34; refine (wb_any B b acc 92 _ hI2 (by omega) hsz2).mono ?_; rintro e W1 ⟨rfl, g1, bb1, k1⟩; have sW := bb1.size)
                  | (go_at_call 36; refine (wr_any B b (acc ++ [92]) 34 (by omega) _ g1 (by simp only [List.length_append, List.length_cons, List.length_nil]; omega) (by omega)).mono ?_; rintro e W2 ⟨rfl, g2, bb2, k2⟩))
                have bb := bb1.trans bb2
                have kk := k1.trans k2
                go_wp2
                go_roundw
                case rel =>
                  refine ⟨pos + (Utf8.decode s pos).2, f, (acc ++ [92]) ++ Lib.encodeRune 34, g2, kk.iter hit2 (by omega), hbw2.trans bb, hok2.trans kk, by rw [← hacc, hX]; simp, by omega, by have := hXl; rw [hX] at this; simp only [List.length_append, List.length_cons, List.length_nil] at this ⊢; omega⟩
                case measure =>
                  simp only [World.iterPos, kk.iter hit2 (by omega), hit]
                  omega
              · have hX : escR (Utf8.decode s pos).1 = Lib.encodeRune (Utf8.decode s pos).1 := by simp [escR, *]
                go_wp2_with (go_at_call 36; refine (wr_any B b acc (Utf8.decode s pos).1 hd1 _ hI2 (by omega) hsz2).mono ?_; rintro e W1 ⟨rfl, g1, bb, k1⟩)
                go_wp2
                go_roundw
                case rel =>
                  refine ⟨pos + (Utf8.decode s pos).2, f, acc ++ Lib.encodeRune (Utf8.decode s pos).1, g1, k1.iter hit2 (by omega), hbw2.trans bb, hok2.trans k1, by rw [← hacc, hX]; simp, by omega, by have := hXl; rw [hX] at this; simp only [List.length_append, List.length_cons, List.length_nil] at this ⊢; omega⟩
                case measure =>
                  simp only [World.iterPos, k1.iter hit2 (by omega), hit]
                  omega
    · have hnx : ∀ ty, (Instr.next (.pointer (some ⟨w1.heap.size, 0, none⟩)) true ty).run Tryd.prog wr = _ := fun ty => Lib.run_next_end_at wr (w1.heap.size) s pos ty hit hp
      rw [quoteFrom_end s fuel pos hp, List.append_nil] at hacc
      have hq := quoteFrom_le s s.size 0
      have hl : acc.length ≤ acc0.length + 1 + 5 * s.size := by rw [hacc]; simp only [List.length_append, List.length_cons, List.length_nil]; omega
      go_wp2_with (go_at_call 34; refine (wb_any B b acc 34 _ hI (by omega) (by have := hbw.size; omega)).mono ?_; rintro e W1 ⟨rfl, g1, bb, kk⟩)
      go_wp2
      go_end0
      refine ⟨rfl, ?_, hbw.trans bb, k1.trans (hok.trans kk)⟩
      rw [hacc] at g1
      simpa [quoteL] using g1
/-- A builder is laid. -/
theorem fresh_b (w : World) : Lib.IsBuilderF BT BE w.heap.size w.heap.size (Lib.byteCells []) (w.alloc (.cells #[.pointer none, .slice none 0 0] BT)) := Lib.IsBuilderF.of (Lib.fresh_isBuilder BT BE w)
theorem String_k (B b : Nat) (l : List UInt8) (w : World) (h : Lib.IsBuilderF BT BE B b (Lib.byteCells l) w) (hBw : B ≤ w.heap.size) :
    Calls Tryd.prog 21 #[.pointer (some ⟨b, 0, none⟩)] w fun e w' => e = .returned (.string ⟨l.toArray⟩) ∧ Below B w w' := by
  refine (Any.Builder_String_any_k Tryd.lays169 Tryd.Builder_Extra_169 B b l w h hBw).mono ?_
  rintro e w' ⟨rfl, -, h2, -⟩
  exact ⟨rfl, h2⟩
set_option linter.unusedVariables false in
set_option linter.unusedSimpArgs false in
set_option maxHeartbeats 4000000 in
set_option maxRecDepth 1000000 in
/-- Quote: any string. -/
theorem quote_walk (s : ByteArray) (w : World) (hs : 5 * s.size + 8 ≤ 140737488355328) :
    Calls Tryd.prog 11 #[.string s] w (Ret (.string ⟨(quoteL s).toArray⟩) w) := by
  have hB : w.heap.size ≤ (w.alloc (.cells #[.pointer none, .slice none 0 0] BT)).heap.size := by simp only [World.size_alloc]; omega
  have WQ := Lib.hid (writeQuoted_walk w.heap.size w.heap.size [] s _ (fresh_b w) (by rw [List.length_nil]; omega) hB)
  rw [List.nil_append] at WQ
  unfold BT at WQ
  clear hs
  go_enter Tryd.func11, Tryd.ntmps11
  have B0 : Below w.heap.size w (w.alloc (.cells #[.pointer none, .slice none 0 0] BT)) := (Below.refl _ _).alloc (Nat.le_refl _) _
  go_wp2_with (first
    | (go_at_call 20; (with_reducible refine WQ.out.mono ?_); rintro e w1 ⟨rfl, h1, b1, k1⟩; have z1 := b1.size)
    | (go_at_call 21; refine (String_k w.heap.size w.heap.size (quoteL s) _ h1 (Nat.le_trans hB z1)).mono ?_; rintro e w2 ⟨rfl, b2⟩))
  go_ret
  exact ⟨rfl, (B0.trans b1).trans b2⟩
end Go.Proofs.YtfelcneedpndiaaDoor

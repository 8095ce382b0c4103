/-
  The law's quote (layer 13): strings put together, rune by rune.
-/
import Derived.Test.YtielmfchbgajnaaKx
import Derived.Laws.Runes
namespace Go.Proofs.Ytielmfchbgajnaa
open Go.RowKit Go.Shelf
/-- A rune as a string: the model's bytes are the shelf's. -/
theorem enc_list (r : Nat) : Utf8.encode (r : Int) = ⟨(Lib.encodeRune (r : Int)).toArray⟩ := by
  apply ByteArray.ext
  apply Array.ext'
  show (Utf8.encode (r : Int)).data.toList = Lib.encodeRune (r : Int)
  by_cases hb : (55296 ≤ r ∧ r ≤ 57343) ∨ 1114111 < r
  · have v : Utf8.valid (r : Int) = false := by simp [Utf8.valid]; omega
    simp [Lib.encodeRune, Lib.encodeRuneZ_bad (r := (r : Int)) (by omega), Utf8.encode, v, Utf8.runeError]
  have v : Utf8.valid (r : Int) = true := by simp [Utf8.valid]; omega
  unfold Lib.encodeRune
  have f1 : (128 + (r : Int) % 64).toNat = 128 + r % 64 := by omega
  have f2 : (128 + (r : Int) / 64 % 64).toNat = 128 + r / 64 % 64 := by omega
  have f3 : (128 + (r : Int) / 4096 % 64).toNat = 128 + r / 4096 % 64 := by omega
  have f4 : (192 + (r : Int) / 64).toNat = 192 + r / 64 := by omega
  have f5 : (224 + (r : Int) / 4096).toNat = 224 + r / 4096 := by omega
  have f6 : (240 + (r : Int) / 262144).toNat = 240 + r / 262144 := by omega
  by_cases a : r < 128
  · rw [Lib.encodeRuneZ_one (by omega) (by omega)]
    simp [Utf8.encode, v, a]
  by_cases b : r < 2048
  · rw [Lib.encodeRuneZ_two (by omega) (by omega)]
    simp [Utf8.encode, v, a, b, f1, f4]
  by_cases c : r < 65536
  · rw [Lib.encodeRuneZ_three (by omega)]
    simp [Utf8.encode, v, a, b, c, f1, f2, f5]
  · rw [Lib.encodeRuneZ_four (by omega) (by omega)]
    simp [Utf8.encode, v, a, b, c, f1, f2, f3, f6]
theorem strl_append (a b : List UInt8) : (⟨a.toArray⟩ : ByteArray) ++ ⟨b.toArray⟩ = ⟨(a ++ b).toArray⟩ := by
  apply ByteArray.ext
  simp
theorem enc_size (r : Nat) : (Utf8.encode (r : Int)).size ≤ 4 := by
  rw [enc_list]
  have h := encodeRune_le r
  simpa [ByteArray.size] using h
set_option linter.unusedVariables false in
set_option linter.unusedSimpArgs false in
set_option maxHeartbeats 4000000 in
set_option maxRecDepth 1000000 in
/-- quote: any string. -/
theorem lquote_walk (s : ByteArray) (w : World) (hs : 5 * s.size + 8 ≤ 140737488355328) :
    Calls Try.prog 31 #[.string s] w (Ret (.string ⟨(quoteL s).toArray⟩) w) := by
  go_enter Try.func31, Try.ntmps31
  go_wp2
  go_loopw [3] (fun o wr => ∃ (pos fuel : Nat) (acc : List UInt8), o = .string ⟨acc.toArray⟩ ∧ wr.heap[w.heap.size]? = some (.stringIter s pos) ∧ Below w.heap.size w wr ∧ acc ++ quoteFrom s fuel pos = [34] ++ quoteFrom s s.size 0 ∧ s.size ≤ pos + fuel ∧ acc.length + 5 * fuel ≤ 1 + 5 * s.size) (fun o wr => s.size - wr.iterPos (w.heap.size))
  case atStart =>
    refine ⟨0, s.size, [34], rfl, ?_, (Below.refl _ _).alloc (Nat.le_refl _) _, rfl, by omega, by simp⟩
    have := World.iter_heap w s 0
    simpa using this
  case round =>
    obtain ⟨pos, fuel, acc, rfl, hit, hbw, hacc, hfu, hal⟩ := hrel
    have hsz : w.heap.size < wr.heap.size := (Array.getElem?_eq_some_iff.1 hit).1
    by_cases hp : pos < s.size
    · have hnx : ∀ ty, (Instr.next (.pointer (some ⟨w.heap.size, 0, none⟩)) true ty).run Try.prog wr = _ := fun ty => Lib.run_next_any_at wr (w.heap.size) s pos ty hit hp
      have hwd := width_pos s pos hp
      have hd1 := decode_le s pos
      have hit2 := Lib.iterAt_heap wr (w.heap.size) s pos (pos + (Utf8.decode s pos).2) hit
      have hbw2 := Lib.below_iterAt hbw (k := w.heap.size) (by omega) s (pos + (Utf8.decode s pos).2)
      obtain ⟨f, rfl⟩ : ∃ f, fuel = f + 1 := ⟨fuel - 1, by omega⟩
      have hq : quoteFrom s (f + 1) pos = escR (Utf8.decode s pos).1 ++ quoteFrom s f (pos + (Utf8.decode s pos).2) := by simp [quoteFrom, hp]
      rw [hq] at hacc
      have hXl := escR_le (Utf8.decode s pos).1
      have hal' : acc.length + 5 * f + 5 ≤ 1 + 5 * s.size := by omega
      by_cases h92 : (Utf8.decode s pos).1 = 92
      · have hX : escR (Utf8.decode s pos).1 = 92 :: Lib.encodeRune 92 := by simp [escR, *]
        have hz : (Utf8.encode 92).size ≤ 4 := enc_size 92
        go_wp2
        refine ⟨⟨pos + (Utf8.decode s pos).2, f, acc ++ (92 :: Lib.encodeRune 92), ?_, hit2, hbw2, by rw [← hacc, hX]; simp, by omega, by have := hXl; rw [hX] at this; simp only [List.length_append, List.length_cons, List.length_nil] at this ⊢; omega⟩, ?_⟩
        · rw [show Utf8.encode 92 = ⟨(Lib.encodeRune 92).toArray⟩ from enc_list 92, show (⟨#[92]⟩ : ByteArray) = ⟨[92].toArray⟩ from rfl, strl_append, strl_append, List.append_assoc]; rfl
        · simp only [World.iterPos, hit2, hit]
          omega
      · skip
        by_cases h34 : (Utf8.decode s pos).1 = 34
        · have hX : escR (Utf8.decode s pos).1 = 92 :: Lib.encodeRune 34 := by simp [escR, *]
          have hz : (Utf8.encode 34).size ≤ 4 := enc_size 34
          go_wp2
          refine ⟨⟨pos + (Utf8.decode s pos).2, f, acc ++ (92 :: Lib.encodeRune 34), ?_, hit2, hbw2, by rw [← hacc, hX]; simp, by omega, by have := hXl; rw [hX] at this; simp only [List.length_append, List.length_cons, List.length_nil] at this ⊢; omega⟩, ?_⟩
          · rw [show Utf8.encode 34 = ⟨(Lib.encodeRune 34).toArray⟩ from enc_list 34, show (⟨#[92]⟩ : ByteArray) = ⟨[92].toArray⟩ from rfl, strl_append, strl_append, List.append_assoc]; rfl
          · simp only [World.iterPos, hit2, hit]
            omega
        · skip
          by_cases h10 : (Utf8.decode s pos).1 = 10
          · have hX : escR (Utf8.decode s pos).1 = [92, 110] := by simp [escR, *]
            go_wp2
            refine ⟨⟨pos + (Utf8.decode s pos).2, f, acc ++ [92, 110], ?_, hit2, hbw2, by rw [← hacc, hX]; simp, by omega, by have := hXl; rw [hX] at this; simp only [List.length_append, List.length_cons, List.length_nil] at this ⊢; omega⟩, ?_⟩
            · rw [show (⟨#[92, 110]⟩ : ByteArray) = ⟨[92, 110].toArray⟩ from rfl, strl_append]
            · simp only [World.iterPos, hit2, hit]
              omega
          · skip
            by_cases h13 : (Utf8.decode s pos).1 = 13
            · have hX : escR (Utf8.decode s pos).1 = [92, 114] := by simp [escR, *]
              go_wp2
              refine ⟨⟨pos + (Utf8.decode s pos).2, f, acc ++ [92, 114], ?_, hit2, hbw2, by rw [← hacc, hX]; simp, by omega, by have := hXl; rw [hX] at this; simp only [List.length_append, List.length_cons, List.length_nil] at this ⊢; omega⟩, ?_⟩
              · rw [show (⟨#[92, 114]⟩ : ByteArray) = ⟨[92, 114].toArray⟩ from rfl, strl_append]
              · simp only [World.iterPos, hit2, hit]
                omega
            · skip
              by_cases h9 : (Utf8.decode s pos).1 = 9
              · have hX : escR (Utf8.decode s pos).1 = [92, 116] := by simp [escR, *]
                go_wp2
                refine ⟨⟨pos + (Utf8.decode s pos).2, f, acc ++ [92, 116], ?_, hit2, hbw2, by rw [← hacc, hX]; simp, by omega, by have := hXl; rw [hX] at this; simp only [List.length_append, List.length_cons, List.length_nil] at this ⊢; omega⟩, ?_⟩
                · rw [show (⟨#[92, 116]⟩ : ByteArray) = ⟨[92, 116].toArray⟩ from rfl, strl_append]
                · simp only [World.iterPos, hit2, hit]
                  omega
              · skip
                have hX : escR (Utf8.decode s pos).1 = Lib.encodeRune (Utf8.decode s pos).1 := by simp [escR, *]
                have hz := enc_size (Utf8.decode s pos).1
                clear hq
                generalize (Utf8.decode s pos).1 = r at *
                generalize (Utf8.decode s pos).2 = d at *
                have i1 : ((r : Int) == 92) = false := by simp; omega
                have i2 : ((r : Int) == 34) = false := by simp; omega
                have i3 : ((r : Int) == 10) = false := by simp; omega
                have i4 : ((r : Int) == 13) = false := by simp; omega
                have i5 : ((r : Int) == 9) = false := by simp; omega
                go_wp2
                refine ⟨⟨pos + d, f, acc ++ Lib.encodeRune r, ?_, hit2, hbw2, by rw [← hacc, hX]; simp, by omega, by have := hXl; rw [hX] at this; simp only [List.length_append, List.length_cons, List.length_nil] at this ⊢; omega⟩, ?_⟩
                · rw [enc_list, strl_append]
                · simp only [World.iterPos, hit2, hit]
                  omega
    · have hnx : ∀ ty, (Instr.next (.pointer (some ⟨w.heap.size, 0, none⟩)) true ty).run Try.prog wr = _ := fun ty => Lib.run_next_end_at wr (w.heap.size) s pos ty hit hp
      rw [quoteFrom_end s fuel pos hp, List.append_nil] at hacc
      have hq := quoteFrom_le s s.size 0
      have hl : acc.length ≤ 1 + 5 * s.size := by rw [hacc]; simp only [List.length_append, List.length_cons, List.length_nil]; omega
      have RES : (⟨(34 :: quoteFrom s s.size 0).toArray⟩ : ByteArray) ++ ⟨#[34]⟩ = ⟨(quoteL s).toArray⟩ := by rw [show (⟨#[34]⟩ : ByteArray) = ⟨[34].toArray⟩ from rfl, strl_append]; rfl
      go_wp2
      go_ret
      exact ⟨congrArg (fun z => Ending.returned (.string z)) RES, hbw⟩
end Go.Proofs.Ytielmfchbgajnaa

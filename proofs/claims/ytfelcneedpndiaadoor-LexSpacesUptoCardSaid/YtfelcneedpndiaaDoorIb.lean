/-
  The document's answer of layer 15: a text's runes as a list, and the text of a list of runes, as contracts of their calls.
-/
import Derived.Test.YtfelcneedpndiaaDoorC0
import Derived.Test.YtfelcneedpndiaaDoorIa
import Derived.Deep.LoopGhost
import Derived.Maps.AppendAt
import Derived.Deep.AppendLies
import Derived.Laws.Runes
namespace Go.Proofs.YtfelcneedpndiaaDoor
open Go.RowKit Go.Lib

theorem encI_list (r : Nat) : Utf8.encode (r : Int) = ⟨(encodeRune (r : Int)).toArray⟩ := by
  apply ByteArray.ext
  apply Array.ext'
  show (Utf8.encode (r : Int)).data.toList = encodeRune (r : Int)
  by_cases hb : (55296 ≤ r ∧ r ≤ 57343) ∨ 1114111 < r
  · have v : Utf8.valid (r : Int) = false := by simp [Utf8.valid]; omega
    simp [encodeRune, encodeRuneZ_bad (r := (r : Int)) (by omega), Utf8.encode, v, Utf8.runeError]
  have v : Utf8.valid (r : Int) = true := by simp [Utf8.valid]; omega
  unfold encodeRune
  have f1 : (128 + (r : Int) % 64).toNat = 128 + r % 64 := by omega
  have f2 : (128 + (r : Int) / 64 % 64).toNat = 128 + r / 64 % 64 := by omega
  have f3 : (128 + (r : Int) / 4096 % 64).toNat = 128 + r / 4096 % 64 := by omega
  have f4 : (192 + (r : Int) / 64).toNat = 192 + r / 64 := by omega
  have f5 : (224 + (r : Int) / 4096).toNat = 224 + r / 4096 := by omega
  have f6 : (240 + (r : Int) / 262144).toNat = 240 + r / 262144 := by omega
  by_cases a : r < 128
  · rw [encodeRuneZ_one (by omega) (by omega)]
    simp [Utf8.encode, v, a]
  by_cases b : r < 2048
  · rw [encodeRuneZ_two (by omega) (by omega)]
    simp [Utf8.encode, v, a, b, f1, f4]
  by_cases c : r < 65536
  · rw [encodeRuneZ_three (by omega)]
    simp [Utf8.encode, v, a, b, c, f1, f2, f5]
  · rw [encodeRuneZ_four (by omega) (by omega)]
    simp [Utf8.encode, v, a, b, c, f1, f2, f3, f6]
theorem appI (a b : List UInt8) : (⟨a.toArray⟩ : ByteArray) ++ ⟨b.toArray⟩ = ⟨(a ++ b).toArray⟩ := by
  apply ByteArray.ext
  simp
theorem sizeI (l : List UInt8) : (⟨l.toArray⟩ : ByteArray).size = l.length := by simp [ByteArray.size]
theorem encI_size (r : Nat) : (Utf8.encode (r : Int)).size ≤ 4 := by
  rw [encI_list, sizeI]
  exact (encodeRune_size (r : Int)).2
/-- A rune as it lies in a cell. -/
def rc (r : Nat) : Value := .int .i32 (r : Int)
/-- The slice v, which lies in a block from one on, holds the runes L. -/
def RowN (b : Nat) (W : World) (v : Value) (L : List Nat) : Prop := W.ownsRow b 21 1 v L.length (L.map rc)
theorem RowN.nil {b : Nat} {W : World} : RowN b W (.slice none 0 0) [] := ⟨rfl, .inl ⟨rfl, rfl⟩⟩
theorem RowN.form {b : Nat} {W : World} {v : Value} {L : List Nat} (h : RowN b W v L) : (v = .slice none 0 0 ∧ L = []) ∨
    ∃ g cap, v = .slice (some ⟨g, 0, none⟩) L.length cap ∧ L.length ≤ cap ∧ cap ≤ maxLen ∧ b ≤ g ∧ g < W.heap.size ∧ ∀ k, k < L.length → W.cell? ⟨g, k, none⟩ = some (.int .i32 ((L.getD k 0 : Nat) : Int)) := by
  rcases h.2 with ⟨rfl, h0⟩ | ⟨g, cap, cur, rfl, hb, hh, h1, h2, h3, h4⟩
  · exact .inl ⟨rfl, List.eq_nil_of_length_eq_zero h0⟩
  · refine .inr ⟨g, cap, rfl, h1, h2, hb, ?_, fun k hk => ?_⟩
    · rcases Nat.lt_or_ge g W.heap.size with x | x
      · exact x
      · rw [Array.getElem?_eq_none x] at hh; cases hh
    · have := World.ownsRow.cellAt h k (by omega)
      rw [this]
      simp [List.getD, hk, rc]
theorem RowN.below {b : Nat} {W w1 : World} {v : Value} {L : List Nat} (h : RowN b W v L) (hb : Below W.heap.size W w1) : RowN b w1 v L := by
  refine ⟨h.1, ?_⟩
  rcases h.2 with h0 | ⟨g, cap, cur, rfl, hb0, hh, h1, h2, h3, h4⟩
  · exact .inl h0
  · refine .inr ⟨g, cap, cur, rfl, hb0, ?_, h1, h2, h3, h4⟩
    have : g < W.heap.size := by
      rcases Nat.lt_or_ge g W.heap.size with x | x
      · exact x
      · rw [Array.getElem?_eq_none x] at hh; cases hh
    exact (hb.block g this).trans hh
theorem RowN.down {b c : Nat} {W : World} {v : Value} {L : List Nat} (h : RowN b W v L) (hc : c ≤ b) : RowN c W v L := by
  refine ⟨h.1, ?_⟩
  rcases h.2 with h0 | ⟨g, cap, cur, rfl, hb0, hh, h1, h2, h3, h4⟩
  · exact .inl h0
  · exact .inr ⟨g, cap, cur, rfl, Nat.le_trans hc hb0, hh, h1, h2, h3, h4⟩
/-- What a call answers that makes a list of runes. -/
def RetN (L : List Nat) (w : World) (e : Ending) (w' : World) : Prop := ∃ v, e = .returned v ∧ RowN w.heap.size w' v L ∧ Below w.heap.size w w'
/-- What a call answers that makes a text. -/
def RetTx (l : List UInt8) (w : World) (e : Ending) (w' : World) : Prop := e = .returned (.string ⟨l.toArray⟩) ∧ Below w.heap.size w w'
theorem rune_info : (Tryd.prog.info? 21).map (fun i => (i.zero, i.size, i.bytes)) = some (some (.int .i32 0), 1, 4) := by kernel_rfl
set_option linter.unusedVariables false in
set_option linter.unusedSimpArgs false in
set_option maxRecDepth 100000 in
set_option maxHeartbeats 2000000 in
/-- Text: the runes of a list as a text. -/
theorem textR_any (b : Nat) (v : Value) (L : List Nat) (w : World) (hL : L.length ≤ 17592186044416) (h : RowN b w v L) :
    Calls Tryd.prog 18 #[v] w (RetTx (enc L) w) := by
  have H := Lib.hid h
  obtain ⟨A, len, cap, hv, hlen⟩ : ∃ A len cap, v = .slice A len cap ∧ len = L.length := by
    rcases h.form with ⟨rfl, rfl⟩ | ⟨g, cap, rfl, _⟩
    · exact ⟨_, _, _, rfl, rfl⟩
    · exact ⟨_, _, _, rfl, rfl⟩
  subst hv hlen
  clear h
  go_enter Tryd.func18, Tryd.ntmps18
  go_wp2
  go_loopg [3, 4] L.length (fun gg s i wr => ∃ (kk : Nat), kk + gg = L.length ∧ s = .string ⟨(enc (L.take kk)).toArray⟩ ∧ i = .int .i64 (kk : Int) ∧ Below w.heap.size w wr)
  case atStart => exact ⟨0, by omega, rfl, rfl, Below.refl _ _⟩
  case round =>
    obtain ⟨kk, hkk, rfl, rfl, HB⟩ := hrel
    have NB : (L.length : Int) ≤ 9223372036854775806 := by omega
    by_cases hlt : kk < L.length
    · have hf := (H.out.below HB).form
      rcases hf with ⟨_, e⟩ | ⟨g, cap', e, h1, h2, h3, h4, h5⟩
      · rw [e] at hlt; simp at hlt
      obtain ⟨rfl, rfl⟩ : A = some ⟨g, 0, none⟩ ∧ cap = cap' := by
        injection e with e1 e2 e3
        exact ⟨e1, e3⟩
      have c := h5 kk hlt
      have hle := enc_length_le (L.take kk)
      rw [List.length_take] at hle
      have hz := encI_size (L.getD kk 0)
      have NX : enc (L.take (kk + 1)) = enc (L.take kk) ++ encodeRune ((L.getD kk 0 : Nat) : Int) := by
        rw [List.take_succ_eq_append_getElem hlt, enc_append, enc_cons, enc_nil, List.append_nil]
        simp [List.getD, hlt]
      have EL := encI_list (L.getD kk 0)
      have NX' := Lib.hid NX
      have EL' := Lib.hid EL
      clear h5 e NX EL
      generalize L.getD kk 0 = r at *
      generalize enc (L.take kk) = X at *
      have hX : X.length + 4 ≤ 140737488355328 := by omega
      clear hle
      go_wp2
      go_roundg (L.length - (kk + 1))
      case measure => omega
      case rel =>
        refine ⟨kk + 1, by omega, ?_, by go_num, HB⟩
        rw [NX'.out, EL'.out, appI]
    · obtain rfl : kk = L.length := by omega
      go_wp2
      go_ret
      rw [List.take_length]
      exact ⟨rfl, HB⟩
end Go.Proofs.YtfelcneedpndiaaDoor

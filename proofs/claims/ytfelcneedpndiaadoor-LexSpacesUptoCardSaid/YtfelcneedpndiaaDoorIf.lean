/-
  The document's answer of layer 16: letter, digit, space, at; the text of a piece of a list: as contracts of their calls.
-/
import Derived.Test.YtfelcneedpndiaaDoorIb
import Derived.Test.YtfelcneedpndiaaDoorIp
namespace Go.Proofs.YtfelcneedpndiaaDoor
open Go.RowKit Go.Lib

/-- A call answers this value and changes nothing at all. -/
def RetSm (v : Value) (w : World) (e : Ending) (w' : World) : Prop := e = .returned v ∧ w = w'
theorem hd_drop (L : List Nat) (k : Nat) : hd (L.drop k) = L.getD k 0 := by
  unfold hd
  rw [List.getD_eq_getElem?_getD, List.getD_eq_getElem?_getD, List.getElem?_drop, Nat.add_zero]
/-- A slice, wherever it lies, that holds these runes. -/
def PartN (w : World) (v : Value) (L : List Nat) : Prop := ∃ A cap, v = .slice A L.length cap ∧ ∀ k, k < L.length → ∃ g o, A = some ⟨g, o, none⟩ ∧ g < w.heap.size ∧ w.cell? ⟨g, o + k, none⟩ = some (.int .i32 ((L.getD k 0 : Nat) : Int))
theorem PartN.below {w w1 : World} {v : Value} {L : List Nat} (h : PartN w v L) (hb : Below w.heap.size w w1) : PartN w1 v L := by
  obtain ⟨A, cap, e, f⟩ := h
  refine ⟨A, cap, e, fun k hk => ?_⟩
  obtain ⟨g, o, e1, lt, c⟩ := f k hk
  exact ⟨g, o, e1, Nat.lt_of_lt_of_le lt hb.size, ((bcell hb).1 _ _ lt).trans c⟩
theorem getD_part (L : List Nat) (a e k : Nat) (h : a + k < e) (_he : e ≤ L.length) : ((L.drop a).take (e - a)).getD k 0 = L.getD (a + k) 0 := by
  rw [List.getD_eq_getElem?_getD, List.getElem?_take_of_lt (by omega), List.getElem?_drop, List.getD_eq_getElem?_getD]
theorem part_len (L : List Nat) (a e : Nat) (h : a ≤ e) (he : e ≤ L.length) : ((L.drop a).take (e - a)).length = e - a := by
  rw [List.length_take, List.length_drop]
  omega
/-- The runes from a place up to one lie in the slice that is cut so. -/
theorem RowN.part {b : Nat} {w : World} {g n cap : Nat} {L : List Nat} (h : RowN b w (.slice (some ⟨g, 0, none⟩) n cap) L) (a e c : Nat) (hae : a ≤ e) (he : e ≤ L.length) : PartN w (.slice (some ⟨g, a, none⟩) (e - a) c) ((L.drop a).take (e - a)) := by
  refine ⟨some ⟨g, a, none⟩, c, by rw [part_len L a e hae he], fun k hk => ?_⟩
  rw [part_len L a e hae he] at hk
  obtain ⟨g', e1, lt, -, -, -, c⟩ : ∃ g', (some ⟨g, 0, none⟩ : Option Addr) = some ⟨g', 0, none⟩ ∧ g' < w.heap.size ∧ True ∧ True ∧ True ∧ w.cell? ⟨g', a + k, none⟩ = some (.int .i32 ((L.getD (a + k) 0 : Nat) : Int)) := by
    rcases h.form with ⟨h1, e⟩ | ⟨g', cap', e, h1, h2, h3, h4, h5⟩
    · cases h1
    · injection e with e1 e2 e3
      exact ⟨g', e1, h4, trivial, trivial, trivial, h5 (a + k) (by omega)⟩
  injection e1 with e1
  injection e1 with e1
  subst e1
  rw [getD_part L a e k (by omega) he]
  exact ⟨g, a, rfl, lt, c⟩
set_option linter.unusedVariables false in
set_option linter.unusedSimpArgs false in
set_option maxRecDepth 100000 in
set_option maxHeartbeats 2000000 in
/-- Text, of a slice wherever it lies. -/
theorem text_part (v : Value) (L : List Nat) (w : World) (hL : L.length ≤ 17592186044416) (h : PartN w v L) :
    Calls Tryd.prog 18 #[v] w (RetTx (enc L) w) := by
  have H := Lib.hid h
  obtain ⟨A, cap, rfl, -⟩ := h
  go_enter Tryd.func18, Tryd.ntmps18
  go_wp2
  go_loopg [3, 4] L.length (fun gg s i wr => ∃ (kk : Nat), kk + gg = L.length ∧ s = .string ⟨(enc (L.take kk)).toArray⟩ ∧ i = .int .i64 (kk : Int) ∧ Below w.heap.size w wr)
  case atStart => exact ⟨0, by omega, rfl, rfl, Below.refl _ _⟩
  case round =>
    obtain ⟨kk, hkk, rfl, rfl, HB⟩ := hrel
    have NB : (L.length : Int) ≤ 9223372036854775806 := by omega
    by_cases hlt : kk < L.length
    · obtain ⟨A', cap', e, hf⟩ := H.out.below HB
      obtain ⟨g, o, e1, lt, c⟩ := hf kk hlt
      injection e with e2 e3 e4
      subst e2 e1
      have hle := enc_length_le (L.take kk)
      rw [List.length_take] at hle
      have hz := encI_size (L.getD kk 0)
      have NX : enc (L.take (kk + 1)) = enc (L.take kk) ++ encodeRune ((L.getD kk 0 : Nat) : Int) := by
        rw [List.take_succ_eq_append_getElem hlt, enc_append, enc_cons, enc_nil, List.append_nil]
        simp [List.getD, hlt]
      have EL := encI_list (L.getD kk 0)
      have NX' := Lib.hid NX
      have EL' := Lib.hid EL
      clear hf e3 e4 NX EL
      generalize L.getD kk 0 = r at *
      generalize enc (L.take kk) = X at *
      have hX : X.length + 4 ≤ 140737488355328 := by omega
      clear hle
      go_wp2
      go_roundg (L.length - (kk + 1))
      case measure => omega
      case rel =>
        refine ⟨kk + 1, by omega, ?_, by go_num, HB⟩
        rw [NX'.out, EL'.out, appI]
    · obtain rfl : kk = L.length := by omega
      go_wp2
      go_ret
      rw [List.take_length]
      exact ⟨rfl, HB⟩
end Go.Proofs.YtfelcneedpndiaaDoor

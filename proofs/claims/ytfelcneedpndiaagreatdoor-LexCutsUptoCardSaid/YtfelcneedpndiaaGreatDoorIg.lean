/-
  The document's answer of layer 16: digits, number, as contracts of their calls.
-/
import Derived.Test.YtfelcneedpndiaaGreatDoorIf
namespace Go.Proofs.YtfelcneedpndiaaGreatDoor
open Go.RowKit Go.Lib

theorem RowN.sl2 {b : Nat} {W : World} {v : Value} {L : List Nat} (h : RowN b W v L) : ∃ A cap, v = .slice A L.length cap := by
  rcases h.form with ⟨rfl, rfl⟩ | ⟨g, cap, rfl, _⟩
  · exact ⟨_, _, rfl⟩
  · exact ⟨_, _, rfl⟩
theorem RowN.cell2 {b : Nat} {W : World} {A : Option Addr} {n cap : Nat} {L : List Nat} (h : RowN b W (.slice A n cap) L) {k : Nat} (hk : k < L.length) : ∃ g, A = some ⟨g, 0, none⟩ ∧ g < W.heap.size ∧ L.length ≤ cap ∧ cap ≤ maxLen ∧ W.cell? ⟨g, k, none⟩ = some (.int .i32 ((L.getD k 0 : Nat) : Int)) := by
  rcases h.form with ⟨_, e⟩ | ⟨g, cap', e, h1, h2, h3, h4, h5⟩
  · rw [e] at hk; simp at hk
  · injection e with e1 e2 e3
    subst e3
    exact ⟨g, e1, h4, h1, h2, h5 k hk⟩
theorem drop_cons (L : List Nat) (j : Nat) (h : j < L.length) : L.drop j = L.getD j 0 :: L.drop (j + 1) := by
  rw [List.drop_eq_getElem_cons h, List.getD_eq_getElem?_getD, List.getElem?_eq_getElem h]
  rfl
theorem digS_cons (c : Nat) (t : List Nat) : digS (c :: t) = if digR c then digS t else c :: t := by
  unfold digS
  rw [List.dropWhile_cons]
theorem getD_vr {L : List Nat} (hV : Vrs L) (j : Nat) : L.getD j 0 ≤ 1114111 := by
  rcases Nat.lt_or_ge j L.length with h | h
  · rw [List.getD_eq_getElem?_getD, List.getElem?_eq_getElem h]
    have := hV _ (List.getElem_mem h)
    unfold Vr at this
    simp
    omega
  · rw [List.getD_eq_getElem?_getD, List.getElem?_eq_none h]
    simp
/-- A call answers the place at which this stands, and changes nothing. -/
def RetE (L S : List Nat) (k : Nat) (w : World) (e : Ending) (w' : World) : Prop := ∃ j : Nat, e = .returned (.int .i64 (j : Int)) ∧ k ≤ j ∧ j ≤ L.length ∧ L.drop j = S ∧ w = w'
set_option linter.unusedVariables false in
set_option linter.unusedSimpArgs false in
set_option maxRecDepth 100000 in
set_option maxHeartbeats 2000000 in
theorem digits_ref (b : Nat) (v : Value) (L : List Nat) (k : Nat) (hk : k ≤ L.length) (hV : Vrs L) (hL : L.length ≤ 17592186044416) (w : World) (h : RowN b w v L) :
    Calls Tryz.prog 47 #[v, .int .i64 (k : Int)] w (RetE L (digS (L.drop k)) k w) := by
  have H := Lib.hid h
  have HV := Lib.hid hV
  obtain ⟨A, cap, rfl⟩ := h.sl2
  clear h hV
  go_enter Tryz.func47, Tryz.ntmps47
  go_wp2
  go_loopg [1] L.length (fun gg i wr => ∃ j : Nat, w = wr ∧ k ≤ j ∧ j + gg = L.length + k ∧ j ≤ L.length ∧ i = .int .i64 (j : Int) ∧ Hid (digS (L.drop j) = digS (L.drop k)))
  case atStart => exact ⟨k, rfl, by omega, by omega, hk, rfl, Lib.hid rfl⟩
  case round =>
    obtain ⟨j, rfl, h1, h2, h3, rfl, hS⟩ := hrel
    by_cases hlt : j < L.length
    · obtain ⟨g, rfl, h4, h5, h6, c⟩ := H.out.cell2 hlt
      have h6' : cap ≤ 9223372036854775807 := h6
      have DC := Lib.hid (drop_cons L j hlt)
      have D := Lib.hid (digit_ref (L.getD j 0) (getD_vr HV.out j) w)
      generalize L.getD j 0 = r at *
      by_cases hd : digR r = true
      · rw [hd] at D
        go_wp2_with (go_at_call 28; (with_reducible refine (D.out).mono ?_); rintro e w1 ⟨rfl, rfl⟩)
        go_roundg (L.length + k - (j + 1))
        case measure => omega
        case rel => exact ⟨j + 1, rfl, by omega, by omega, by omega, by go_num, Lib.hid (by rw [← hS.out, DC.out, digS_cons, if_pos hd])⟩
      · rw [Bool.not_eq_true] at hd
        rw [hd] at D
        go_wp2_with (go_at_call 28; (with_reducible refine (D.out).mono ?_); rintro e w1 ⟨rfl, rfl⟩)
        go_ret
        exact ⟨j, rfl, h1, h3, by rw [← hS.out, DC.out, digS_cons, hd]; rfl, rfl⟩
    · go_wp2
      go_ret
      exact ⟨j, rfl, h1, h3, by rw [← hS.out, List.drop_eq_nil_of_le (by omega)]; rfl, rfl⟩
end Go.Proofs.YtfelcneedpndiaaGreatDoor

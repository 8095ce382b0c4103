/-
  The document's number of some words, as a contract of its call.
-/
import Derived.Test.YtlcpbmjipplcdaaDoorR2
import Derived.Test.YtlcpbmjipplcdaaDoorC
namespace Go.Proofs.YtlcpbmjipplcdaaDoor
open Go.RowKit

/-- The number of some words, the highest first. -/
def wv (ws : List Nat) : Nat := ws.foldl (fun n x => n * 18446744073709551616 + x) 0
theorem wv_snoc (ws : List Nat) (x : Nat) : wv (ws ++ [x]) = wv ws * 18446744073709551616 + x := by simp [wv]

theorem dg_small {m : Nat} (h : m < 10 ^ 200) : (Dg.dg m).length ≤ 200 := Dg.dg_length_le h

def WordsRel (w : World) (ws : List Nat) (m : Nat) (v i : Value) (W : World) : Prop :=
  ∃ k : Nat, i = .int .i64 (k : Int) ∧ k + m = ws.length ∧ Row W v (Dg.dg (wv (ws.take k))) ∧ Below w.heap.size w W

theorem wv_take_lt (ws : List Nat) (hw : ∀ x ∈ ws, x < 18446744073709551616) : ∀ k, k ≤ 4 → wv (ws.take k) < 18446744073709551616 ^ k := by
  intro k hk
  induction k with
  | zero => simp [wv]
  | succ k ih =>
    have ih := ih (by omega)
    rcases Nat.lt_or_ge k ws.length with z | z
    · rw [List.take_succ_eq_append_getElem z, wv_snoc, Nat.pow_succ]
      have := hw ws[k] (List.getElem_mem z)
      generalize wv (List.take k ws) = a at *
      generalize 18446744073709551616 ^ k = p at *
      omega
    · rw [List.take_of_length_le (by omega)]
      rw [List.take_of_length_le z] at ih
      exact Nat.lt_of_lt_of_le ih (Nat.pow_le_pow_right (by decide) (by omega))

theorem two_smalls (n x : Nat) : (n * 4294967296 + x / 4294967296) * 4294967296 + x % 4294967296 = n * 18446744073709551616 + x := by omega

theorem big200 : ∀ k : Fin 5, (18446744073709551616 : Nat) ^ k.val * 18446744073709551616 < 10 ^ 200 := by decide +kernel

theorem m2_gen (n x p Z K k q : Nat) (hk : k ≤ K) (hq : q ≤ x) (h : n < p) (hx : x < K) (bg : p * K < Z) : n * k + q < Z := by
  have a1 := Nat.mul_le_mul_right K (Nat.succ_le_of_lt h)
  rw [Nat.succ_mul] at a1
  have h1 : n * k ≤ n * K := Nat.mul_le_mul_left n hk
  omega
theorem m2_of (n x p Z : Nat) (h : n < p) (hx : x < 18446744073709551616) (bg : p * 18446744073709551616 < Z) : n * 4294967296 + x / 4294967296 < Z :=
  m2_gen n x p Z 18446744073709551616 4294967296 (x / 4294967296) (by decide) (Nat.div_le_self _ _) h hx bg

set_option maxRecDepth 100000 in
set_option maxHeartbeats 2000000 in
theorem words_any (g : Nat) (ws : List Nat) (cap : Nat) (hl : ws.length ≤ 4) (hw : ∀ x ∈ ws, x < 18446744073709551616) (w : World) (hg : g < w.heap.size)
    (hc : ∀ k, k < ws.length → w.cell? ⟨g, k, none⟩ = some (.int .u64 ((ws.getD k 0 : Nat) : Int))) :
    Calls Tryd.prog 19 #[.slice (some ⟨g, 0, none⟩) ws.length cap] w (RetRow (Dg.dg (wv ws)) w) := by
  have HC := Lib.hid hc
  have HW := Lib.hid hw
  clear hc hw
  go_enter Tryd.func19, Tryd.ntmps19
  go_wp2
  go_loopg [3, 4] ws.length (fun m v i W => WordsRel w ws m v i W)
  case atStart => exact ⟨0, rfl, by omega, by rw [List.take_zero, show wv [] = 0 from rfl, Dg.dg_zero]; exact Row.nil, Below.refl _ _⟩
  case round =>
    obtain ⟨k, rfl, e1, R, HB⟩ := hrel
    have HR := Lib.hid R
    have kl : k ≤ ws.length := by omega
    have E1 := Lib.hid e1
    clear R e1
    rcases Nat.lt_or_ge k ws.length with z | z
    · have lt := wv_take_lt ws HW.out k (by omega)
      have c := (HB.cell (p := ⟨g, k, none⟩) hg).trans (HC.out k z)
      have xw : ws.getD k 0 < 18446744073709551616 := by
        have := HW.out ws[k] (List.getElem_mem z)
        simpa [List.getD, z] using this
      have nx := Lib.hid (show ws.take (k + 1) = ws.take k ++ [ws.getD k 0] by rw [List.take_succ_eq_append_getElem z]; simp [List.getD, z])
      have bg := big200 ⟨k, by omega⟩
      generalize ws.getD k 0 = x at *
      generalize hn : wv (ws.take k) = n at *
      have HN := Lib.hid hn
      have m1 : n < 10 ^ 200 := by
        have : (1 : Nat) ≤ 18446744073709551616 := by decide
        exact Nat.lt_of_lt_of_le lt (Nat.le_trans (Nat.le_mul_of_pos_right _ (by decide)) (Nat.le_of_lt bg))
      have m2 := m2_of n x _ _ lt xw bg
      obtain ⟨xi, hx⟩ : ∃ i : Int, i = (x : Int) := ⟨_, rfl⟩
      rw [← hx] at c
      have x0 : 0 ≤ xi ∧ xi < 18446744073709551616 := by omega
      obtain ⟨x0, x1⟩ := x0
      have HX := Lib.hid hx
      have M1 := Lib.hid m1
      have M2 := Lib.hid m2
      have hB := HB.size
      clear hx m1 m2 lt bg xw hn
      go_wp2_with fail
      refine (small_any u3 (Dg.dg n) 4294967296 _ 4294967296 (x / 4294967296) rfl ?_ (by decide) ?_ ?_ (Dg.dg_lt n) _ ?_).mono ?_
      · have := HX.out; omega
      · have := HX.out; omega
      · have := dg_small M1.out; omega
      · exact HR.out
      rintro e w1 ⟨v1, rfl, R1, hb1⟩
      rw [Dg.val_dg] at R1
      have HR1 := Lib.hid R1
      have c' : w1.cell? ⟨g, k, none⟩ = some (.int .u64 xi) := (hb1.cell (by show g < wr.heap.size; omega)).trans c
      have HB1 : Below w.heap.size w w1 := bstep HB hb1
      clear c hb1 R1
      go_wp2_with fail
      refine (small_any v1 (Dg.dg (n * 4294967296 + x / 4294967296)) 4294967296 _ 4294967296 (x % 4294967296) rfl ?_ (by decide) ?_ ?_ (Dg.dg_lt _) _ HR1.out).mono ?_
      · have := HX.out; omega
      · have := HX.out; omega
      · have := dg_small M2.out; omega
      rintro e w2 ⟨v2, rfl, R2, hb2⟩
      rw [Dg.val_dg, two_smalls] at R2
      have HR2 := Lib.hid R2
      have HB2 : Below w.heap.size w w2 := bstep HB1 hb2
      clear c' hb2 R2
      go_wp2
      go_roundg (gk - 1)
      case measure => have := E1.out; omega
      case rel => exact ⟨k + 1, by go_num, by have := E1.out; omega, by rw [nx.out, wv_snoc, HN.out]; exact HR2.out, HB2⟩
    · have ek : ws.take k = ws := List.take_of_length_le z
      have EK := Lib.hid ek
      have t0 : decide (k < ws.length) = false := by simpa using z
      clear ek
      go_wp2
      go_ret
      have q := HR.out
      rw [EK.out] at q
      exact ⟨_, rfl, q, HB⟩

/-- Two words, and four, as the document has them. -/
theorem wv2 (h l : Nat) : wv [h, l] = nv h l := by simp [wv, nv]
theorem wv4 (h l h' l' : Nat) : wv [h, l, h', l'] = nv2 h l h' l' := by
  simp only [wv, nv2, nv, B128, List.foldl]
  omega
theorem wv1 (x : Nat) : wv [x] = x := by simp [wv]

set_option maxRecDepth 100000 in
set_option maxHeartbeats 1000000 in
theorem N_any (h l : Nat) (ha : WW h l) (w : World) : Calls Tryd.prog 13 #[U h l] w (RetRow (Dg.dg (nv h l)) w) := by
  have hw : ∀ x ∈ [h, l], x < 18446744073709551616 := by
    intro x hx
    obtain ⟨a, b⟩ := ha
    simp at hx
    rcases hx with rfl | rfl
    · exact a
    · exact b
  have C := words_any (w.heap.size + 1) [h, l] 2 (Nat.le_of_ble_eq_true rfl) hw ((w.alloc (.cells #[.int .u64 (h : Int), .int .u64 (l : Int)] 24)).alloc (.cells #[.int .u64 (h : Int), .int .u64 (l : Int)] 22)) (by simp) (by
    intro k hk
    have : k = 0 ∨ k = 1 := by simp at hk; omega
    rcases this with rfl | rfl <;> simp [go_sem])
  rw [wv2] at C
  have HC := Lib.hid C
  clear hw ha C
  go_enter Tryd.func13, Tryd.ntmps13
  go_wp2_with fail
  refine (HC.out).mono ?_
  rintro e w1 ⟨v, rfl, R, hb1⟩
  have HR := Lib.hid R
  have B1 : Below w.heap.size w w1 := bstep (by go_grown) hb1
  clear R hb1
  go_wp2
  go_ret
  exact ⟨v, rfl, HR.out, B1⟩

set_option maxRecDepth 100000 in
set_option maxHeartbeats 1000000 in
theorem Two_any (h l h' l' : Nat) (ha : WW h l) (hb : WW h' l') (w : World) : Calls Tryd.prog 16 #[U h l, U h' l'] w (RetRow (Dg.dg (nv2 h l h' l')) w) := by
  have hw : ∀ x ∈ [h, l, h', l'], x < 18446744073709551616 := by
    intro x hx
    obtain ⟨a, b⟩ := ha
    obtain ⟨c, d⟩ := hb
    simp at hx
    rcases hx with rfl | rfl | rfl | rfl
    · exact a
    · exact b
    · exact c
    · exact d
  have C := words_any (w.heap.size + 1 + 1) [h, l, h', l'] 4 (Nat.le_of_ble_eq_true rfl) hw (((w.alloc (.cells #[.int .u64 (h : Int), .int .u64 (l : Int)] 24)).alloc (.cells #[.int .u64 (h' : Int), .int .u64 (l' : Int)] 24)).alloc (.cells #[.int .u64 (h : Int), .int .u64 (l : Int), .int .u64 (h' : Int), .int .u64 (l' : Int)] 22)) (by simp) (by
    intro k hk
    have : k = 0 ∨ k = 1 ∨ k = 2 ∨ k = 3 := by simp at hk; omega
    rcases this with rfl | rfl | rfl | rfl <;> simp [go_sem])
  rw [wv4] at C
  have HC := Lib.hid C
  clear hw ha hb C
  go_enter Tryd.func16, Tryd.ntmps16
  go_wp2_with fail
  refine (HC.out).mono ?_
  rintro e w1 ⟨v, rfl, R, hb1⟩
  have HR := Lib.hid R
  have B1 : Below w.heap.size w w1 := bstep (by go_grown) hb1
  clear R hb1
  go_wp2
  go_ret
  exact ⟨v, rfl, HR.out, B1⟩
end Go.Proofs.YtlcpbmjipplcdaaDoor

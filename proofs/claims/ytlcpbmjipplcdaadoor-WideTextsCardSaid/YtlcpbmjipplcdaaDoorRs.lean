/-
  The document's difference, as a contract of its call.
-/
import Derived.Test.YtlcpbmjipplcdaaDoorR7
import Derived.Deep.RegionHeld3
namespace Go.Proofs.YtlcpbmjipplcdaaDoor
open Go.RowKit

namespace Dg
/-- What is borrowed. -/
def bo (d f c : Nat) : Nat := if d < f + c then 1 else 0
/-- The difference, digit by digit. -/
def sub : List Nat → List Nat → Nat → List Nat
  | [], _, _ => []
  | a :: r, b, c => (a + 10 * bo a (b.getD 0 0) c - b.getD 0 0 - c) :: sub r b.tail (bo a (b.getD 0 0) c)
theorem val_tail (b : List Nat) : val b = b.getD 0 0 + 10 * val b.tail := by
  cases b with
  | nil => rfl
  | cons d r => rfl
theorem val_sub : ∀ (a b : List Nat) (c : Nat), (∀ d ∈ a, d < 10) → (∀ d ∈ b, d < 10) → c ≤ 1 → val b + c ≤ val a → val (sub a b c) + val b + c = val a
  | [], b, c, _, _, _, h => by
    simp only [sub, val] at h ⊢
    omega
  | a :: r, b, c, ha, hb, hc, h => by
    have h1 := ha a (by simp)
    have h2 := getD_lt hb 0
    rw [val_tail b] at h ⊢
    have ih := val_sub r b.tail (bo a (b.getD 0 0) c) (fun y hy => ha y (List.mem_cons_of_mem _ hy)) (fun y hy => hb y (List.mem_of_mem_tail hy))
    simp only [sub, val] at h ⊢
    generalize b.getD 0 0 = e at *
    generalize val b.tail = V at *
    unfold bo at *
    split at ih
    · rename_i z
      have := ih (by omega) (by omega)
      rw [if_pos z]
      omega
    · rename_i z
      have := ih (by omega) (by omega)
      rw [if_neg z]
      omega
theorem sub_lt : ∀ (a b : List Nat) (c : Nat), (∀ d ∈ a, d < 10) → (∀ d ∈ b, d < 10) → c ≤ 1 → ∀ d ∈ sub a b c, d < 10
  | [], b, c, _, _, _ => by intro d hd; cases hd
  | a :: r, b, c, ha, hb, hc => by
    intro e he
    have h1 := ha a (by simp)
    have h2 := getD_lt hb 0
    rcases List.mem_cons.1 he with rfl | he
    · unfold bo; split <;> omega
    · exact sub_lt r b.tail _ (fun y hy => ha y (List.mem_cons_of_mem _ hy)) (fun y hy => hb y (List.mem_of_mem_tail hy)) (by unfold bo; split <;> omega) e he
theorem sub_length : ∀ (a b : List Nat) (c : Nat), (sub a b c).length = a.length
  | [], b, c => rfl
  | a :: r, b, c => by simp only [sub, List.length_cons, sub_length r]
theorem sub_step (a b : List Nat) (k c : Nat) (h : k < a.length) : sub (a.drop k) (b.drop k) c = (a.getD k 0 + 10 * bo (a.getD k 0) (b.getD k 0) c - b.getD k 0 - c) :: sub (a.drop (k + 1)) (b.drop (k + 1)) (bo (a.getD k 0) (b.getD k 0) c) := by
  rw [List.drop_eq_getElem_cons h, sub]
  have e1 : (b.drop k).getD 0 0 = b.getD k 0 := by simp [List.getD]
  have e2 : (b.drop k).tail = b.drop (k + 1) := by simp
  have e3 : a.getD k 0 = a[k] := by simp [List.getD, h]
  rw [e1, e2, e3]
end Dg

/-- Where the difference of the digits a and b stands: o has been written, c is borrowed. -/
def SubRel (w : World) (a b T : List Nat) (m : Nat) (d c k : Value) (W : World) : Prop :=
  ∃ (o : List Nat) (n cc : Nat), k = .int .i64 (n : Int) ∧ c = .int .i64 (cc : Int) ∧ o ++ Dg.sub (a.drop n) (b.drop n) cc = T ∧ o.length = n ∧ cc ≤ 1 ∧ n + m = a.length ∧
    W.ownsRow w.heap.size 3 1 d n (o.map fun d : Nat => Value.int .i64 (d : Int)) ∧ Below w.heap.size w W

set_option maxRecDepth 100000 in
set_option maxHeartbeats 4000000 in
theorem rsub_any (v1 v2 : Value) (a b : List Nat) (la : a.length ≤ 20000) (lb : b.length ≤ 20000) (da : ∀ d ∈ a, d < 10) (db : ∀ d ∈ b, d < 10) (le : Dg.val b ≤ Dg.val a) (w : World) (h1 : Row w v1 a) (h2 : Row w v2 b) :
    Calls Tryd.prog 58 #[v1, v2] w (RetRow (Dg.dg (Dg.val a - Dg.val b)) w) := by
  obtain ⟨i0, hi0, hz0, hz1, hz2⟩ := info_parts int_info
  have H1 := Lib.hid h1
  have H2 := Lib.hid h2
  have DA := Lib.hid da
  have DB := Lib.hid db
  have F1 := Lib.hid h1.form
  obtain ⟨A, ca, rfl⟩ := slice_of h1
  obtain ⟨B, cb, rfl⟩ := slice_of h2
  obtain ⟨T, hT⟩ : ∃ T, T = Dg.sub a b 0 := ⟨_, rfl⟩
  have TL : T.length ≤ 20000 := by rw [hT, Dg.sub_length]; exact la
  have TV : Dg.val T = Dg.val a - Dg.val b := by have := Dg.val_sub a b 0 da db (by omega) (by omega); rw [← hT] at this; omega
  have TD := Lib.hid (Dg.sub_lt a b 0 da db (by omega))
  rw [← hT] at TD
  rw [← TV]
  have HT := Lib.hid hT
  clear h1 h2 da db hT TV le
  go_enter Tryd.func58, Tryd.ntmps58
  go_wp2
  go_loopg [5, 6, 7] a.length (fun m d c k W => SubRel w a b T m d c k W)
  case atStart => exact ⟨[], 0, 0, rfl, rfl, by rw [List.drop_zero, List.drop_zero, HT.out]; rfl, rfl, by omega, by omega, ⟨rfl, .inl ⟨rfl, rfl⟩⟩, Below.refl _ _⟩
  case round =>
    obtain ⟨o, n, cc, rfl, rfl, e1, e2, c1, e3, own, HB⟩ := hrel
    have E1 := Lib.hid e1
    have E2 := Lib.hid e2
    have E3 := Lib.hid e3
    have base := HB.size
    rcases Nat.eq_zero_or_pos gk with z | z
    · have t1 : decide (n < a.length) = false := by simp; omega
      have D : Dg.sub (a.drop n) (b.drop n) cc = [] := by rw [List.drop_eq_nil_of_le (by omega)]; rfl
      have eo : o = T := by have := E1.out; rw [D, List.append_nil] at this; exact this
      have R : Row wr u5 T := by
        have q := own
        rw [← E2.out, eo] at q
        exact row_of q
      have HR := Lib.hid R
      clear own R eo D e1 e2 e3 c1 z
      go_wp2_with fail
      refine (trim_any _ T (by omega) TD.out _ HR.out).mono ?_
      rintro e w1 ⟨v1, rfl, R1, hb1⟩
      have HR1 := Lib.hid R1
      clear R1
      go_wp2
      go_ret
      exact ⟨v1, rfl, HR1.out, bstep HB hb1⟩
    · have nl : n < a.length := by omega
      have t1 : decide (n < a.length) = true := by simpa using nl
      have S := Lib.hid (Dg.sub_step a b n cc nl)
      have d9 := Dg.getD_lt DA.out n
      have f9 := Dg.getD_lt DB.out n
      have AT := Lib.hid (fun W (hW : Below w.heap.size w W) => at_any _ b n (by omega) (by omega) W (H2.out.below hW))
      obtain ⟨g2, c2, p1, p2, p3, p4⟩ : ∃ g c, Value.slice A a.length ca = .slice (some ⟨g, 0, none⟩) a.length c ∧ a.length ≤ c ∧ g < w.heap.size ∧ ∀ k, k < a.length → w.cell? ⟨g, k, none⟩ = some (.int .i64 ((a.getD k 0 : Nat) : Int)) := by
        rcases F1.out with ⟨_, e⟩ | ⟨g, c, e, f1, _, f2, f3⟩
        · subst e; simp at nl
        · exact ⟨g, c, e, f1, f2, f3⟩
      have c := (HB.cell (p := ⟨g2, n, none⟩) p3).trans (p4 n nl)
      injection p1 with p1 _ p1'
      subst p1 p1'
      generalize a.getD n 0 = d at *
      generalize b.getD n 0 = f at *
      obtain ⟨ci, hc⟩ : ∃ p : Int, p = (cc : Int) := ⟨_, rfl⟩
      have c2 : 0 ≤ ci ∧ ci ≤ 1 := by omega
      obtain ⟨c2, c3⟩ := c2
      have HC := Lib.hid hc
      have n1 : n ≤ 20000 := by omega
      have k0 : (0 : Int) ≤ (n : Int) := by omega
      have k1 : (n : Int) < (a.length : Int) := by omega
      rw [← hc]
      have HBB := Lib.hid HB
      by_cases st : d < f + cc
      · have t2 : decide ((d : Int) - f - ci < 0) = true := by simp; omega
        have ebo : Dg.bo d f cc = 1 := if_pos st
        rw [ebo] at S
        have st' : (d : Int) < f + ci := by omega
        clear st hc e1 e2 e3 c1 p4 ebo
        go_wp2
        go_region_held3 (fun w' => w'.cell? ⟨g2, n, none⟩ = some (.int .i64 (d : Int)) ∧ Below wr.heap.size wr w') (first | assumption | exact ⟨c, (Below.refl _ _).drew⟩ | exact ⟨by assumption, by assumption⟩)
          (first
            | (go_at_call 81; refine (AT.out _ (bstep HBB.out (And.right (by assumption)))).mono ?_; rintro e w1 ⟨rfl, rfl⟩))
        all_goals
          go_wp2_with (at_builtin; refine wpList_append_own _ rfl (.tmp 29) (.tmp 31) _ rfl w.heap.size 3 i0 _ 1 8 Tryd.underlying29 hi0 hz0 hz1 hz2 rfl (by omega) u5 n (o.map fun d : Nat => Value.int .i64 (d : Int)) rfl (own.alloc _) ⟨wr.heap.size, 0, none⟩ 1 1 [.int .i64 ((d : Int) - f - ci + 10)] rfl rfl (cell_one_new _ _ _) (by intro u hu; rw [List.mem_singleton.1 hu]; rfl) (by simp only [maxLen]; omega) (by omega) (by simp; omega) ?_)
          intro v' w' hown hg _
          have OW := Lib.hid hown
          have BB : Below w.heap.size w w' := (HBB.out.drew.alloc base _).grown hg (by simp; omega) (fun k hk => (own.lt k hk).1)
          clear hown hg
          go_wp2
          go_roundg (gk - 1)
          case measure => omega
          case rel =>
            have hc := HC.out
            have e1 := E1.out
            have e2 := E2.out
            have e3 := E3.out
            refine ⟨o ++ [d + 10 * 1 - f - cc], n + 1, 1, by go_num, rfl, ?_, ?_, ?_, ?_, ?_, BB⟩
            · rw [List.append_assoc, List.singleton_append, ← S.out]; exact e1
            · rw [List.length_append, e2]; rfl
            · omega
            · omega
            · rw [List.map_append]
              have e : Value.int .i64 ((d : Int) - f - ci + 10) = Value.int .i64 ((d + 10 * 1 - f - cc : Nat) : Int) := int_eq' (by omega)
              have q := OW.out
              rw [e] at q
              exact q
      · have t2 : decide ((d : Int) - f - ci < 0) = false := by simp; omega
        have ebo : Dg.bo d f cc = 0 := if_neg st
        rw [ebo] at S
        have st' : (f : Int) + ci ≤ d := by omega
        clear st hc e1 e2 e3 c1 p4 ebo
        go_wp2
        go_region_held3 (fun w' => w'.cell? ⟨g2, n, none⟩ = some (.int .i64 (d : Int)) ∧ Below wr.heap.size wr w') (first | assumption | exact ⟨c, (Below.refl _ _).drew⟩ | exact ⟨by assumption, by assumption⟩)
          (first
            | (go_at_call 81; refine (AT.out _ (bstep HBB.out (And.right (by assumption)))).mono ?_; rintro e w1 ⟨rfl, rfl⟩))
        all_goals
          go_wp2_with (at_builtin; refine wpList_append_own _ rfl (.tmp 29) (.tmp 31) _ rfl w.heap.size 3 i0 _ 1 8 Tryd.underlying29 hi0 hz0 hz1 hz2 rfl (by omega) u5 n (o.map fun d : Nat => Value.int .i64 (d : Int)) rfl (own.alloc _) ⟨wr.heap.size, 0, none⟩ 1 1 [.int .i64 ((d : Int) - f - ci)] rfl rfl (cell_one_new _ _ _) (by intro u hu; rw [List.mem_singleton.1 hu]; rfl) (by simp only [maxLen]; omega) (by omega) (by simp; omega) ?_)
          intro v' w' hown hg _
          have OW := Lib.hid hown
          have BB : Below w.heap.size w w' := (HBB.out.drew.alloc base _).grown hg (by simp; omega) (fun k hk => (own.lt k hk).1)
          clear hown hg
          go_wp2
          go_roundg (gk - 1)
          case measure => omega
          case rel =>
            have hc := HC.out
            have e1 := E1.out
            have e2 := E2.out
            have e3 := E3.out
            refine ⟨o ++ [d + 10 * 0 - f - cc], n + 1, 0, by go_num, rfl, ?_, ?_, ?_, ?_, ?_, BB⟩
            · rw [List.append_assoc, List.singleton_append, ← S.out]; exact e1
            · rw [List.length_append, e2]; rfl
            · omega
            · omega
            · rw [List.map_append]
              have e : Value.int .i64 ((d : Int) - f - ci) = Value.int .i64 ((d + 10 * 0 - f - cc : Nat) : Int) := int_eq' (by omega)
              have q := OW.out
              rw [e] at q
              exact q
end Go.Proofs.YtlcpbmjipplcdaaDoor

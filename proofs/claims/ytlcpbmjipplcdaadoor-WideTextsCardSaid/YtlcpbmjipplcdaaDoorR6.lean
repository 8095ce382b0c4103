/-
  The document's comparison, as a contract of its call.
-/
import Derived.Test.YtlcpbmjipplcdaaDoorR5
import Derived.Test.YtlcpbmjipplcdaaDoorC
import Derived.BigQuiet
namespace Go.Proofs.YtlcpbmjipplcdaaDoor
open Go.RowKit

def CmpRel (w : World) (a b : List Nat) (j : Nat) (k : Value) (W : World) : Prop := k = .int .i64 ((j : Int) - 1) ∧ j ≤ a.length ∧ a.drop j = b.drop j ∧ Below w.heap.size w W

theorem drop_more {a b : List Nat} {i : Nat} (h1 : i < a.length) (h2 : i < b.length) (e : a.drop (i + 1) = b.drop (i + 1)) (d : a.getD i 0 = b.getD i 0) : a.drop i = b.drop i := by
  rw [List.drop_eq_getElem_cons h1, List.drop_eq_getElem_cons h2, e]
  simp [List.getD, h1, h2] at d
  rw [d]

set_option maxRecDepth 100000 in
set_option maxHeartbeats 4000000 in
theorem rcmp_any (v1 v2 : Value) (m n : Nat) (la : (Dg.dg m).length ≤ 20000) (lb : (Dg.dg n).length ≤ 20000) (w : World) (h1 : Row w v1 (Dg.dg m)) (h2 : Row w v2 (Dg.dg n)) :
    Calls Tryd.prog 12 #[v1, v2] w (RetI (cmpN m n) w) := by
  obtain ⟨A, ca, rfl⟩ := slice_of h1
  obtain ⟨B, cb, rfl⟩ := slice_of h2
  rcases Nat.lt_trichotomy (Dg.dg m).length (Dg.dg n).length with z | z | z
  · rw [cmpN_lt (Dg.lt_of_length z)]
    generalize (Dg.dg m).length = x at *
    generalize (Dg.dg n).length = y at *
    have t : ((x : Int) != y) = true := by simp; omega
    clear h1 h2
    go_enter Tryd.func12, Tryd.ntmps12
    go_wp2
    go_ret
    exact ⟨rfl, Below.refl _ _⟩
  · have va := Dg.val_dg m
    have vb := Dg.val_dg n
    have da := Dg.dg_lt m
    have db := Dg.dg_lt n
    have F1 := h1.form
    have F2 := h2.form
    have C : cmpN m n = cmpN (Dg.val (Dg.dg m)) (Dg.val (Dg.dg n)) := by rw [va, vb]
    rw [C]
    clear va vb C
    generalize Dg.dg m = a at *
    generalize Dg.dg n = b at *
    clear m n
    have HF1 := Lib.hid F1
    have HF2 := Lib.hid F2
    have DA := Lib.hid da
    have DB := Lib.hid db
    have ZZ := Lib.hid z
    rw [← z]
    rw [← z] at lb
    clear F1 F2 da db h1 h2 z
    go_enter Tryd.func12, Tryd.ntmps12
    go_wp2
    go_loopg [5] a.length (fun j k W => CmpRel w a b j k W)
    case atStart => exact ⟨rfl, Nat.le_refl _, by rw [List.drop_length, ZZ.out, List.drop_length], Below.refl _ _⟩
    case round =>
      obtain ⟨rfl, r1, r2, HB⟩ := hrel
      have R2 := Lib.hid r2
      clear r2
      rcases Nat.eq_zero_or_pos gk with g0 | g0
      · subst g0
        have e0 : a = b := by have := R2.out; simpa using this
        have E0 := Lib.hid e0
        have ek : (((0 : Nat) : Int) - 1) = -1 := rfl
        rw [ek]
        clear e0 ek
        go_wp2
        go_ret
        exact ⟨congrArg Ending.returned (int_eq' (by rw [E0.out, cmpN_eq])), HB⟩
      · obtain ⟨i, rfl⟩ : ∃ i, gk = i + 1 := ⟨gk - 1, by omega⟩
        obtain ⟨g1, c1, q1, q2, q3, q4⟩ : ∃ g c, Value.slice A a.length ca = .slice (some ⟨g, 0, none⟩) a.length c ∧ a.length ≤ c ∧ g < w.heap.size ∧ ∀ k, k < a.length → w.cell? ⟨g, k, none⟩ = some (.int .i64 ((a.getD k 0 : Nat) : Int)) := by
          rcases HF1.out with ⟨_, e⟩ | ⟨g, c, e, f1, _, f2, f3⟩
          · subst e; simp at r1
          · exact ⟨g, c, e, f1, f2, f3⟩
        obtain ⟨g2, c2, p1, p2, p3, p4⟩ : ∃ g c, Value.slice B a.length cb = .slice (some ⟨g, 0, none⟩) a.length c ∧ a.length ≤ c ∧ g < w.heap.size ∧ ∀ k, k < a.length → w.cell? ⟨g, k, none⟩ = some (.int .i64 ((b.getD k 0 : Nat) : Int)) := by
          rcases HF2.out with ⟨_, e⟩ | ⟨g, c, e, f1, _, f2, f3⟩
          · subst e; have := ZZ.out; simp at this; rw [this] at r1; simp at r1
          · exact ⟨g, c, by rw [ZZ.out]; exact e, by rw [ZZ.out]; exact f1, f2, fun k hk => f3 k (by rw [← ZZ.out]; exact hk)⟩
        have x1 := (HB.cell (p := ⟨g1, i, none⟩) q3).trans (q4 i (by omega))
        have x2 := (HB.cell (p := ⟨g2, i, none⟩) p3).trans (p4 i (by omega))
        injection q1 with q1 _ q1'
        injection p1 with p1 _ p1'
        subst q1 q1' p1 p1'
        have ek : (((i + 1 : Nat) : Int) - 1) = (i : Int) := by omega
        rw [ek]
        have DM := Lib.hid (@drop_more a b i (by omega) (by have := ZZ.out; omega) R2.out)
        have LT := Lib.hid (@Dg.lt_at a b DA.out i (by omega) (by have := ZZ.out; omega) R2.out)
        have GT := Lib.hid (@Dg.lt_at b a DB.out i (by have := ZZ.out; omega) (by omega) R2.out.symm)
        generalize a.getD i 0 = d at *
        generalize b.getD i 0 = f at *
        clear q4 p4 ek HF1 HF2
        rcases Nat.lt_trichotomy d f with y | y | y
        · have y1 : decide (d < f) = true := by simpa using y
          go_wp2
          go_region
          all_goals
            go_wp2
            go_ret
            exact ⟨congrArg Ending.returned (int_eq' (cmpN_lt (LT.out y)).symm), HB.drew⟩
        · subst y
          go_wp2
          go_region
          all_goals
            go_wp2
            go_region
            all_goals
              go_wp2
              go_roundg i
              case measure => omega
              case rel => exact ⟨rfl, by omega, DM.out trivial, HB.drew.drew⟩
        · have y1 : decide (d < f) = false := by simp; omega
          have y2 : decide (f < d) = true := by simpa using y
          go_wp2
          go_region
          all_goals
            go_wp2
            go_region
            all_goals
              go_wp2
              go_ret
              exact ⟨congrArg Ending.returned (int_eq' (cmpN_gt (GT.out y)).symm), HB.drew.drew⟩
  · rw [cmpN_gt (Dg.lt_of_length z)]
    generalize (Dg.dg m).length = x at *
    generalize (Dg.dg n).length = y at *
    have t : ((x : Int) != y) = true := by simp; omega
    clear h1 h2
    go_enter Tryd.func12, Tryd.ntmps12
    go_wp2
    go_ret
    exact ⟨rfl, Below.refl _ _⟩
end Go.Proofs.YtlcpbmjipplcdaaDoor

/-
  The document's sum, as a contract of its call.
-/
import Derived.Test.YtlcpbmjipplcdaaDoorR2
import Derived.Test.YtlcpbmjipplcdaaDoorR4
namespace Go.Proofs.YtlcpbmjipplcdaaDoor
open Go.RowKit

/-- Where the sum of the digits a and b stands: o has been written, c goes over. -/
def AddRel (w : World) (a b T : List Nat) (m : Nat) (d c k : Value) (W : World) : Prop :=
  ∃ (o : List Nat) (n cc : Nat), k = .int .i64 (n : Int) ∧ c = .int .i64 (cc : Int) ∧ o ++ Dg.add (a.drop n) (b.drop n) cc = T ∧ o.length = n ∧ cc ≤ 1 ∧ m = (Dg.add (a.drop n) (b.drop n) cc).length ∧
    W.ownsRow w.heap.size 3 1 d n (o.map fun d : Nat => Value.int .i64 (d : Int)) ∧ Below w.heap.size w W

theorem slice_of {w : World} {v : Value} {a : List Nat} (h : Row w v a) : ∃ A cap, v = .slice A a.length cap := by
  rcases h.form with ⟨rfl, rfl⟩ | ⟨g, cap, rfl, _⟩
  · exact ⟨_, _, rfl⟩
  · exact ⟨_, _, rfl⟩

set_option maxRecDepth 100000 in
set_option maxHeartbeats 4000000 in
theorem radd_any (v1 v2 : Value) (a b : List Nat) (la : a.length ≤ 20000) (lb : b.length ≤ 20000) (da : ∀ d ∈ a, d < 10) (db : ∀ d ∈ b, d < 10) (w : World) (h1 : Row w v1 a) (h2 : Row w v2 b) :
    Calls Tryd.prog 56 #[v1, v2] w (RetRow (Dg.dg (Dg.val a + Dg.val b)) w) := by
  obtain ⟨i0, hi0, hz0, hz1, hz2⟩ := info_parts int_info
  have H1 := Lib.hid h1
  have H2 := Lib.hid h2
  have DA := Lib.hid da
  have DB := Lib.hid db
  obtain ⟨A, ca, rfl⟩ := slice_of h1
  obtain ⟨B, cb, rfl⟩ := slice_of h2
  obtain ⟨T, hT⟩ : ∃ T, T = Dg.add a b 0 := ⟨_, rfl⟩
  have TL : T.length ≤ 40001 := by have := Dg.add_length a b 0 da db (by omega); rw [← hT] at this; omega
  have HT := Lib.hid hT
  clear h1 h2 da db hT
  go_enter Tryd.func56, Tryd.ntmps56
  go_wp2
  go_loopg [5, 6, 7] T.length (fun m d c k W => AddRel w a b T m d c k W)
  case atStart => exact ⟨[], 0, 0, rfl, rfl, by rw [List.drop_zero, List.drop_zero, HT.out]; rfl, rfl, by omega, by rw [List.drop_zero, List.drop_zero, HT.out], ⟨rfl, .inl ⟨rfl, rfl⟩⟩, Below.refl _ _⟩
  case round =>
    obtain ⟨o, n, cc, rfl, rfl, e1, e2, c1, e3, own, HB⟩ := hrel
    have E1 := Lib.hid e1
    have E2 := Lib.hid e2
    have E3 := Lib.hid e3
    have nT : n + gk = T.length := by rw [← e1, List.length_append, e2, e3]
    have n1 : n ≤ 40001 := by omega
    have base := HB.size
    clear e1 e2 e3 nT
    obtain ⟨ci, hc⟩ : ∃ p : Int, p = (cc : Int) := ⟨_, rfl⟩
    have c2 : 0 ≤ ci ∧ ci ≤ 1 := by omega
    obtain ⟨c2, c3⟩ := c2
    have HC := Lib.hid hc
    by_cases st : a.length ≤ n ∧ b.length ≤ n ∧ cc = 0
    · obtain ⟨s1, s2, s3⟩ := st
      have D := Dg.add_done a b n cc ⟨s1, s2, s3⟩
      have eo : o = T := by have := E1.out; rw [D, List.append_nil] at this; exact this
      have R : Row wr u5 T := by
        have q := own
        rw [← E2.out, eo] at q
        exact row_of q
      have HR := Lib.hid R
      have t1 : decide (n < a.length) = false := by simpa using s1
      have t2 : decide (n < b.length) = false := by simpa using s2
      have t3 : decide (0 < ci) = false := by simp; omega
      rw [← hc]
      clear own R eo D s3 hc c1 c2 c3
      go_wp2_with fail
      refine (trim_any _ T (by omega) (by rw [HT.out]; exact Dg.add_lt a b 0) _ HR.out).mono ?_
      rintro e w1 ⟨v1, rfl, R1, hb1⟩
      have HR1 := Lib.hid R1
      clear R1
      go_wp2
      go_ret
      refine ⟨v1, rfl, ?_, bstep HB hb1⟩
      have q := HR1.out
      unfold trim at q
      rw [HT.out, Dg.val_add, Nat.add_zero] at q
      exact q
    · have S := Lib.hid (Dg.add_step a b n cc st)
      have d9 := Dg.getD_lt DA.out n
      have f9 := Dg.getD_lt DB.out n
      have AT1 := Lib.hid (at_any _ a n (by omega) (by omega) wr (H1.out.below HB))
      have AT2 := Lib.hid (at_any _ b n (by omega) (by omega) wr (H2.out.below HB))
      have gp : gk ≠ 0 := by
        rw [E3.out, S.out]; simp
      have t3 : (decide (n < a.length) = true) ∨ (decide (n < a.length) = false ∧ decide (n < b.length) = true) ∨ (decide (n < a.length) = false ∧ decide (n < b.length) = false ∧ decide (0 < ci) = true) := by
        rcases Nat.lt_or_ge n a.length with z | z
        · exact .inl (by simpa using z)
        · rcases Nat.lt_or_ge n b.length with y | y
          · exact .inr (.inl ⟨by simpa using z, by simpa using y⟩)
          · exact .inr (.inr ⟨by simpa using z, by simpa using y, by simp; omega⟩)
      generalize a.getD n 0 = d at *
      generalize b.getD n 0 = f at *
      rw [← hc]
      clear st hc
      rcases t3 with t3 | ⟨t3, t4⟩ | ⟨t3, t4, t5⟩
      all_goals
        go_wp2_with fail
        refine (AT1.out).mono ?_
        rintro e w1 ⟨rfl, rfl⟩
        go_wp2_with fail
        refine (AT2.out).mono ?_
        rintro e w1 ⟨rfl, rfl⟩
        go_wp2_with (at_builtin; refine wpList_append_own _ rfl (.tmp 34) (.tmp 37) _ rfl w.heap.size 3 i0 _ 1 8 Tryd.underlying29 hi0 hz0 hz1 hz2 rfl (by omega) u5 n (o.map fun d : Nat => Value.int .i64 (d : Int)) rfl (own.alloc _) ⟨wr.heap.size, 0, none⟩ 1 1 [.int .i64 (((d : Int) + f + ci) % 10)] rfl rfl (cell_one_new _ _ _) (by intro u hu; rw [List.mem_singleton.1 hu]; rfl) (by simp only [maxLen]; omega) (by omega) (by simp; omega) ?_)
        intro v' w' hown hg _
        have OW := Lib.hid hown
        have BB : Below w.heap.size w w' := (HB.alloc base _).grown hg (by simp; omega) (fun k hk => (own.lt k hk).1)
        clear hown hg
        go_wp2
        go_roundg (gk - 1)
        case measure => omega
        case rel =>
          have hc := HC.out
          refine ⟨o ++ [(d + f + cc) % 10], n + 1, (d + f + cc) / 10, by go_num, int_eq' (by omega), ?_, ?_, ?_, ?_, ?_, BB⟩
          · rw [List.append_assoc, List.singleton_append, ← S.out]; exact E1.out
          · rw [List.length_append, E2.out]; rfl
          · omega
          · rw [E3.out, S.out]; simp
          · rw [List.map_append]
            have e : Value.int .i64 (((d : Int) + f + ci) % 10) = Value.int .i64 (((d + f + cc) % 10 : Nat) : Int) := int_eq' (by omega)
            have q := OW.out
            rw [e] at q
            exact q
end Go.Proofs.YtlcpbmjipplcdaaDoor

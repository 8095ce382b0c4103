/-
  The document's product with a small number, as a contract of its call.
-/
import Derived.Test.YtlcpbmjipplcdaaDoorR1
namespace Go.Proofs.YtlcpbmjipplcdaaDoor
open Go.RowKit

/-- Where the product of the digits a with x stands: o has been written, c goes over. -/
def SmallRel (w : World) (a T : List Nat) (x m : Nat) (d c k : Value) (W : World) : Prop :=
  ∃ (o : List Nat) (n cc : Nat), d = d ∧ k = .int .i64 (n : Int) ∧ c = .int .i64 (cc : Int) ∧ o ++ Dg.small x (a.drop n) cc = T ∧ o.length = n ∧ cc ≤ 4294967296 ∧ m = (Dg.small x (a.drop n) cc).length ∧
    W.ownsRow w.heap.size 3 1 d n (o.map fun d : Nat => Value.int .i64 (d : Int)) ∧ Below w.heap.size w W

theorem row_of {W : World} {v : Value} {o : List Nat} {b : Nat} (h : W.ownsRow b 3 1 v o.length (o.map fun d : Nat => Value.int .i64 (d : Int))) : Row W v o := by
  refine ⟨h.1, ?_⟩
  rcases h.2 with h0 | ⟨g, cap, cur, h1, _, h2⟩
  · exact .inl h0
  · exact .inr ⟨g, cap, cur, h1, Nat.zero_le _, h2⟩

theorem int_eq' {k : IntKind} {a b : Int} (h : a = b) : Value.int k a = Value.int k b := by rw [h]

set_option maxRecDepth 100000 in
set_option maxHeartbeats 2000000 in
theorem small_any (v : Value) (a : List Nat) (xi ai : Int) (x add : Nat) (hx : xi = (x : Int)) (ha : ai = (add : Int)) (x1 : x ≤ 4294967296) (a1 : add ≤ 4294967296) (hl : a.length ≤ 50000) (hd : ∀ d ∈ a, d < 10) (w : World) (h : Row w v a) :
    Calls Tryd.prog 60 #[v, .int .i64 xi, .int .i64 ai] w (RetRow (Dg.dg (Dg.val a * x + add)) w) := by
  obtain ⟨i0, hi0, hz0, hz1, hz2⟩ := info_parts int_info
  have H := Lib.hid h
  have HD := Lib.hid hd
  obtain ⟨A, len, cap, hv, hlen⟩ : ∃ A len cap, v = .slice A len cap ∧ len = a.length := by
    rcases h.form with ⟨rfl, rfl⟩ | ⟨g, cap, rfl, _⟩
    · exact ⟨_, _, _, rfl, rfl⟩
    · exact ⟨_, _, _, rfl, rfl⟩
  subst hv hlen
  obtain ⟨T, hT⟩ : ∃ T, T = Dg.small x a add := ⟨_, rfl⟩
  have TL : T.length ≤ 50010 := by have := Dg.small_length x x1 a add hd a1; rw [← hT] at this; omega
  have HT := Lib.hid hT
  have X1 := Lib.hid x1
  have A1 := Lib.hid a1
  have HX := Lib.hid hx
  have HA := Lib.hid ha
  clear h hd hT x1 a1 hx ha
  go_enter Tryd.func60, Tryd.ntmps60
  go_wp2
  go_loopg [7, 8, 9] T.length (fun m d c k W => SmallRel w a T x m d c k W)
  case atStart => exact ⟨[], 0, add, rfl, rfl, by rw [HA.out], by rw [List.drop_zero, HT.out]; rfl, rfl, A1.out, by rw [List.drop_zero, HT.out], ⟨rfl, .inl ⟨rfl, rfl⟩⟩, Below.refl _ _⟩
  case round =>
    obtain ⟨o, n, cc, _, rfl, rfl, e1, e2, c1, e3, own, HB⟩ := hrel
    have E1 := Lib.hid e1
    have E2 := Lib.hid e2
    have E3 := Lib.hid e3
    have nT : n + gk = T.length := by rw [← e1, List.length_append, e2, e3]
    have C1 := Lib.hid c1
    have n1 : n ≤ 50010 := by omega
    have NT := Lib.hid nT
    clear e1 e2 e3 c1 nT
    by_cases st : a.length ≤ n ∧ cc = 0
    · obtain ⟨s1, s2⟩ := st
      subst s2
      have D := Lib.hid (Dg.small_done x a n 0 ⟨s1, rfl⟩)
      have eo : o = T := by have := E1.out; rw [D.out, List.append_nil] at this; exact this
      have EO := Lib.hid eo
      have EN : T.length = n := by rw [← E2.out, eo]
      have ENh := Lib.hid EN
      clear eo EN
      have own' := Lib.hid own
      have R : Row wr u7 T := by
        have q := own'.out
        rw [← ENh.out, EO.out] at q
        exact row_of q
      have HR := Lib.hid R
      clear own R
      obtain ⟨ci, hc⟩ : ∃ p : Int, p = ((0 : Nat) : Int) := ⟨_, rfl⟩
      have c0 : decide (0 < ci) = false := by rw [hc]; rfl
      have k0 : decide (n < a.length) = false := by simpa using s1
      rw [← hc]
      clear hc
      go_wp2_with fail
      refine (trim_any _ T (by have := TL; omega) (by rw [HT.out]; exact Dg.small_lt x a add) _ HR.out).mono ?_
      rintro e w1 ⟨v1, rfl, R1, hb1⟩
      have HR1 := Lib.hid R1
      clear R1
      go_wp2
      go_ret
      refine ⟨v1, rfl, ?_, bstep HB hb1⟩
      have q := HR1.out
      unfold trim at q
      rw [HT.out, Dg.val_small] at q
      exact q
    · have S := Lib.hid (Dg.small_step x a n cc st)
      have d9 := Dg.getD_lt HD.out n
      have AT := Lib.hid (at_any _ a n (by omega) (by omega) wr (H.out.below HB))
      have gp : gk ≠ 0 := by
        rw [E3.out, S.out]; simp
      have tst : (n < a.length) ∨ (a.length ≤ n ∧ 0 < cc) := by omega
      generalize a.getD n 0 = d at *
      have p1 : d * x ≤ 9 * 4294967296 := Nat.mul_le_mul d9 X1.out
      obtain ⟨pi, hp⟩ : ∃ p : Int, p = ((d * x : Nat) : Int) := ⟨_, rfl⟩
      obtain ⟨ci, hc⟩ : ∃ p : Int, p = (cc : Int) := ⟨_, rfl⟩
      have wp1 : wrap64 ((d : Int) * xi) = pi := by
        rw [HX.out, ← Int.natCast_mul, ← hp]
        exact IntWalk.wrap64_in _ ⟨by omega, by omega⟩
      have p2 : 0 ≤ pi ∧ pi ≤ 38654705664 := by omega
      have c2 : 0 ≤ ci ∧ ci ≤ 4294967296 := by have := C1.out; omega
      have HP := Lib.hid hp
      have HC := Lib.hid hc
      have P1 := Lib.hid p1
      obtain ⟨p2, p3⟩ := p2
      obtain ⟨c2, c3⟩ := c2
      have base := HB.size
      have t2 : n < a.length ∨ 0 < ci := by omega
      rw [← hc]
      clear p1 d9 hp hc st tst
      have t3 : (decide (n < a.length) = true) ∨ (decide (n < a.length) = false ∧ decide (0 < ci) = true) := by
        rcases Nat.lt_or_ge n a.length with z | z
        · exact .inl (by simpa using z)
        · exact .inr ⟨by simpa using z, by simp; omega⟩
      clear t2
      rcases t3 with t3 | ⟨t3, t4⟩
      all_goals
        go_wp2_with fail
        refine (AT.out).mono ?_
        rintro e w1 ⟨rfl, rfl⟩
        go_wp2_with (at_builtin; refine wpList_append_own _ rfl (.tmp 29) (.tmp 32) _ rfl w.heap.size 3 i0 _ 1 8 Tryd.underlying29 hi0 hz0 hz1 hz2 rfl (by omega) u7 n (o.map fun d : Nat => Value.int .i64 (d : Int)) rfl (own.alloc _) ⟨wr.heap.size, 0, none⟩ 1 1 [.int .i64 ((pi + ci) % 10)] rfl rfl (cell_one_new _ _ _) (by intro u hu; rw [List.mem_singleton.1 hu]; rfl) (by simp only [maxLen]; omega) (by omega) (by simp; omega) ?_)
        intro v' w' hown hg _
        have OW := Lib.hid hown
        have BB : Below w.heap.size w w' := (HB.alloc base _).grown hg (by simp; omega) (fun k hk => (own.lt k hk).1)
        clear hown hg
        go_wp2
        go_roundg (gk - 1)
        case measure => omega
        case rel =>
          have hp := HP.out
          have hc := HC.out
          have p1 := P1.out
          have c1 := C1.out
          refine ⟨o ++ [(d * x + cc) % 10], n + 1, (d * x + cc) / 10, rfl, by go_num, int_eq' (by omega), ?_, ?_, ?_, ?_, ?_, BB⟩
          · rw [List.append_assoc, List.singleton_append, ← S.out]; exact E1.out
          · rw [List.length_append, E2.out]; rfl
          · omega
          · rw [E3.out, S.out]; simp
          · rw [List.map_append]
            have e : Value.int .i64 ((pi + ci) % 10) = Value.int .i64 (((d * x + cc) % 10 : Nat) : Int) := int_eq' (by omega)
            have q := OW.out
            rw [e] at q
            exact q
end Go.Proofs.YtlcpbmjipplcdaaDoor

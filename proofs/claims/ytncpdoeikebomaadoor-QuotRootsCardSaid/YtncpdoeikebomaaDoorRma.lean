/-
  Several texts in one: each one's own remark stands ahead of it.
-/
import Derived.Test.YtncpdoeikebomaaDoorB
import Derived.Test.YtncpdoeikebomaaDoorR0
import Derived.Deep.LoopGhost
import Derived.Maps.AppendAt
import Derived.Deep.AppendLies
import Derived.Test.YtncpdoeikebomaaDoorC
import Derived.Test.YtncpdoeikebomaaDoorR4
import Derived.BigQuiet
import Derived.Laws.AppendOwnNone
import Derived.Deep.RegionHeld3
import Derived.Deep.DeepCutAuto
/-
  The document's digits as slices of the program: reading one, and leaving out the noughts above, each as a contract of its call.
-/
namespace Go.Proofs.YtncpdoeikebomaaDoor
open Go.RowKit

/-- The slice v, made by the program itself, holds the digits l. -/
def Row (W : World) (v : Value) (l : List Nat) : Prop := W.ownsRow 0 3 1 v l.length (l.map fun d : Nat => Value.int .i64 (d : Int))

theorem Row.nil {W : World} : Row W (.slice none 0 0) [] := ⟨rfl, .inl ⟨rfl, rfl⟩⟩
theorem Row.form {W : World} {v : Value} {l : List Nat} (h : Row W v l) : (v = .slice none 0 0 ∧ l = []) ∨
    ∃ g cap, v = .slice (some ⟨g, 0, none⟩) l.length cap ∧ l.length ≤ cap ∧ cap ≤ maxLen ∧ g < W.heap.size ∧ ∀ k, k < l.length → W.cell? ⟨g, k, none⟩ = some (.int .i64 ((l.getD k 0 : Nat) : Int)) := by
  rcases h.2 with ⟨rfl, h0⟩ | ⟨g, cap, cur, rfl, hb, hh, h1, h2, h3, h4⟩
  · exact .inl ⟨rfl, List.eq_nil_of_length_eq_zero h0⟩
  · refine .inr ⟨g, cap, rfl, h1, h2, ?_, fun k hk => ?_⟩
    · rcases Nat.lt_or_ge g W.heap.size with x | x
      · exact x
      · rw [Array.getElem?_eq_none x] at hh; cases hh
    · have := World.ownsRow.cellAt h k (by omega)
      rw [this]
      simp [List.getD, hk]
theorem Row.below {W w1 : World} {v : Value} {l : List Nat} (h : Row W v l) (hb : Below W.heap.size W w1) : Row w1 v l := by
  refine ⟨h.1, ?_⟩
  rcases h.2 with h0 | ⟨g, cap, cur, rfl, hb0, hh, h1, h2, h3, h4⟩
  · exact .inl h0
  · refine .inr ⟨g, cap, cur, rfl, hb0, ?_, h1, h2, h3, h4⟩
    have : g < W.heap.size := by
      rcases Nat.lt_or_ge g W.heap.size with x | x
      · exact x
      · rw [Array.getElem?_eq_none x] at hh; cases hh
    exact (hb.block g this).trans hh

set_option maxHeartbeats 400000 in
theorem at_any (v : Value) (l : List Nat) (k : Nat) (hk : k ≤ 1000000) (hl : l.length ≤ 1000000) (w : World) (h : Row w v l) :
    Calls Tryd.prog 83 #[v, .int .i64 (k : Int)] w fun e w' => e = .returned (.int .i64 ((l.getD k 0 : Nat) : Int)) ∧ w = w' := by
  rcases h.form with ⟨rfl, rfl⟩ | ⟨g, cap, rfl, h1, h2, h3, h4⟩
  · go_enter Tryd.func83, Tryd.ntmps83
    go_wp2
    go_ret
    exact ⟨rfl, rfl⟩
  · rcases Nat.lt_or_ge k l.length with x | x
    · have c := h4 k x
      generalize l.getD k 0 = d at *
      clear h4 h
      go_enter Tryd.func83, Tryd.ntmps83
      go_wp2
      go_ret
      exact ⟨rfl, rfl⟩
    · rw [show l.getD k 0 = 0 from by simp [List.getD, x]]
      clear h4 h
      go_enter Tryd.func83, Tryd.ntmps83
      go_wp2
      go_ret
      exact ⟨rfl, rfl⟩

theorem int_info : (Tryd.prog.info? 3).map (fun i => (i.zero, i.size, i.bytes)) = some (some (.int .i64 0), 1, 8) := by kernel_rfl

/-- Where the search for the highest digit that is not 0 stands. -/
def TrimRel (w : World) (l : List Nat) (k : Nat) (n : Value) (W : World) : Prop := w = W ∧ n = .int .i64 (k : Int) ∧ k ≤ l.length ∧ ∀ j, k ≤ j → l.getD j 0 = 0
def RetRow (l : List Nat) (w : World) (e : Ending) (w' : World) : Prop := ∃ v, e = .returned v ∧ Row w' v l ∧ Below w.heap.size w w'

/-- The digits without the noughts above. -/
def trim (l : List Nat) : List Nat := Dg.dg (Dg.val l)

theorem trim_of {l : List Nat} (h : ∀ d ∈ l, d < 10) {k : Nat} (hk : k ≤ l.length) (h0 : ∀ j, k ≤ j → l.getD j 0 = 0) (h1 : k = 0 ∨ l.getD (k - 1) 0 ≠ 0) : l.take k = trim l := by
  have e : Dg.val l = Dg.val (l.take k) := by
    conv => lhs; rw [← List.take_append_drop k l]
    rw [Dg.val_append, Dg.val_zeros (l.drop k), Nat.mul_zero, Nat.add_zero]
    intro d hd
    obtain ⟨j, hj, rfl⟩ := List.getElem_of_mem hd
    rw [List.getElem_drop]
    have := h0 (k + j) (by omega)
    simpa [List.getD, List.getElem?_eq_getElem (show k + j < l.length by simp at hj; omega)] using this
  unfold trim
  rw [e]
  apply Dg.canon
  · exact fun d hd => h d (List.mem_of_mem_take hd)
  · rcases h1 with rfl | h1
    · simp
    · rcases Nat.eq_zero_or_pos k with z | z
      · subst z; simp
      · rw [List.getLast?_take]
        simp [List.getD] at h1
        have : l[k - 1]? = some l[k - 1] := List.getElem?_eq_getElem (by omega)
        rw [if_neg (by omega), this]
        rw [this] at h1
        simpa using h1

theorem cells_take {w : World} {g : Nat} {l : List Nat} (h : ∀ k, k < l.length → w.cell? ⟨g, k, none⟩ = some (.int .i64 ((l.getD k 0 : Nat) : Int))) {n : Nat} (hn : n ≤ l.length) :
    ∀ j u, ((l.take n).map fun d : Nat => Value.int .i64 (d : Int))[j]? = some u → w.cell? ((⟨g, 0, none⟩ : Addr).add j) = some u := by
  intro j u hu
  have hj : j < n := by
    rcases Nat.lt_or_ge j n with x | x
    · exact x
    · rw [List.getElem?_eq_none (by simp; omega)] at hu; cases hu
  have e : (⟨g, 0, none⟩ : Addr).add j = ⟨g, j, none⟩ := by
    unfold Addr.add
    split
    · rename_i z; subst z; rfl
    · simp
  rw [e, h j (by omega)]
  rw [List.getElem?_map, List.getElem?_take_of_lt hj, List.getElem?_eq_getElem (by omega)] at hu
  simp [List.getD, List.getElem?_eq_getElem (show j < l.length by omega)] at hu ⊢
  exact hu

set_option maxHeartbeats 800000 in
theorem trim_any (v : Value) (l : List Nat) (hl : l.length ≤ 100000) (hd : ∀ d ∈ l, d < 10) (w : World) (h : Row w v l) :
    Calls Tryd.prog 50 #[v] w (RetRow (trim l) w) := by
  obtain ⟨i0, hi0, hz0, hz1, hz2⟩ := info_parts int_info
  rcases h.form with ⟨rfl, rfl⟩ | ⟨g, cap, rfl, h1, h2, h3, h4⟩
  · clear h
    go_enter Tryd.func50, Tryd.ntmps50
    go_wp2
    refine wp_loop_rounds 1 ?_
    rw [rounds_succ]
    go_wp2
    go_ret
    refine ⟨_, rfl, ?_, Below.refl _ _⟩
    rw [show trim [] = [] from by unfold trim; exact Dg.dg_zero]
    exact Row.nil
  · have h2' : cap ≤ 9223372036854775807 := h2
    clear h2
    have H4 := Lib.hid h4
    have H := Lib.hid h
    have HD := Lib.hid hd
    clear h4 h hd
    go_enter Tryd.func50, Tryd.ntmps50
    go_wp2
    go_loopg [3] l.length (fun k n W => TrimRel w l k n W)
    case atStart => exact ⟨rfl, rfl, Nat.le_refl _, fun j hj => by simp [List.getD, hj]⟩
    case round =>
      obtain ⟨rfl, rfl, r1, r2⟩ := hrel
      have R2 := Lib.hid r2
      clear r2
      rcases Nat.eq_zero_or_pos gk with z | z
      · subst z
        have T := Lib.hid (trim_of HD.out r1 R2.out (.inl rfl))
        go_wp2
        go_ret
        refine ⟨_, rfl, ?_, Below.refl _ _⟩
        rw [← T.out]
        exact Row.nil
      · obtain ⟨k, rfl⟩ : ∃ k, gk = k + 1 := ⟨gk - 1, by omega⟩
        have c := H4.out k (by omega)
        have ek : ((k : Int) + 1 - 1) = k := by omega
        by_cases e : l.getD k 0 = 0
        · rw [e] at c
          have E := Lib.hid e
          clear e
          go_wp2
          go_roundg k
          case measure => omega
          case rel => exact ⟨rfl, by go_num, by omega, fun j hj => (Nat.eq_or_lt_of_le hj).elim (fun x => x ▸ E.out) (fun x => R2.out j x)⟩
        · have T := Lib.hid (trim_of HD.out r1 R2.out (.inr (by simpa using e)))
          have nw := Lib.hid (cells_take H4.out r1)
          generalize l.getD k 0 = d at *
          have ne : ((d : Int) == 0) = false := by simp; omega
          clear e
          go_wp2_with (at_builtin; refine wpList_append_own _ rfl (.tmp 19) (.tmp 22) _ rfl 0 3 i0 _ 1 8 Tryd.underlying33 hi0 hz0 hz1 hz2 rfl (by omega) (.slice none 0 0) 0 [] rfl ⟨by simp, .inl ⟨rfl, rfl⟩⟩ ⟨g, 0, none⟩ (k + 1) cap ((l.take (k + 1)).map fun d : Nat => Value.int .i64 (d : Int)) rfl ?_ ?_ ?_ ?_ ?_ (Nat.zero_le _) ?_)
          · simp; omega
          · exact nw.out
          · intro u hu
            obtain ⟨x, _, rfl⟩ := List.mem_map.1 hu
            rfl
          · simp only [maxLen]; omega
          · omega
          · intro v' w' hown hg _
            go_wp2
            go_ret
            refine ⟨v', rfl, ?_, (Below.refl _ _).grown hg (Nat.le_refl _) (by simp [Value.ownBlock])⟩
            rw [← T.out]
            unfold Row
            rw [List.length_take, Nat.min_eq_left r1, List.map_take]
            exact hown
end Go.Proofs.YtncpdoeikebomaaDoor

/-
  The document's product with a small number, as a contract of its call.
-/
namespace Go.Proofs.YtncpdoeikebomaaDoor
open Go.RowKit

/-- Where the product of the digits a with x stands: o has been written, c goes over. -/
def SmallRel (w : World) (a T : List Nat) (x m : Nat) (d c k : Value) (W : World) : Prop :=
  ∃ (o : List Nat) (n cc : Nat), d = d ∧ k = .int .i64 (n : Int) ∧ c = .int .i64 (cc : Int) ∧ o ++ Dg.small x (a.drop n) cc = T ∧ o.length = n ∧ cc ≤ 4294967296 ∧ m = (Dg.small x (a.drop n) cc).length ∧
    W.ownsRow w.heap.size 3 1 d n (o.map fun d : Nat => Value.int .i64 (d : Int)) ∧ Below w.heap.size w W

theorem row_of {W : World} {v : Value} {o : List Nat} {b : Nat} (h : W.ownsRow b 3 1 v o.length (o.map fun d : Nat => Value.int .i64 (d : Int))) : Row W v o := by
  refine ⟨h.1, ?_⟩
  rcases h.2 with h0 | ⟨g, cap, cur, h1, _, h2⟩
  · exact .inl h0
  · exact .inr ⟨g, cap, cur, h1, Nat.zero_le _, h2⟩

theorem int_eq' {k : IntKind} {a b : Int} (h : a = b) : Value.int k a = Value.int k b := by rw [h]

set_option maxRecDepth 100000 in
set_option maxHeartbeats 2000000 in
theorem small_any (v : Value) (a : List Nat) (xi ai : Int) (x add : Nat) (hx : xi = (x : Int)) (ha : ai = (add : Int)) (x1 : x ≤ 4294967296) (a1 : add ≤ 4294967296) (hl : a.length ≤ 50000) (hd : ∀ d ∈ a, d < 10) (w : World) (h : Row w v a) :
    Calls Tryd.prog 77 #[v, .int .i64 xi, .int .i64 ai] w (RetRow (Dg.dg (Dg.val a * x + add)) w) := by
  obtain ⟨i0, hi0, hz0, hz1, hz2⟩ := info_parts int_info
  have H := Lib.hid h
  have HD := Lib.hid hd
  obtain ⟨A, len, cap, hv, hlen⟩ : ∃ A len cap, v = .slice A len cap ∧ len = a.length := by
    rcases h.form with ⟨rfl, rfl⟩ | ⟨g, cap, rfl, _⟩
    · exact ⟨_, _, _, rfl, rfl⟩
    · exact ⟨_, _, _, rfl, rfl⟩
  subst hv hlen
  obtain ⟨T, hT⟩ : ∃ T, T = Dg.small x a add := ⟨_, rfl⟩
  have TL : T.length ≤ 50010 := by have := Dg.small_length x x1 a add hd a1; rw [← hT] at this; omega
  have HT := Lib.hid hT
  have X1 := Lib.hid x1
  have A1 := Lib.hid a1
  have HX := Lib.hid hx
  have HA := Lib.hid ha
  clear h hd hT x1 a1 hx ha
  go_enter Tryd.func77, Tryd.ntmps77
  go_wp2
  go_loopg [7, 8, 9] T.length (fun m d c k W => SmallRel w a T x m d c k W)
  case atStart => exact ⟨[], 0, add, rfl, rfl, by rw [HA.out], by rw [List.drop_zero, HT.out]; rfl, rfl, A1.out, by rw [List.drop_zero, HT.out], ⟨rfl, .inl ⟨rfl, rfl⟩⟩, Below.refl _ _⟩
  case round =>
    obtain ⟨o, n, cc, _, rfl, rfl, e1, e2, c1, e3, own, HB⟩ := hrel
    have E1 := Lib.hid e1
    have E2 := Lib.hid e2
    have E3 := Lib.hid e3
    have nT : n + gk = T.length := by rw [← e1, List.length_append, e2, e3]
    have C1 := Lib.hid c1
    have n1 : n ≤ 50010 := by omega
    have NT := Lib.hid nT
    clear e1 e2 e3 c1 nT
    by_cases st : a.length ≤ n ∧ cc = 0
    · obtain ⟨s1, s2⟩ := st
      subst s2
      have D := Lib.hid (Dg.small_done x a n 0 ⟨s1, rfl⟩)
      have eo : o = T := by have := E1.out; rw [D.out, List.append_nil] at this; exact this
      have EO := Lib.hid eo
      have EN : T.length = n := by rw [← E2.out, eo]
      have ENh := Lib.hid EN
      clear eo EN
      have own' := Lib.hid own
      have R : Row wr u7 T := by
        have q := own'.out
        rw [← ENh.out, EO.out] at q
        exact row_of q
      have HR := Lib.hid R
      clear own R
      obtain ⟨ci, hc⟩ : ∃ p : Int, p = ((0 : Nat) : Int) := ⟨_, rfl⟩
      have c0 : decide (0 < ci) = false := by rw [hc]; rfl
      have k0 : decide (n < a.length) = false := by simpa using s1
      rw [← hc]
      clear hc
      go_wp2_with fail
      refine (trim_any _ T (by have := TL; omega) (by rw [HT.out]; exact Dg.small_lt x a add) _ HR.out).mono ?_
      rintro e w1 ⟨v1, rfl, R1, hb1⟩
      have HR1 := Lib.hid R1
      clear R1
      go_wp2
      go_ret
      refine ⟨v1, rfl, ?_, bstep HB hb1⟩
      have q := HR1.out
      unfold trim at q
      rw [HT.out, Dg.val_small] at q
      exact q
    · have S := Lib.hid (Dg.small_step x a n cc st)
      have d9 := Dg.getD_lt HD.out n
      have AT := Lib.hid (at_any _ a n (by omega) (by omega) wr (H.out.below HB))
      have gp : gk ≠ 0 := by
        rw [E3.out, S.out]; simp
      have tst : (n < a.length) ∨ (a.length ≤ n ∧ 0 < cc) := by omega
      generalize a.getD n 0 = d at *
      have p1 : d * x ≤ 9 * 4294967296 := Nat.mul_le_mul d9 X1.out
      obtain ⟨pi, hp⟩ : ∃ p : Int, p = ((d * x : Nat) : Int) := ⟨_, rfl⟩
      obtain ⟨ci, hc⟩ : ∃ p : Int, p = (cc : Int) := ⟨_, rfl⟩
      have wp1 : wrap64 ((d : Int) * xi) = pi := by
        rw [HX.out, ← Int.natCast_mul, ← hp]
        exact IntWalk.wrap64_in _ ⟨by omega, by omega⟩
      have p2 : 0 ≤ pi ∧ pi ≤ 38654705664 := by omega
      have c2 : 0 ≤ ci ∧ ci ≤ 4294967296 := by have := C1.out; omega
      have HP := Lib.hid hp
      have HC := Lib.hid hc
      have P1 := Lib.hid p1
      obtain ⟨p2, p3⟩ := p2
      obtain ⟨c2, c3⟩ := c2
      have base := HB.size
      have t2 : n < a.length ∨ 0 < ci := by omega
      rw [← hc]
      clear p1 d9 hp hc st tst
      have t3 : (decide (n < a.length) = true) ∨ (decide (n < a.length) = false ∧ decide (0 < ci) = true) := by
        rcases Nat.lt_or_ge n a.length with z | z
        · exact .inl (by simpa using z)
        · exact .inr ⟨by simpa using z, by simp; omega⟩
      clear t2
      rcases t3 with t3 | ⟨t3, t4⟩
      all_goals
        go_wp2_with fail
        refine (AT.out).mono ?_
        rintro e w1 ⟨rfl, rfl⟩
        go_wp2_with (at_builtin; refine wpList_append_own _ rfl (.tmp 29) (.tmp 32) _ rfl w.heap.size 3 i0 _ 1 8 Tryd.underlying33 hi0 hz0 hz1 hz2 rfl (by omega) u7 n (o.map fun d : Nat => Value.int .i64 (d : Int)) rfl (own.alloc _) ⟨wr.heap.size, 0, none⟩ 1 1 [.int .i64 ((pi + ci) % 10)] rfl rfl (cell_one_new _ _ _) (by intro u hu; rw [List.mem_singleton.1 hu]; rfl) (by simp only [maxLen]; omega) (by omega) (by simp; omega) ?_)
        intro v' w' hown hg _
        have OW := Lib.hid hown
        have BB : Below w.heap.size w w' := (HB.alloc base _).grown hg (by simp; omega) (fun k hk => (own.lt k hk).1)
        clear hown hg
        go_wp2
        go_roundg (gk - 1)
        case measure => omega
        case rel =>
          have hp := HP.out
          have hc := HC.out
          have p1 := P1.out
          have c1 := C1.out
          refine ⟨o ++ [(d * x + cc) % 10], n + 1, (d * x + cc) / 10, rfl, by go_num, int_eq' (by omega), ?_, ?_, ?_, ?_, ?_, BB⟩
          · rw [List.append_assoc, List.singleton_append, ← S.out]; exact E1.out
          · rw [List.length_append, E2.out]; rfl
          · omega
          · rw [E3.out, S.out]; simp
          · rw [List.map_append]
            have e : Value.int .i64 ((pi + ci) % 10) = Value.int .i64 (((d * x + cc) % 10 : Nat) : Int) := int_eq' (by omega)
            have q := OW.out
            rw [e] at q
            exact q
end Go.Proofs.YtncpdoeikebomaaDoor

/-
  The document's number of some words, as a contract of its call.
-/
namespace Go.Proofs.YtncpdoeikebomaaDoor
open Go.RowKit

/-- The number of some words, the highest first. -/
def wv (ws : List Nat) : Nat := ws.foldl (fun n x => n * 18446744073709551616 + x) 0
theorem wv_snoc (ws : List Nat) (x : Nat) : wv (ws ++ [x]) = wv ws * 18446744073709551616 + x := by simp [wv]

theorem dg_small {m : Nat} (h : m < 10 ^ 200) : (Dg.dg m).length ≤ 200 := Dg.dg_length_le h

def WordsRel (w : World) (ws : List Nat) (m : Nat) (v i : Value) (W : World) : Prop :=
  ∃ k : Nat, i = .int .i64 (k : Int) ∧ k + m = ws.length ∧ Row W v (Dg.dg (wv (ws.take k))) ∧ Below w.heap.size w W

theorem wv_take_lt (ws : List Nat) (hw : ∀ x ∈ ws, x < 18446744073709551616) : ∀ k, k ≤ 4 → wv (ws.take k) < 18446744073709551616 ^ k := by
  intro k hk
  induction k with
  | zero => simp [wv]
  | succ k ih =>
    have ih := ih (by omega)
    rcases Nat.lt_or_ge k ws.length with z | z
    · rw [List.take_succ_eq_append_getElem z, wv_snoc, Nat.pow_succ]
      have := hw ws[k] (List.getElem_mem z)
      generalize wv (List.take k ws) = a at *
      generalize 18446744073709551616 ^ k = p at *
      omega
    · rw [List.take_of_length_le (by omega)]
      rw [List.take_of_length_le z] at ih
      exact Nat.lt_of_lt_of_le ih (Nat.pow_le_pow_right (by decide) (by omega))

theorem two_smalls (n x : Nat) : (n * 4294967296 + x / 4294967296) * 4294967296 + x % 4294967296 = n * 18446744073709551616 + x := by omega

theorem big200 : ∀ k : Fin 5, (18446744073709551616 : Nat) ^ k.val * 18446744073709551616 < 10 ^ 200 := by decide +kernel

theorem m2_gen (n x p Z K k q : Nat) (hk : k ≤ K) (hq : q ≤ x) (h : n < p) (hx : x < K) (bg : p * K < Z) : n * k + q < Z := by
  have a1 := Nat.mul_le_mul_right K (Nat.succ_le_of_lt h)
  rw [Nat.succ_mul] at a1
  have h1 : n * k ≤ n * K := Nat.mul_le_mul_left n hk
  omega
theorem m2_of (n x p Z : Nat) (h : n < p) (hx : x < 18446744073709551616) (bg : p * 18446744073709551616 < Z) : n * 4294967296 + x / 4294967296 < Z :=
  m2_gen n x p Z 18446744073709551616 4294967296 (x / 4294967296) (by decide) (Nat.div_le_self _ _) h hx bg

set_option maxRecDepth 100000 in
set_option maxHeartbeats 2000000 in
theorem words_any (g : Nat) (ws : List Nat) (cap : Nat) (hl : ws.length ≤ 4) (hw : ∀ x ∈ ws, x < 18446744073709551616) (w : World) (hg : g < w.heap.size)
    (hc : ∀ k, k < ws.length → w.cell? ⟨g, k, none⟩ = some (.int .u64 ((ws.getD k 0 : Nat) : Int))) :
    Calls Tryd.prog 78 #[.slice (some ⟨g, 0, none⟩) ws.length cap] w (RetRow (Dg.dg (wv ws)) w) := by
  have HC := Lib.hid hc
  have HW := Lib.hid hw
  clear hc hw
  go_enter Tryd.func78, Tryd.ntmps78
  go_wp2
  go_loopg [3, 4] ws.length (fun m v i W => WordsRel w ws m v i W)
  case atStart => exact ⟨0, rfl, by omega, by rw [List.take_zero, show wv [] = 0 from rfl, Dg.dg_zero]; exact Row.nil, Below.refl _ _⟩
  case round =>
    obtain ⟨k, rfl, e1, R, HB⟩ := hrel
    have HR := Lib.hid R
    have kl : k ≤ ws.length := by omega
    have E1 := Lib.hid e1
    clear R e1
    rcases Nat.lt_or_ge k ws.length with z | z
    · have lt := wv_take_lt ws HW.out k (by omega)
      have c := (HB.cell (p := ⟨g, k, none⟩) hg).trans (HC.out k z)
      have xw : ws.getD k 0 < 18446744073709551616 := by
        have := HW.out ws[k] (List.getElem_mem z)
        simpa [List.getD, z] using this
      have nx := Lib.hid (show ws.take (k + 1) = ws.take k ++ [ws.getD k 0] by rw [List.take_succ_eq_append_getElem z]; simp [List.getD, z])
      have bg := big200 ⟨k, by omega⟩
      generalize ws.getD k 0 = x at *
      generalize hn : wv (ws.take k) = n at *
      have HN := Lib.hid hn
      have m1 : n < 10 ^ 200 := by
        have : (1 : Nat) ≤ 18446744073709551616 := by decide
        exact Nat.lt_of_lt_of_le lt (Nat.le_trans (Nat.le_mul_of_pos_right _ (by decide)) (Nat.le_of_lt bg))
      have m2 := m2_of n x _ _ lt xw bg
      obtain ⟨xi, hx⟩ : ∃ i : Int, i = (x : Int) := ⟨_, rfl⟩
      rw [← hx] at c
      have x0 : 0 ≤ xi ∧ xi < 18446744073709551616 := by omega
      obtain ⟨x0, x1⟩ := x0
      have HX := Lib.hid hx
      have M1 := Lib.hid m1
      have M2 := Lib.hid m2
      have hB := HB.size
      clear hx m1 m2 lt bg xw hn
      go_wp2_with fail
      refine (small_any u3 (Dg.dg n) 4294967296 _ 4294967296 (x / 4294967296) rfl ?_ (by decide) ?_ ?_ (Dg.dg_lt n) _ ?_).mono ?_
      · have := HX.out; omega
      · have := HX.out; omega
      · have := dg_small M1.out; omega
      · exact HR.out
      rintro e w1 ⟨v1, rfl, R1, hb1⟩
      rw [Dg.val_dg] at R1
      have HR1 := Lib.hid R1
      have c' : w1.cell? ⟨g, k, none⟩ = some (.int .u64 xi) := (hb1.cell (by show g < wr.heap.size; omega)).trans c
      have HB1 : Below w.heap.size w w1 := bstep HB hb1
      clear c hb1 R1
      go_wp2_with fail
      refine (small_any v1 (Dg.dg (n * 4294967296 + x / 4294967296)) 4294967296 _ 4294967296 (x % 4294967296) rfl ?_ (by decide) ?_ ?_ (Dg.dg_lt _) _ HR1.out).mono ?_
      · have := HX.out; omega
      · have := HX.out; omega
      · have := dg_small M2.out; omega
      rintro e w2 ⟨v2, rfl, R2, hb2⟩
      rw [Dg.val_dg, two_smalls] at R2
      have HR2 := Lib.hid R2
      have HB2 : Below w.heap.size w w2 := bstep HB1 hb2
      clear c' hb2 R2
      go_wp2
      go_roundg (gk - 1)
      case measure => have := E1.out; omega
      case rel => exact ⟨k + 1, by go_num, by have := E1.out; omega, by rw [nx.out, wv_snoc, HN.out]; exact HR2.out, HB2⟩
    · have ek : ws.take k = ws := List.take_of_length_le z
      have EK := Lib.hid ek
      have t0 : decide (k < ws.length) = false := by simpa using z
      clear ek
      go_wp2
      go_ret
      have q := HR.out
      rw [EK.out] at q
      exact ⟨_, rfl, q, HB⟩

/-- Two words, and four, as the document has them. -/
theorem wv2 (h l : Nat) : wv [h, l] = nv h l := by simp [wv, nv]
theorem wv4 (h l h' l' : Nat) : wv [h, l, h', l'] = nv2 h l h' l' := by
  simp only [wv, nv2, nv, B128, List.foldl]
  omega
theorem wv1 (x : Nat) : wv [x] = x := by simp [wv]

set_option maxRecDepth 100000 in
set_option maxHeartbeats 1000000 in
theorem N_any (h l : Nat) (ha : WW h l) (w : World) : Calls Tryd.prog 43 #[U h l] w (RetRow (Dg.dg (nv h l)) w) := by
  have hw : ∀ x ∈ [h, l], x < 18446744073709551616 := by
    intro x hx
    obtain ⟨a, b⟩ := ha
    simp at hx
    rcases hx with rfl | rfl
    · exact a
    · exact b
  have C := words_any (w.heap.size + 1) [h, l] 2 (Nat.le_of_ble_eq_true rfl) hw ((w.alloc (.cells #[.int .u64 (h : Int), .int .u64 (l : Int)] 24)).alloc (.cells #[.int .u64 (h : Int), .int .u64 (l : Int)] 22)) (by simp) (by
    intro k hk
    have : k = 0 ∨ k = 1 := by simp at hk; omega
    rcases this with rfl | rfl <;> simp [go_sem])
  rw [wv2] at C
  have HC := Lib.hid C
  clear hw ha C
  go_enter Tryd.func43, Tryd.ntmps43
  go_wp2_with fail
  refine (HC.out).mono ?_
  rintro e w1 ⟨v, rfl, R, hb1⟩
  have HR := Lib.hid R
  have B1 : Below w.heap.size w w1 := bstep (by go_grown) hb1
  clear R hb1
  go_wp2
  go_ret
  exact ⟨v, rfl, HR.out, B1⟩
end Go.Proofs.YtncpdoeikebomaaDoor

/-
  The document's sum, as a contract of its call.
-/
namespace Go.Proofs.YtncpdoeikebomaaDoor
open Go.RowKit

/-- Where the sum of the digits a and b stands: o has been written, c goes over. -/
def AddRel (w : World) (a b T : List Nat) (m : Nat) (d c k : Value) (W : World) : Prop :=
  ∃ (o : List Nat) (n cc : Nat), k = .int .i64 (n : Int) ∧ c = .int .i64 (cc : Int) ∧ o ++ Dg.add (a.drop n) (b.drop n) cc = T ∧ o.length = n ∧ cc ≤ 1 ∧ m = (Dg.add (a.drop n) (b.drop n) cc).length ∧
    W.ownsRow w.heap.size 3 1 d n (o.map fun d : Nat => Value.int .i64 (d : Int)) ∧ Below w.heap.size w W

theorem slice_of {w : World} {v : Value} {a : List Nat} (h : Row w v a) : ∃ A cap, v = .slice A a.length cap := by
  rcases h.form with ⟨rfl, rfl⟩ | ⟨g, cap, rfl, _⟩
  · exact ⟨_, _, rfl⟩
  · exact ⟨_, _, rfl⟩

set_option maxRecDepth 100000 in
set_option maxHeartbeats 4000000 in
theorem radd_any (v1 v2 : Value) (a b : List Nat) (la : a.length ≤ 20000) (lb : b.length ≤ 20000) (da : ∀ d ∈ a, d < 10) (db : ∀ d ∈ b, d < 10) (w : World) (h1 : Row w v1 a) (h2 : Row w v2 b) :
    Calls Tryd.prog 52 #[v1, v2] w (RetRow (Dg.dg (Dg.val a + Dg.val b)) w) := by
  obtain ⟨i0, hi0, hz0, hz1, hz2⟩ := info_parts int_info
  have H1 := Lib.hid h1
  have H2 := Lib.hid h2
  have DA := Lib.hid da
  have DB := Lib.hid db
  obtain ⟨A, ca, rfl⟩ := slice_of h1
  obtain ⟨B, cb, rfl⟩ := slice_of h2
  obtain ⟨T, hT⟩ : ∃ T, T = Dg.add a b 0 := ⟨_, rfl⟩
  have TL : T.length ≤ 40001 := by have := Dg.add_length a b 0 da db (by omega); rw [← hT] at this; omega
  have HT := Lib.hid hT
  clear h1 h2 da db hT
  go_enter Tryd.func52, Tryd.ntmps52
  go_wp2
  go_loopg [5, 6, 7] T.length (fun m d c k W => AddRel w a b T m d c k W)
  case atStart => exact ⟨[], 0, 0, rfl, rfl, by rw [List.drop_zero, List.drop_zero, HT.out]; rfl, rfl, by omega, by rw [List.drop_zero, List.drop_zero, HT.out], ⟨rfl, .inl ⟨rfl, rfl⟩⟩, Below.refl _ _⟩
  case round =>
    obtain ⟨o, n, cc, rfl, rfl, e1, e2, c1, e3, own, HB⟩ := hrel
    have E1 := Lib.hid e1
    have E2 := Lib.hid e2
    have E3 := Lib.hid e3
    have nT : n + gk = T.length := by rw [← e1, List.length_append, e2, e3]
    have n1 : n ≤ 40001 := by omega
    have base := HB.size
    clear e1 e2 e3 nT
    obtain ⟨ci, hc⟩ : ∃ p : Int, p = (cc : Int) := ⟨_, rfl⟩
    have c2 : 0 ≤ ci ∧ ci ≤ 1 := by omega
    obtain ⟨c2, c3⟩ := c2
    have HC := Lib.hid hc
    by_cases st : a.length ≤ n ∧ b.length ≤ n ∧ cc = 0
    · obtain ⟨s1, s2, s3⟩ := st
      have D := Dg.add_done a b n cc ⟨s1, s2, s3⟩
      have eo : o = T := by have := E1.out; rw [D, List.append_nil] at this; exact this
      have R : Row wr u5 T := by
        have q := own
        rw [← E2.out, eo] at q
        exact row_of q
      have HR := Lib.hid R
      have t1 : decide (n < a.length) = false := by simpa using s1
      have t2 : decide (n < b.length) = false := by simpa using s2
      have t3 : decide (0 < ci) = false := by simp; omega
      rw [← hc]
      clear own R eo D s3 hc c1 c2 c3
      go_wp2_with fail
      refine (trim_any _ T (by omega) (by rw [HT.out]; exact Dg.add_lt a b 0) _ HR.out).mono ?_
      rintro e w1 ⟨v1, rfl, R1, hb1⟩
      have HR1 := Lib.hid R1
      clear R1
      go_wp2
      go_ret
      refine ⟨v1, rfl, ?_, bstep HB hb1⟩
      have q := HR1.out
      unfold trim at q
      rw [HT.out, Dg.val_add, Nat.add_zero] at q
      exact q
    · have S := Lib.hid (Dg.add_step a b n cc st)
      have d9 := Dg.getD_lt DA.out n
      have f9 := Dg.getD_lt DB.out n
      have AT1 := Lib.hid (at_any _ a n (by omega) (by omega) wr (H1.out.below HB))
      have AT2 := Lib.hid (at_any _ b n (by omega) (by omega) wr (H2.out.below HB))
      have gp : gk ≠ 0 := by
        rw [E3.out, S.out]; simp
      have t3 : (decide (n < a.length) = true) ∨ (decide (n < a.length) = false ∧ decide (n < b.length) = true) ∨ (decide (n < a.length) = false ∧ decide (n < b.length) = false ∧ decide (0 < ci) = true) := by
        rcases Nat.lt_or_ge n a.length with z | z
        · exact .inl (by simpa using z)
        · rcases Nat.lt_or_ge n b.length with y | y
          · exact .inr (.inl ⟨by simpa using z, by simpa using y⟩)
          · exact .inr (.inr ⟨by simpa using z, by simpa using y, by simp; omega⟩)
      generalize a.getD n 0 = d at *
      generalize b.getD n 0 = f at *
      rw [← hc]
      clear st hc
      rcases t3 with t3 | ⟨t3, t4⟩ | ⟨t3, t4, t5⟩
      all_goals
        go_wp2_with fail
        refine (AT1.out).mono ?_
        rintro e w1 ⟨rfl, rfl⟩
        go_wp2_with fail
        refine (AT2.out).mono ?_
        rintro e w1 ⟨rfl, rfl⟩
        go_wp2_with (at_builtin; refine wpList_append_own _ rfl (.tmp 34) (.tmp 37) _ rfl w.heap.size 3 i0 _ 1 8 Tryd.underlying33 hi0 hz0 hz1 hz2 rfl (by omega) u5 n (o.map fun d : Nat => Value.int .i64 (d : Int)) rfl (own.alloc _) ⟨wr.heap.size, 0, none⟩ 1 1 [.int .i64 (((d : Int) + f + ci) % 10)] rfl rfl (cell_one_new _ _ _) (by intro u hu; rw [List.mem_singleton.1 hu]; rfl) (by simp only [maxLen]; omega) (by omega) (by simp; omega) ?_)
        intro v' w' hown hg _
        have OW := Lib.hid hown
        have BB : Below w.heap.size w w' := (HB.alloc base _).grown hg (by simp; omega) (fun k hk => (own.lt k hk).1)
        clear hown hg
        go_wp2
        go_roundg (gk - 1)
        case measure => omega
        case rel =>
          have hc := HC.out
          refine ⟨o ++ [(d + f + cc) % 10], n + 1, (d + f + cc) / 10, by go_num, int_eq' (by omega), ?_, ?_, ?_, ?_, ?_, BB⟩
          · rw [List.append_assoc, List.singleton_append, ← S.out]; exact E1.out
          · rw [List.length_append, E2.out]; rfl
          · omega
          · rw [E3.out, S.out]; simp
          · rw [List.map_append]
            have e : Value.int .i64 (((d : Int) + f + ci) % 10) = Value.int .i64 (((d + f + cc) % 10 : Nat) : Int) := int_eq' (by omega)
            have q := OW.out
            rw [e] at q
            exact q
end Go.Proofs.YtncpdoeikebomaaDoor

/-
  The document's comparison, as a contract of its call.
-/
namespace Go.Proofs.YtncpdoeikebomaaDoor
open Go.RowKit

def CmpRel (w : World) (a b : List Nat) (j : Nat) (k : Value) (W : World) : Prop := k = .int .i64 ((j : Int) - 1) ∧ j ≤ a.length ∧ a.drop j = b.drop j ∧ Below w.heap.size w W

theorem drop_more {a b : List Nat} {i : Nat} (h1 : i < a.length) (h2 : i < b.length) (e : a.drop (i + 1) = b.drop (i + 1)) (d : a.getD i 0 = b.getD i 0) : a.drop i = b.drop i := by
  rw [List.drop_eq_getElem_cons h1, List.drop_eq_getElem_cons h2, e]
  simp [List.getD, h1, h2] at d
  rw [d]

set_option maxRecDepth 100000 in
set_option maxHeartbeats 4000000 in
theorem rcmp_any (v1 v2 : Value) (m n : Nat) (la : (Dg.dg m).length ≤ 20000) (lb : (Dg.dg n).length ≤ 20000) (w : World) (h1 : Row w v1 (Dg.dg m)) (h2 : Row w v2 (Dg.dg n)) :
    Calls Tryd.prog 40 #[v1, v2] w (RetI (cmpN m n) w) := by
  obtain ⟨A, ca, rfl⟩ := slice_of h1
  obtain ⟨B, cb, rfl⟩ := slice_of h2
  rcases Nat.lt_trichotomy (Dg.dg m).length (Dg.dg n).length with z | z | z
  · rw [cmpN_lt (Dg.lt_of_length z)]
    generalize (Dg.dg m).length = x at *
    generalize (Dg.dg n).length = y at *
    have t : ((x : Int) != y) = true := by simp; omega
    clear h1 h2
    go_enter Tryd.func40, Tryd.ntmps40
    go_wp2
    go_ret
    exact ⟨rfl, Below.refl _ _⟩
  · have va := Dg.val_dg m
    have vb := Dg.val_dg n
    have da := Dg.dg_lt m
    have db := Dg.dg_lt n
    have F1 := h1.form
    have F2 := h2.form
    have C : cmpN m n = cmpN (Dg.val (Dg.dg m)) (Dg.val (Dg.dg n)) := by rw [va, vb]
    rw [C]
    clear va vb C
    generalize Dg.dg m = a at *
    generalize Dg.dg n = b at *
    clear m n
    have HF1 := Lib.hid F1
    have HF2 := Lib.hid F2
    have DA := Lib.hid da
    have DB := Lib.hid db
    have ZZ := Lib.hid z
    rw [← z]
    rw [← z] at lb
    clear F1 F2 da db h1 h2 z
    go_enter Tryd.func40, Tryd.ntmps40
    go_wp2
    go_loopg [5] a.length (fun j k W => CmpRel w a b j k W)
    case atStart => exact ⟨rfl, Nat.le_refl _, by rw [List.drop_length, ZZ.out, List.drop_length], Below.refl _ _⟩
    case round =>
      obtain ⟨rfl, r1, r2, HB⟩ := hrel
      have R2 := Lib.hid r2
      clear r2
      rcases Nat.eq_zero_or_pos gk with g0 | g0
      · subst g0
        have e0 : a = b := by have := R2.out; simpa using this
        have E0 := Lib.hid e0
        have ek : (((0 : Nat) : Int) - 1) = -1 := rfl
        rw [ek]
        clear e0 ek
        go_wp2
        go_ret
        exact ⟨congrArg Ending.returned (int_eq' (by rw [E0.out, cmpN_eq])), HB⟩
      · obtain ⟨i, rfl⟩ : ∃ i, gk = i + 1 := ⟨gk - 1, by omega⟩
        obtain ⟨g1, c1, q1, q2, q3, q4⟩ : ∃ g c, Value.slice A a.length ca = .slice (some ⟨g, 0, none⟩) a.length c ∧ a.length ≤ c ∧ g < w.heap.size ∧ ∀ k, k < a.length → w.cell? ⟨g, k, none⟩ = some (.int .i64 ((a.getD k 0 : Nat) : Int)) := by
          rcases HF1.out with ⟨_, e⟩ | ⟨g, c, e, f1, _, f2, f3⟩
          · subst e; simp at r1
          · exact ⟨g, c, e, f1, f2, f3⟩
        obtain ⟨g2, c2, p1, p2, p3, p4⟩ : ∃ g c, Value.slice B a.length cb = .slice (some ⟨g, 0, none⟩) a.length c ∧ a.length ≤ c ∧ g < w.heap.size ∧ ∀ k, k < a.length → w.cell? ⟨g, k, none⟩ = some (.int .i64 ((b.getD k 0 : Nat) : Int)) := by
          rcases HF2.out with ⟨_, e⟩ | ⟨g, c, e, f1, _, f2, f3⟩
          · subst e; have := ZZ.out; simp at this; rw [this] at r1; simp at r1
          · exact ⟨g, c, by rw [ZZ.out]; exact e, by rw [ZZ.out]; exact f1, f2, fun k hk => f3 k (by rw [← ZZ.out]; exact hk)⟩
        have x1 := (HB.cell (p := ⟨g1, i, none⟩) q3).trans (q4 i (by omega))
        have x2 := (HB.cell (p := ⟨g2, i, none⟩) p3).trans (p4 i (by omega))
        injection q1 with q1 _ q1'
        injection p1 with p1 _ p1'
        subst q1 q1' p1 p1'
        have ek : (((i + 1 : Nat) : Int) - 1) = (i : Int) := by omega
        rw [ek]
        have DM := Lib.hid (@drop_more a b i (by omega) (by have := ZZ.out; omega) R2.out)
        have LT := Lib.hid (@Dg.lt_at a b DA.out i (by omega) (by have := ZZ.out; omega) R2.out)
        have GT := Lib.hid (@Dg.lt_at b a DB.out i (by have := ZZ.out; omega) (by omega) R2.out.symm)
        generalize a.getD i 0 = d at *
        generalize b.getD i 0 = f at *
        clear q4 p4 ek HF1 HF2
        rcases Nat.lt_trichotomy d f with y | y | y
        · have y1 : decide (d < f) = true := by simpa using y
          go_wp2
          go_region
          all_goals
            go_wp2
            go_ret
            exact ⟨congrArg Ending.returned (int_eq' (cmpN_lt (LT.out y)).symm), HB.drew⟩
        · subst y
          go_wp2
          go_region
          all_goals
            go_wp2
            go_region
            all_goals
              go_wp2
              go_roundg i
              case measure => omega
              case rel => exact ⟨rfl, by omega, DM.out trivial, HB.drew.drew⟩
        · have y1 : decide (d < f) = false := by simp; omega
          have y2 : decide (f < d) = true := by simpa using y
          go_wp2
          go_region
          all_goals
            go_wp2
            go_region
            all_goals
              go_wp2
              go_ret
              exact ⟨congrArg Ending.returned (int_eq' (cmpN_gt (GT.out y)).symm), HB.drew.drew⟩
  · rw [cmpN_gt (Dg.lt_of_length z)]
    generalize (Dg.dg m).length = x at *
    generalize (Dg.dg n).length = y at *
    have t : ((x : Int) != y) = true := by simp; omega
    clear h1 h2
    go_enter Tryd.func40, Tryd.ntmps40
    go_wp2
    go_ret
    exact ⟨rfl, Below.refl _ _⟩
end Go.Proofs.YtncpdoeikebomaaDoor

/-
  The document's digits moved up, and powers of two, each as a contract of its call.
-/
namespace Go.Proofs.YtncpdoeikebomaaDoor
open Go.RowKit

section
variable {P : Program} (w : World)
/-- What is appended may be of a named type. -/
theorem append_named (t t' ty e : TypeId) (ht : P.underlying t = some (.slice e)) (ht' : P.underlying t' = some (.slice e)) (b0 : Option Addr) (n0 c0 : Nat) (x : Value) : (Builtin.append_ #[t, t'] ty #[.slice b0 n0 c0, x]).run P w = (Builtin.append_ #[t, t] ty #[.slice b0 n0 c0, x]).run P w := by
  simp [Builtin.append_, run_underlying ht, run_underlying ht']

theorem wpList_append_named {ops : Array Oper} {rest : List Oper} {o : Oper} {a : Act} {Q : Exit → Act → World → Prop} (hgd : o.guard = none) (s x : Operand) (t t' : TypeId)
    (ho : o.op = .call { callee := .builtin .append, args := #[s, x], argTypes := #[t, t'] })
    (base : Nat) (e : TypeId) (i : TypeInfo) (z : Value) (size bytes : Nat) (ht : P.underlying t = some (.slice e)) (ht' : P.underlying t' = some (.slice e)) (hi : P.info? e = some i) (hz : i.zero = some z)
    (hsize : i.size = size) (hby : i.bytes = bytes) (hzs : z.cells.size = size) (hsz : 0 < size)
    (v : Value) (n : Nat) (xs : List Value) (hs : a.eval s = v) (hown : w.ownsRow base e size v n xs)
    (ad : Addr) (m c : Nat) (news : List Value) (hx : a.eval x = .slice (some ad) m c) (hl : news.length = m * size) (hnews : ∀ j u, news[j]? = some u → w.cell? (ad.add j) = some u) (h1 : ∀ u ∈ news, u.oneCell' = true)
    (h63 : n + m ≤ maxLen) (hbytes : (n + m) * bytes ≤ 140737488355328) (hbase : base ≤ w.heap.size)
    (h : ∀ v' w', w'.ownsRow base e size v' (n + m) (xs ++ news) → w.grownBy w' v.ownBlock → wpList P ops Q rest (a.put o.dst v') w') : wpList P ops Q (o :: rest) a w := by
  refine wpList_plain hgd fun K hK => ?_
  obtain ⟨v', w', hrun, h2, h3, _⟩ := run_append_own (P := P) w base t o.type e i z size bytes ht hi hz hsize hby hzs hsz v n xs hown ad m c news hl hnews h1 h63 hbytes hbase
  obtain ⟨b0, n0, c0, rfl⟩ : ∃ b0 n0 c0, v = .slice b0 n0 c0 := by
    rcases hown.2 with ⟨e, _⟩ | ⟨g, cap, cur, e, _⟩
    · exact ⟨_, _, _, e⟩
    · exact ⟨_, _, _, e⟩
  unfold Oper.wp execOp
  simp only [ho, resolve, invoke, builtin, Sem.run_bind, Sem.run_pure, Result.andThen_ok, List.map_toArray, List.map_cons, List.map_nil, hs, hx, append_named w t t' o.type e ht ht', hrun]
  exact hK _ _ (h v' w' h2 h3)

theorem wpList_append_named_none {ops : Array Oper} {rest : List Oper} {o : Oper} {a : Act} {Q : Exit → Act → World → Prop} (hgd : o.guard = none) (s x : Operand) (t t' : TypeId)
    (ho : o.op = .call { callee := .builtin .append, args := #[s, x], argTypes := #[t, t'] })
    (base : Nat) (e : TypeId) (i : TypeInfo) (size : Nat) (ht : P.underlying t = some (.slice e)) (ht' : P.underlying t' = some (.slice e)) (hi : P.info? e = some i)
    (v : Value) (n : Nat) (xs : List Value) (hs : a.eval s = v) (hown : w.ownsRow base e size v n xs) (hx : a.eval x = .slice none 0 0)
    (h : wpList P ops Q rest (a.put o.dst v) w) : wpList P ops Q (o :: rest) a w := by
  refine wpList_plain hgd fun K hK => ?_
  have hrun := run_append_owned_none (P := P) (w := w) base t o.type e i size ht hi v n xs hown
  obtain ⟨b0, n0, c0, rfl⟩ : ∃ b0 n0 c0, v = .slice b0 n0 c0 := by
    rcases hown.2 with ⟨e, _⟩ | ⟨g, cap, cur, e, _⟩
    · exact ⟨_, _, _, e⟩
    · exact ⟨_, _, _, e⟩
  unfold Oper.wp
  simp [execOp, ho, resolve, invoke, builtin, hs, hx, append_named w t t' o.type e ht ht', hrun, Result.andThen]
  exact hK _ _ h
end

set_option maxRecDepth 100000 in
set_option maxHeartbeats 2000000 in
/-- Ten times as much. -/
theorem shift1_any (v : Value) (m : Nat) (la : (Dg.dg m).length ≤ 20000) (w : World) (h : Row w v (Dg.dg m)) : Calls Tryd.prog 17 #[v, .int .i64 1] w (RetRow (Dg.dg (10 * m)) w) := by
  obtain ⟨i0, hi0, hz0, hz1, hz2⟩ := info_parts int_info
  have tr : trim (0 :: Dg.dg m) = Dg.dg (10 * m) := by unfold trim; rw [Dg.val, Dg.val_dg, Nat.zero_add]
  have dl : ∀ d ∈ 0 :: Dg.dg m, d < 10 := by
    intro d hd
    rcases List.mem_cons.1 hd with rfl | hd
    · omega
    · exact Dg.dg_lt m d hd
  have tr0 : trim [0] = Dg.dg (10 * m) ∨ Dg.dg m ≠ [] := by
    by_cases e : Dg.dg m = []
    · left; rw [e] at tr; exact tr
    · exact .inr e
  rw [← tr]
  have HDL := Lib.hid dl
  have F := h.form
  clear tr dl tr0
  generalize Dg.dg m = a at *
  clear m
  rcases F with ⟨rfl, rfl⟩ | ⟨g, cap, rfl, h1, h2, h3, h4⟩
  · clear h
    go_enter Tryd.func17, Tryd.ntmps17
    go_wp2
    refine wp_loop_rounds 2 ?_
    rw [rounds_succ]
    go_wp2_with (at_builtin; refine wpList_append_own _ rfl (.tmp 12) (.tmp 13) _ rfl w.heap.size 3 i0 _ 1 8 Tryd.underlying33 hi0 hz0 hz1 hz2 rfl (by omega) (.slice none 0 0) 0 [] rfl ⟨by simp, .inl ⟨rfl, rfl⟩⟩ ⟨w.heap.size, 0, none⟩ 1 1 [.int .i64 0] rfl rfl (cell_one_new _ _ _) (by intro u hu; rw [List.mem_singleton.1 hu]; rfl) (by simp only [maxLen]; omega) (by omega) (by simp) ?_)
    intro v' w' hown hg _
    have BB : Below w.heap.size w w' := ((Below.refl _ _).alloc (Nat.le_refl _) _).grown hg (by simp) (by simp [Value.ownBlock])
    have R : Row w' v' [0] := row_of hown
    have HR := Lib.hid R
    have OW := Lib.hid hown
    clear hown hg R
    go_wp2
    rw [rounds_succ]
    go_wp2_with (at_builtin; refine wpList_append_named_none _ rfl (.tmp 15) (.tmp 16) _ _ rfl w.heap.size 3 i0 1 Tryd.underlying33 Tryd.underlying34 hi0 v' 1 [.int .i64 0] rfl OW.out rfl ?_)
    go_wp2_with fail
    refine (trim_any _ [0] (by simp) HDL.out _ HR.out).mono ?_
    rintro e w3 ⟨v3, rfl, R3, hb3⟩
    have HR3 := Lib.hid R3
    clear R3
    go_wp2
    go_ret
    exact ⟨v3, rfl, HR3.out, bstep BB hb3⟩
  · have h2' : cap ≤ 9223372036854775807 := h2
    have H4 := Lib.hid h4
    clear h2 h4 h
    go_enter Tryd.func17, Tryd.ntmps17
    go_wp2
    refine wp_loop_rounds 2 ?_
    rw [rounds_succ]
    go_wp2_with (at_builtin; refine wpList_append_own _ rfl (.tmp 12) (.tmp 13) _ rfl w.heap.size 3 i0 _ 1 8 Tryd.underlying33 hi0 hz0 hz1 hz2 rfl (by omega) (.slice none 0 0) 0 [] rfl ⟨by simp, .inl ⟨rfl, rfl⟩⟩ ⟨w.heap.size, 0, none⟩ 1 1 [.int .i64 0] rfl rfl (cell_one_new _ _ _) (by intro u hu; rw [List.mem_singleton.1 hu]; rfl) (by simp only [maxLen]; omega) (by omega) (by simp) ?_)
    intro v' w' hown hg _
    have BB : Below w.heap.size w w' := ((Below.refl _ _).alloc (Nat.le_refl _) _).grown hg (by simp) (by simp [Value.ownBlock])
    have bs := BB.size
    have nw := Lib.hid (cells_take (w := w') (g := g) (l := a) (fun k hk => (BB.cell (p := ⟨g, k, none⟩) h3).trans (H4.out k hk)) (Nat.le_refl _))
    have OW := Lib.hid hown
    clear hg
    go_wp2
    rw [rounds_succ]
    go_wp2_with (at_builtin; refine wpList_append_named _ rfl (.tmp 15) (.tmp 16) _ _ rfl w.heap.size 3 i0 _ 1 8 Tryd.underlying33 Tryd.underlying34 hi0 hz0 hz1 hz2 rfl (by omega) v' 1 [.int .i64 0] rfl OW.out ⟨g, 0, none⟩ a.length cap (a.map fun d : Nat => Value.int .i64 (d : Int)) rfl (by simp) (by have := nw.out; rw [List.take_length] at this; exact this) (by intro u hu; obtain ⟨y, _, rfl⟩ := List.mem_map.1 hu; rfl) (by simp only [maxLen]; omega) (by omega) bs ?_)
    intro v2 w2 hown2 hg2
    have B2 : Below w.heap.size w w2 := BB.grown hg2 bs (fun k hk => (hown.lt k hk).1)
    have R : Row w2 v2 (0 :: a) := by
      refine row_of (b := w.heap.size) ?_
      rw [List.length_cons, Nat.add_comm, List.map_cons]
      exact hown2
    have HR := Lib.hid R
    clear hown hown2 hg2 R OW nw
    go_wp2_with fail
    refine (trim_any _ (0 :: a) (by simp; omega) HDL.out _ HR.out).mono ?_
    rintro e w3 ⟨v3, rfl, R3, hb3⟩
    have HR3 := Lib.hid R3
    clear R3
    go_wp2
    go_ret
    exact ⟨v3, rfl, HR3.out, bstep B2 hb3⟩
end Go.Proofs.YtncpdoeikebomaaDoor

/-
  The document's product, as a contract of its call.
-/
namespace Go.Proofs.YtncpdoeikebomaaDoor
open Go.RowKit

def MulRel2 (w : World) (m : Nat) (b : List Nat) (j : Nat) (o k : Value) (W : World) : Prop := k = .int .i64 ((j : Int) - 1) ∧ j ≤ b.length ∧ Row W o (Dg.dg (m * Dg.val (b.drop j))) ∧ Below w.heap.size w W

theorem val_drop {b : List Nat} {i : Nat} (h : i < b.length) : Dg.val (b.drop i) = b.getD i 0 + 10 * Dg.val (b.drop (i + 1)) := by
  rw [List.drop_eq_getElem_cons h, Dg.val]
  simp [List.getD, h]
theorem dg_mul_len {m n a b : Nat} (h1 : m < 10 ^ a) (h2 : n < 10 ^ b) : (Dg.dg (m * n)).length ≤ a + b ∧ (Dg.dg (10 * (m * n))).length ≤ a + b + 1 := by
  have h : m * n < 10 ^ (a + b) := by rw [Nat.pow_add]; exact Nat.mul_lt_mul'' h1 h2
  exact ⟨Dg.dg_length_le h, Dg.dg_length_le (by rw [Nat.pow_succ]; omega)⟩

set_option maxRecDepth 100000 in
set_option maxHeartbeats 8000000 in
theorem rmul_any (v1 v2 : Value) (m n : Nat) (la : (Dg.dg m).length ≤ 200) (lb : (Dg.dg n).length ≤ 200) (w : World) (h1 : Row w v1 (Dg.dg m)) (h2 : Row w v2 (Dg.dg n)) :
    Calls Tryd.prog 41 #[v1, v2] w (RetRow (Dg.dg (m * n)) w) := by
  have H1 := Lib.hid h1
  obtain ⟨B, cb, rfl⟩ := slice_of h2
  have F2 := h2.form
  have mb := (Dg.dg_bounds m).1
  have dn := Dg.dg_lt n
  have vn := Dg.val_dg n
  have mlen := la
  have MB : m < 10 ^ 200 := Nat.lt_of_lt_of_le mb (Nat.pow_le_pow_right (by decide) la)
  have HMB := Lib.hid MB
  have HLA := Lib.hid la
  have ev : m * n = m * Dg.val (Dg.dg n) := by rw [vn]
  rw [ev]
  clear h1 h2 mb la mlen vn ev MB
  generalize Dg.dg n = b at *
  have HF := Lib.hid F2
  have DN := Lib.hid dn
  clear F2 dn n
  go_enter Tryd.func41, Tryd.ntmps41
  go_wp2
  go_loopg [5, 6] b.length (fun j o k W => MulRel2 w m b j o k W)
  case atStart => exact ⟨rfl, Nat.le_refl _, by rw [List.drop_length, Dg.val, Nat.mul_zero, Dg.dg_zero]; exact Row.nil, Below.refl _ _⟩
  case round =>
    obtain ⟨rfl, r1, R, HB⟩ := hrel
    have HR := Lib.hid R
    clear R
    rcases Nat.eq_zero_or_pos gk with g0 | g0
    · subst g0
      have ek : (((0 : Nat) : Int) - 1) = -1 := rfl
      rw [ek]
      clear ek
      go_wp2
      go_ret
      exact ⟨_, rfl, by have := HR.out; rw [List.drop_zero] at this; exact this, HB⟩
    · obtain ⟨i, rfl⟩ : ∃ i, gk = i + 1 := ⟨gk - 1, by omega⟩
      obtain ⟨g2, c2, p1, p2, p3, p4⟩ : ∃ g c, Value.slice B b.length cb = .slice (some ⟨g, 0, none⟩) b.length c ∧ b.length ≤ c ∧ g < w.heap.size ∧ ∀ k, k < b.length → w.cell? ⟨g, k, none⟩ = some (.int .i64 ((b.getD k 0 : Nat) : Int)) := by
        rcases HF.out with ⟨_, e⟩ | ⟨g, c, e, f1, _, f2, f3⟩
        · subst e; simp at r1
        · exact ⟨g, c, e, f1, f2, f3⟩
      have c := (HB.cell (p := ⟨g2, i, none⟩) p3).trans (p4 i (by omega))
      injection p1 with p1 _ p1'
      subst p1 p1'
      have ek : (((i + 1 : Nat) : Int) - 1) = (i : Int) := by omega
      rw [ek]
      have VD := Lib.hid (val_drop (b := b) (i := i) (by omega))
      have d9 := Dg.getD_lt DN.out i
      have vb : Dg.val (b.drop (i + 1)) < 10 ^ 200 := Nat.lt_of_lt_of_le (Dg.val_lt _ (fun d hd => DN.out d (List.mem_of_mem_drop hd))) (Nat.pow_le_pow_right (by decide) (by simp; omega))
      obtain ⟨L1, L2⟩ := dg_mul_len HMB.out vb
      have HL1 := Lib.hid L1
      have HL2 := Lib.hid L2
      have L3 := Lib.hid (dg_mul_len HMB.out (show b.getD i 0 < 10 ^ 1 by omega)).1
      generalize Dg.val (b.drop (i + 1)) = V at *
      generalize b.getD i 0 = d at *
      have gw : g2 < wr.heap.size := by have := HB.size; omega
      have A1 := Lib.hid (H1.out.below HB)
      have HD9 := Lib.hid d9
      have k0 : (0 : Int) ≤ (i : Int) := by omega
      have k1 : (i : Int) < (b.length : Int) := by omega
      have k2 : i < b.length := by omega
      clear p4 ek vb L1 L2 HF d9
      go_wp2
      go_region_held3 (fun w' => w'.cell? ⟨g2, i, none⟩ = some (.int .i64 (d : Int)) ∧ Below wr.heap.size wr w') (first | assumption | exact ⟨c, (Below.refl _ _).drew⟩ | exact ⟨by assumption, by assumption⟩)
        (first
          | (go_at_call 17; refine (shift1_any u5 (m * V) ?_ _ (HR.out.below (And.right (by assumption)))).mono ?_; (have := HL1.out; omega); rintro e w1 ⟨v15, rfl, R15, hb1⟩; (try (have R21b := R21.below hb1)); have B1 : Below wr.heap.size wr w1 := bstep (And.right (by assumption)) hb1; have c1 : w1.cell? ⟨g2, i, none⟩ = some (.int .i64 (d : Int)) := (B1.cell gw).trans c; clear hb1)
          | (go_at_call 77; refine (small_any _ (Dg.dg m) _ _ d 0 rfl rfl ?_ ?_ ?_ (Dg.dg_lt m) _ (A1.out.below (And.right (by assumption)))).mono ?_; (have := HD9.out; omega); omega; (have := HLA.out; omega); rintro e w2 ⟨v21, rfl, R21, hb2⟩; (try (have R15b := R15.below hb2)); have B2 : Below wr.heap.size wr w2 := bstep (And.right (by assumption)) hb2; have c2 : w2.cell? ⟨g2, i, none⟩ = some (.int .i64 (d : Int)) := (B2.cell gw).trans c; clear hb2)
          | (go_at_call 52; refine (radd_any v15 v21 (Dg.dg (10 * (m * V))) (Dg.dg (Dg.val (Dg.dg m) * d + 0)) ?_ ?_ (Dg.dg_lt _) (Dg.dg_lt _) _ (by assumption) (by assumption)).mono ?_; (have := HL2.out; omega); (have := L3.out; rw [Dg.val_dg, Nat.add_zero]; omega); rintro e w3 ⟨v22, rfl, R22, hb3⟩; have B3 : Below wr.heap.size wr w3 := bstep (And.right (by assumption)) hb3; have c3 : w3.cell? ⟨g2, i, none⟩ = some (.int .i64 (d : Int)) := (B3.cell gw).trans c; clear hb3))
      all_goals
        go_wp2
        go_roundg i
        case measure => omega
        case rel =>
          refine ⟨rfl, by omega, ?_, bstep HB B3⟩
          rw [VD.out]
          have q := R22
          rw [Dg.val_dg, Dg.val_dg, Dg.val_dg, Nat.add_zero, show 10 * (m * V) + m * d = m * (d + 10 * V) from by rw [Nat.mul_add, Nat.mul_left_comm]; omega] at q
          exact q
end Go.Proofs.YtncpdoeikebomaaDoor

/-
  The document's difference, as a contract of its call.
-/
namespace Go.Proofs.YtncpdoeikebomaaDoor
open Go.RowKit

namespace Dg
/-- What is borrowed. -/
def bo (d f c : Nat) : Nat := if d < f + c then 1 else 0
/-- The difference, digit by digit. -/
def sub : List Nat → List Nat → Nat → List Nat
  | [], _, _ => []
  | a :: r, b, c => (a + 10 * bo a (b.getD 0 0) c - b.getD 0 0 - c) :: sub r b.tail (bo a (b.getD 0 0) c)
theorem val_tail (b : List Nat) : val b = b.getD 0 0 + 10 * val b.tail := by
  cases b with
  | nil => rfl
  | cons d r => rfl
theorem val_sub : ∀ (a b : List Nat) (c : Nat), (∀ d ∈ a, d < 10) → (∀ d ∈ b, d < 10) → c ≤ 1 → val b + c ≤ val a → val (sub a b c) + val b + c = val a
  | [], b, c, _, _, _, h => by
    simp only [sub, val] at h ⊢
    omega
  | a :: r, b, c, ha, hb, hc, h => by
    have h1 := ha a (by simp)
    have h2 := getD_lt hb 0
    rw [val_tail b] at h ⊢
    have ih := val_sub r b.tail (bo a (b.getD 0 0) c) (fun y hy => ha y (List.mem_cons_of_mem _ hy)) (fun y hy => hb y (List.mem_of_mem_tail hy))
    simp only [sub, val] at h ⊢
    generalize b.getD 0 0 = e at *
    generalize val b.tail = V at *
    unfold bo at *
    split at ih
    · rename_i z
      have := ih (by omega) (by omega)
      rw [if_pos z]
      omega
    · rename_i z
      have := ih (by omega) (by omega)
      rw [if_neg z]
      omega
theorem sub_lt : ∀ (a b : List Nat) (c : Nat), (∀ d ∈ a, d < 10) → (∀ d ∈ b, d < 10) → c ≤ 1 → ∀ d ∈ sub a b c, d < 10
  | [], b, c, _, _, _ => by intro d hd; cases hd
  | a :: r, b, c, ha, hb, hc => by
    intro e he
    have h1 := ha a (by simp)
    have h2 := getD_lt hb 0
    rcases List.mem_cons.1 he with rfl | he
    · unfold bo; split <;> omega
    · exact sub_lt r b.tail _ (fun y hy => ha y (List.mem_cons_of_mem _ hy)) (fun y hy => hb y (List.mem_of_mem_tail hy)) (by unfold bo; split <;> omega) e he
theorem sub_length : ∀ (a b : List Nat) (c : Nat), (sub a b c).length = a.length
  | [], b, c => rfl
  | a :: r, b, c => by simp only [sub, List.length_cons, sub_length r]
theorem sub_step (a b : List Nat) (k c : Nat) (h : k < a.length) : sub (a.drop k) (b.drop k) c = (a.getD k 0 + 10 * bo (a.getD k 0) (b.getD k 0) c - b.getD k 0 - c) :: sub (a.drop (k + 1)) (b.drop (k + 1)) (bo (a.getD k 0) (b.getD k 0) c) := by
  rw [List.drop_eq_getElem_cons h, sub]
  have e1 : (b.drop k).getD 0 0 = b.getD k 0 := by simp [List.getD]
  have e2 : (b.drop k).tail = b.drop (k + 1) := by simp
  have e3 : a.getD k 0 = a[k] := by simp [List.getD, h]
  rw [e1, e2, e3]
end Dg

/-- Where the difference of the digits a and b stands: o has been written, c is borrowed. -/
def SubRel (w : World) (a b T : List Nat) (m : Nat) (d c k : Value) (W : World) : Prop :=
  ∃ (o : List Nat) (n cc : Nat), k = .int .i64 (n : Int) ∧ c = .int .i64 (cc : Int) ∧ o ++ Dg.sub (a.drop n) (b.drop n) cc = T ∧ o.length = n ∧ cc ≤ 1 ∧ n + m = a.length ∧
    W.ownsRow w.heap.size 3 1 d n (o.map fun d : Nat => Value.int .i64 (d : Int)) ∧ Below w.heap.size w W

set_option maxRecDepth 100000 in
set_option maxHeartbeats 4000000 in
theorem rsub_any (v1 v2 : Value) (a b : List Nat) (la : a.length ≤ 20000) (lb : b.length ≤ 20000) (da : ∀ d ∈ a, d < 10) (db : ∀ d ∈ b, d < 10) (le : Dg.val b ≤ Dg.val a) (w : World) (h1 : Row w v1 a) (h2 : Row w v2 b) :
    Calls Tryd.prog 84 #[v1, v2] w (RetRow (Dg.dg (Dg.val a - Dg.val b)) w) := by
  obtain ⟨i0, hi0, hz0, hz1, hz2⟩ := info_parts int_info
  have H1 := Lib.hid h1
  have H2 := Lib.hid h2
  have DA := Lib.hid da
  have DB := Lib.hid db
  have F1 := Lib.hid h1.form
  obtain ⟨A, ca, rfl⟩ := slice_of h1
  obtain ⟨B, cb, rfl⟩ := slice_of h2
  obtain ⟨T, hT⟩ : ∃ T, T = Dg.sub a b 0 := ⟨_, rfl⟩
  have TL : T.length ≤ 20000 := by rw [hT, Dg.sub_length]; exact la
  have TV : Dg.val T = Dg.val a - Dg.val b := by have := Dg.val_sub a b 0 da db (by omega) (by omega); rw [← hT] at this; omega
  have TD := Lib.hid (Dg.sub_lt a b 0 da db (by omega))
  rw [← hT] at TD
  rw [← TV]
  have HT := Lib.hid hT
  clear h1 h2 da db hT TV le
  go_enter Tryd.func84, Tryd.ntmps84
  go_wp2
  go_loopg [5, 6, 7] a.length (fun m d c k W => SubRel w a b T m d c k W)
  case atStart => exact ⟨[], 0, 0, rfl, rfl, by rw [List.drop_zero, List.drop_zero, HT.out]; rfl, rfl, by omega, by omega, ⟨rfl, .inl ⟨rfl, rfl⟩⟩, Below.refl _ _⟩
  case round =>
    obtain ⟨o, n, cc, rfl, rfl, e1, e2, c1, e3, own, HB⟩ := hrel
    have E1 := Lib.hid e1
    have E2 := Lib.hid e2
    have E3 := Lib.hid e3
    have base := HB.size
    rcases Nat.eq_zero_or_pos gk with z | z
    · have t1 : decide (n < a.length) = false := by simp; omega
      have D : Dg.sub (a.drop n) (b.drop n) cc = [] := by rw [List.drop_eq_nil_of_le (by omega)]; rfl
      have eo : o = T := by have := E1.out; rw [D, List.append_nil] at this; exact this
      have R : Row wr u5 T := by
        have q := own
        rw [← E2.out, eo] at q
        exact row_of q
      have HR := Lib.hid R
      clear own R eo D e1 e2 e3 c1 z
      go_wp2_with fail
      refine (trim_any _ T (by omega) TD.out _ HR.out).mono ?_
      rintro e w1 ⟨v1, rfl, R1, hb1⟩
      have HR1 := Lib.hid R1
      clear R1
      go_wp2
      go_ret
      exact ⟨v1, rfl, HR1.out, bstep HB hb1⟩
    · have nl : n < a.length := by omega
      have t1 : decide (n < a.length) = true := by simpa using nl
      have S := Lib.hid (Dg.sub_step a b n cc nl)
      have d9 := Dg.getD_lt DA.out n
      have f9 := Dg.getD_lt DB.out n
      have AT := Lib.hid (fun W (hW : Below w.heap.size w W) => at_any _ b n (by omega) (by omega) W (H2.out.below hW))
      obtain ⟨g2, c2, p1, p2, p3, p4⟩ : ∃ g c, Value.slice A a.length ca = .slice (some ⟨g, 0, none⟩) a.length c ∧ a.length ≤ c ∧ g < w.heap.size ∧ ∀ k, k < a.length → w.cell? ⟨g, k, none⟩ = some (.int .i64 ((a.getD k 0 : Nat) : Int)) := by
        rcases F1.out with ⟨_, e⟩ | ⟨g, c, e, f1, _, f2, f3⟩
        · subst e; simp at nl
        · exact ⟨g, c, e, f1, f2, f3⟩
      have c := (HB.cell (p := ⟨g2, n, none⟩) p3).trans (p4 n nl)
      injection p1 with p1 _ p1'
      subst p1 p1'
      generalize a.getD n 0 = d at *
      generalize b.getD n 0 = f at *
      obtain ⟨ci, hc⟩ : ∃ p : Int, p = (cc : Int) := ⟨_, rfl⟩
      have c2 : 0 ≤ ci ∧ ci ≤ 1 := by omega
      obtain ⟨c2, c3⟩ := c2
      have HC := Lib.hid hc
      have n1 : n ≤ 20000 := by omega
      have k0 : (0 : Int) ≤ (n : Int) := by omega
      have k1 : (n : Int) < (a.length : Int) := by omega
      rw [← hc]
      have HBB := Lib.hid HB
      by_cases st : d < f + cc
      · have t2 : decide ((d : Int) - f - ci < 0) = true := by simp; omega
        have ebo : Dg.bo d f cc = 1 := if_pos st
        rw [ebo] at S
        have st' : (d : Int) < f + ci := by omega
        clear st hc e1 e2 e3 c1 p4 ebo
        go_wp2
        go_region_held3 (fun w' => w'.cell? ⟨g2, n, none⟩ = some (.int .i64 (d : Int)) ∧ Below wr.heap.size wr w') (first | assumption | exact ⟨c, (Below.refl _ _).drew⟩ | exact ⟨by assumption, by assumption⟩)
          (first
            | (go_at_call 83; refine (AT.out _ (bstep HBB.out (And.right (by assumption)))).mono ?_; rintro e w1 ⟨rfl, rfl⟩))
        all_goals
          go_wp2_with (at_builtin; refine wpList_append_own _ rfl (.tmp 29) (.tmp 31) _ rfl w.heap.size 3 i0 _ 1 8 Tryd.underlying33 hi0 hz0 hz1 hz2 rfl (by omega) u5 n (o.map fun d : Nat => Value.int .i64 (d : Int)) rfl (own.alloc _) ⟨wr.heap.size, 0, none⟩ 1 1 [.int .i64 ((d : Int) - f - ci + 10)] rfl rfl (cell_one_new _ _ _) (by intro u hu; rw [List.mem_singleton.1 hu]; rfl) (by simp only [maxLen]; omega) (by omega) (by simp; omega) ?_)
          intro v' w' hown hg _
          have OW := Lib.hid hown
          have BB : Below w.heap.size w w' := (HBB.out.drew.alloc base _).grown hg (by simp; omega) (fun k hk => (own.lt k hk).1)
          clear hown hg
          go_wp2
          go_roundg (gk - 1)
          case measure => omega
          case rel =>
            have hc := HC.out
            have e1 := E1.out
            have e2 := E2.out
            have e3 := E3.out
            refine ⟨o ++ [d + 10 * 1 - f - cc], n + 1, 1, by go_num, rfl, ?_, ?_, ?_, ?_, ?_, BB⟩
            · rw [List.append_assoc, List.singleton_append, ← S.out]; exact e1
            · rw [List.length_append, e2]; rfl
            · omega
            · omega
            · rw [List.map_append]
              have e : Value.int .i64 ((d : Int) - f - ci + 10) = Value.int .i64 ((d + 10 * 1 - f - cc : Nat) : Int) := int_eq' (by omega)
              have q := OW.out
              rw [e] at q
              exact q
      · have t2 : decide ((d : Int) - f - ci < 0) = false := by simp; omega
        have ebo : Dg.bo d f cc = 0 := if_neg st
        rw [ebo] at S
        have st' : (f : Int) + ci ≤ d := by omega
        clear st hc e1 e2 e3 c1 p4 ebo
        go_wp2
        go_region_held3 (fun w' => w'.cell? ⟨g2, n, none⟩ = some (.int .i64 (d : Int)) ∧ Below wr.heap.size wr w') (first | assumption | exact ⟨c, (Below.refl _ _).drew⟩ | exact ⟨by assumption, by assumption⟩)
          (first
            | (go_at_call 83; refine (AT.out _ (bstep HBB.out (And.right (by assumption)))).mono ?_; rintro e w1 ⟨rfl, rfl⟩))
        all_goals
          go_wp2_with (at_builtin; refine wpList_append_own _ rfl (.tmp 29) (.tmp 31) _ rfl w.heap.size 3 i0 _ 1 8 Tryd.underlying33 hi0 hz0 hz1 hz2 rfl (by omega) u5 n (o.map fun d : Nat => Value.int .i64 (d : Int)) rfl (own.alloc _) ⟨wr.heap.size, 0, none⟩ 1 1 [.int .i64 ((d : Int) - f - ci)] rfl rfl (cell_one_new _ _ _) (by intro u hu; rw [List.mem_singleton.1 hu]; rfl) (by simp only [maxLen]; omega) (by omega) (by simp; omega) ?_)
          intro v' w' hown hg _
          have OW := Lib.hid hown
          have BB : Below w.heap.size w w' := (HBB.out.drew.alloc base _).grown hg (by simp; omega) (fun k hk => (own.lt k hk).1)
          clear hown hg
          go_wp2
          go_roundg (gk - 1)
          case measure => omega
          case rel =>
            have hc := HC.out
            have e1 := E1.out
            have e2 := E2.out
            have e3 := E3.out
            refine ⟨o ++ [d + 10 * 0 - f - cc], n + 1, 0, by go_num, rfl, ?_, ?_, ?_, ?_, ?_, BB⟩
            · rw [List.append_assoc, List.singleton_append, ← S.out]; exact e1
            · rw [List.length_append, e2]; rfl
            · omega
            · omega
            · rw [List.map_append]
              have e : Value.int .i64 ((d : Int) - f - ci) = Value.int .i64 ((d + 10 * 0 - f - cc : Nat) : Int) := int_eq' (by omega)
              have q := OW.out
              rw [e] at q
              exact q
end Go.Proofs.YtncpdoeikebomaaDoor

/-
  The document's digits moved up by any number of places, and powers of two, each as a contract of its call.
-/
namespace Go.Proofs.YtncpdoeikebomaaDoor
open Go.RowKit

theorem val_shift (n m : Nat) : trim (List.replicate n 0 ++ Dg.dg m) = Dg.dg (m * 10 ^ n) := by
  unfold trim
  rw [Dg.val_append, Dg.val_zeros _ (fun d hd => (List.mem_replicate.1 hd).2), Dg.val_dg, List.length_replicate, Nat.zero_add, Nat.mul_comm]

def ShRel (w : World) (n m : Nat) (d k : Value) (W : World) : Prop :=
  ∃ j : Nat, k = .int .i64 (j : Int) ∧ j + m = n ∧ W.ownsRow w.heap.size 3 1 d j ((List.replicate j 0).map fun d : Nat => Value.int .i64 (d : Int)) ∧ Below w.heap.size w W

set_option maxRecDepth 100000 in
set_option maxHeartbeats 4000000 in
/-- So many times ten. -/
theorem shift_any (v : Value) (m n : Nat) (hn : n ≤ 20000) (la : (Dg.dg m).length ≤ 20000) (w : World) (h : Row w v (Dg.dg m)) : Calls Tryd.prog 17 #[v, .int .i64 (n : Int)] w (RetRow (Dg.dg (m * 10 ^ n)) w) := by
  obtain ⟨i0, hi0, hz0, hz1, hz2⟩ := info_parts int_info
  rw [← val_shift]
  have HDL := Lib.hid (show ∀ d ∈ List.replicate n 0 ++ Dg.dg m, d < 10 from fun d hd => by
    rcases List.mem_append.1 hd with hd | hd
    · rw [(List.mem_replicate.1 hd).2]; omega
    · exact Dg.dg_lt m d hd)
  have F := Lib.hid h.form
  obtain ⟨A, ca, rfl⟩ := slice_of h
  generalize Dg.dg m = a at *
  clear m h
  go_enter Tryd.func17, Tryd.ntmps17
  go_wp2
  go_loopg [5, 6] n (fun m d k W => ShRel w n m d k W)
  case atStart => exact ⟨0, rfl, by omega, ⟨rfl, .inl ⟨rfl, rfl⟩⟩, Below.refl _ _⟩
  case round =>
    obtain ⟨j, rfl, e1, own, HB⟩ := hrel
    have E1 := Lib.hid e1
    have jn : j ≤ n := by omega
    have base := HB.size
    rcases Nat.lt_or_ge j n with z | z
    · have t : decide (j < n) = true := by simpa using z
      have j1 : j ≤ 20000 := by omega
      clear e1
      go_wp2_with (at_builtin; refine wpList_append_own _ rfl (.tmp 12) (.tmp 13) _ rfl w.heap.size 3 i0 _ 1 8 Tryd.underlying33 hi0 hz0 hz1 hz2 rfl (by omega) u5 j ((List.replicate j 0).map fun d : Nat => Value.int .i64 (d : Int)) rfl (own.alloc _) ⟨wr.heap.size, 0, none⟩ 1 1 [.int .i64 0] rfl rfl (cell_one_new _ _ _) (by intro u hu; rw [List.mem_singleton.1 hu]; rfl) (by simp only [maxLen]; omega) (by omega) (by simp; omega) ?_)
      intro v' w' hown hg _
      have OW := Lib.hid hown
      have BB : Below w.heap.size w w' := (HB.alloc base _).grown hg (by simp; omega) (fun k hk => (own.lt k hk).1)
      clear hown hg
      go_wp2
      go_roundg (gk - 1)
      case measure => have := E1.out; omega
      case rel =>
        refine ⟨j + 1, by go_num, by have := E1.out; omega, ?_, BB⟩
        rw [List.replicate_succ', List.map_append, List.map_replicate]
        exact OW.out
    · have ej : j = n := by omega
      subst ej
      have t : decide (j < j) = false := by simp
      clear e1 z jn
      rcases F.out with ⟨e, rfl⟩ | ⟨g, cap, e, h1, h2, h3, h4⟩
      · rw [e]
        have R : Row wr u5 (List.replicate j 0 ++ []) := by
          rw [List.append_nil]
          refine row_of (b := w.heap.size) ?_
          rw [List.length_replicate]
          exact own
        have HR := Lib.hid R
        clear R e
        go_wp2_with (at_builtin; refine wpList_append_named_none _ rfl (.tmp 15) (.tmp 16) _ _ rfl w.heap.size 3 i0 1 Tryd.underlying33 Tryd.underlying34 hi0 u5 j ((List.replicate j 0).map fun d : Nat => Value.int .i64 (d : Int)) rfl own rfl ?_)
        go_wp2_with fail
        refine (trim_any _ (List.replicate j 0 ++ []) (by simp; omega) HDL.out _ HR.out).mono ?_
        rintro e w3 ⟨v3, rfl, R3, hb3⟩
        have HR3 := Lib.hid R3
        clear R3
        go_wp2
        go_ret
        exact ⟨v3, rfl, HR3.out, bstep HB hb3⟩
      · rw [e]
        have nw := Lib.hid (cells_take (w := wr) (g := g) (l := a) (fun k hk => (HB.cell (p := ⟨g, k, none⟩) h3).trans (h4 k hk)) (Nat.le_refl _))
        have h2' : cap ≤ 9223372036854775807 := h2
        clear h2 h4 e
        go_wp2_with (at_builtin; refine wpList_append_named _ rfl (.tmp 15) (.tmp 16) _ _ rfl w.heap.size 3 i0 _ 1 8 Tryd.underlying33 Tryd.underlying34 hi0 hz0 hz1 hz2 rfl (by omega) u5 j ((List.replicate j 0).map fun d : Nat => Value.int .i64 (d : Int)) rfl own ⟨g, 0, none⟩ a.length cap (a.map fun d : Nat => Value.int .i64 (d : Int)) rfl (by simp) (by have := nw.out; rw [List.take_length] at this; exact this) (by intro u hu; obtain ⟨y, _, rfl⟩ := List.mem_map.1 hu; rfl) (by simp only [maxLen]; omega) (by omega) base ?_)
        intro v2 w2 hown2 hg2
        have B2 : Below w.heap.size w w2 := HB.grown hg2 base (fun k hk => (own.lt k hk).1)
        have R : Row w2 v2 (List.replicate j 0 ++ a) := by
          refine row_of (b := w.heap.size) ?_
          rw [List.length_append, List.length_replicate, List.map_append, List.map_replicate]
          exact hown2
        have HR := Lib.hid R
        clear hown2 hg2 R nw
        go_wp2_with fail
        refine (trim_any _ (List.replicate j 0 ++ a) (by simp; omega) HDL.out _ HR.out).mono ?_
        rintro e w3 ⟨v3, rfl, R3, hb3⟩
        have HR3 := Lib.hid R3
        clear R3
        go_wp2
        go_ret
        exact ⟨v3, rfl, HR3.out, bstep B2 hb3⟩
theorem one_row1 (W : World) : Row (W.alloc (.cells #[.int .i64 1] 3)) (.slice (some ⟨W.heap.size, 0, none⟩) 1 1) [1] := by
  refine ⟨rfl, .inr ⟨W.heap.size, 1, #[.int .i64 1], rfl, Nat.zero_le _, ?_, Nat.le_refl _, by decide, rfl, rfl⟩⟩
  exact heap_alloc_new W _
theorem dg_one : Dg.dg 1 = [1] := by rw [Dg.dg_pos (by decide)]; simp [Dg.dg_zero]
end Go.Proofs.YtncpdoeikebomaaDoor

/-
  The document's digits of a word and their text (the reference's Words, Text), each as a contract of its call.
-/
import Derived.Test.YthgondbiddncpaaDoorY0
import Derived.Test.YthgondbiddncpaaDoorR0
import Derived.Deep.LoopGhost
import Derived.Maps.AppendAt
import Derived.Deep.AppendLies
import Derived.Deep.RegionHeld3
namespace Go.Proofs.YthgondbiddncpaaDoor
open Go.RowKit

/-- The slice v, made by the program itself, holds the digits l. -/
def Row (W : World) (v : Value) (l : List Nat) : Prop := W.ownsRow 0 3 1 v l.length (l.map fun d : Nat => Value.int .i64 (d : Int))
theorem Row.nil {W : World} : Row W (.slice none 0 0) [] := ⟨rfl, .inl ⟨rfl, rfl⟩⟩
theorem Row.form {W : World} {v : Value} {l : List Nat} (h : Row W v l) : (v = .slice none 0 0 ∧ l = []) ∨
    ∃ g cap, v = .slice (some ⟨g, 0, none⟩) l.length cap ∧ l.length ≤ cap ∧ cap ≤ maxLen ∧ g < W.heap.size ∧ ∀ k, k < l.length → W.cell? ⟨g, k, none⟩ = some (.int .i64 ((l.getD k 0 : Nat) : Int)) := by
  rcases h.2 with ⟨rfl, h0⟩ | ⟨g, cap, cur, rfl, hb, hh, h1, h2, h3, h4⟩
  · exact .inl ⟨rfl, List.eq_nil_of_length_eq_zero h0⟩
  · refine .inr ⟨g, cap, rfl, h1, h2, ?_, fun k hk => ?_⟩
    · rcases Nat.lt_or_ge g W.heap.size with x | x
      · exact x
      · rw [Array.getElem?_eq_none x] at hh; cases hh
    · have := World.ownsRow.cellAt h k (by omega)
      rw [this]
      simp [List.getD, hk]
theorem Row.below {W w1 : World} {v : Value} {l : List Nat} (h : Row W v l) (hb : Below W.heap.size W w1) : Row w1 v l := by
  refine ⟨h.1, ?_⟩
  rcases h.2 with h0 | ⟨g, cap, cur, rfl, hb0, hh, h1, h2, h3, h4⟩
  · exact .inl h0
  · refine .inr ⟨g, cap, cur, rfl, hb0, ?_, h1, h2, h3, h4⟩
    have : g < W.heap.size := by
      rcases Nat.lt_or_ge g W.heap.size with x | x
      · exact x
      · rw [Array.getElem?_eq_none x] at hh; cases hh
    exact (hb.block g this).trans hh
set_option maxHeartbeats 400000 in
theorem at_any (v : Value) (l : List Nat) (k : Nat) (hk : k ≤ 1000000) (hl : l.length ≤ 1000000) (w : World) (h : Row w v l) :
    Calls Tryd.prog 87 #[v, .int .i64 (k : Int)] w fun e w' => e = .returned (.int .i64 ((l.getD k 0 : Nat) : Int)) ∧ w = w' := by
  rcases h.form with ⟨rfl, rfl⟩ | ⟨g, cap, rfl, h1, h2, h3, h4⟩
  · go_enter Tryd.func87, Tryd.ntmps87
    go_wp2
    go_ret
    exact ⟨rfl, rfl⟩
  · rcases Nat.lt_or_ge k l.length with x | x
    · have c := h4 k x
      generalize l.getD k 0 = d at *
      clear h4 h
      go_enter Tryd.func87, Tryd.ntmps87
      go_wp2
      go_ret
      exact ⟨rfl, rfl⟩
    · rw [show l.getD k 0 = 0 from by simp [List.getD, x]]
      clear h4 h
      go_enter Tryd.func87, Tryd.ntmps87
      go_wp2
      go_ret
      exact ⟨rfl, rfl⟩
theorem int_info : (Tryd.prog.info? 3).map (fun i => (i.zero, i.size, i.bytes)) = some (some (.int .i64 0), 1, 8) := by kernel_rfl
/-- Where the search for the highest digit that is not 0 stands. -/
def TrimRel (w : World) (l : List Nat) (k : Nat) (n : Value) (W : World) : Prop := w = W ∧ n = .int .i64 (k : Int) ∧ k ≤ l.length ∧ ∀ j, k ≤ j → l.getD j 0 = 0
def RetRow (l : List Nat) (w : World) (e : Ending) (w' : World) : Prop := ∃ v, e = .returned v ∧ Row w' v l ∧ Below w.heap.size w w'
/-- The digits without the noughts above. -/
def trim (l : List Nat) : List Nat := Dg.dg (Dg.val l)
theorem trim_of {l : List Nat} (h : ∀ d ∈ l, d < 10) {k : Nat} (hk : k ≤ l.length) (h0 : ∀ j, k ≤ j → l.getD j 0 = 0) (h1 : k = 0 ∨ l.getD (k - 1) 0 ≠ 0) : l.take k = trim l := by
  have e : Dg.val l = Dg.val (l.take k) := by
    conv => lhs; rw [← List.take_append_drop k l]
    rw [Dg.val_append, Dg.val_zeros (l.drop k), Nat.mul_zero, Nat.add_zero]
    intro d hd
    obtain ⟨j, hj, rfl⟩ := List.getElem_of_mem hd
    rw [List.getElem_drop]
    have := h0 (k + j) (by omega)
    simpa [List.getD, List.getElem?_eq_getElem (show k + j < l.length by simp at hj; omega)] using this
  unfold trim
  rw [e]
  apply Dg.canon
  · exact fun d hd => h d (List.mem_of_mem_take hd)
  · rcases h1 with rfl | h1
    · simp
    · rcases Nat.eq_zero_or_pos k with z | z
      · subst z; simp
      · rw [List.getLast?_take]
        simp [List.getD] at h1
        have : l[k - 1]? = some l[k - 1] := List.getElem?_eq_getElem (by omega)
        rw [if_neg (by omega), this]
        rw [this] at h1
        simpa using h1
theorem cells_take {w : World} {g : Nat} {l : List Nat} (h : ∀ k, k < l.length → w.cell? ⟨g, k, none⟩ = some (.int .i64 ((l.getD k 0 : Nat) : Int))) {n : Nat} (hn : n ≤ l.length) :
    ∀ j u, ((l.take n).map fun d : Nat => Value.int .i64 (d : Int))[j]? = some u → w.cell? ((⟨g, 0, none⟩ : Addr).add j) = some u := by
  intro j u hu
  have hj : j < n := by
    rcases Nat.lt_or_ge j n with x | x
    · exact x
    · rw [List.getElem?_eq_none (by simp; omega)] at hu; cases hu
  have e : (⟨g, 0, none⟩ : Addr).add j = ⟨g, j, none⟩ := by
    unfold Addr.add
    split
    · rename_i z; subst z; rfl
    · simp
  rw [e, h j (by omega)]
  rw [List.getElem?_map, List.getElem?_take_of_lt hj, List.getElem?_eq_getElem (by omega)] at hu
  simp [List.getD, List.getElem?_eq_getElem (show j < l.length by omega)] at hu ⊢
  exact hu
set_option maxHeartbeats 800000 in
theorem trim_any (v : Value) (l : List Nat) (hl : l.length ≤ 100000) (hd : ∀ d ∈ l, d < 10) (w : World) (h : Row w v l) :
    Calls Tryd.prog 88 #[v] w (RetRow (trim l) w) := by
  obtain ⟨i0, hi0, hz0, hz1, hz2⟩ := info_parts int_info
  rcases h.form with ⟨rfl, rfl⟩ | ⟨g, cap, rfl, h1, h2, h3, h4⟩
  · clear h
    go_enter Tryd.func88, Tryd.ntmps88
    go_wp2
    refine wp_loop_rounds 1 ?_
    rw [rounds_succ]
    go_wp2
    go_ret
    refine ⟨_, rfl, ?_, Below.refl _ _⟩
    rw [show trim [] = [] from by unfold trim; exact Dg.dg_zero]
    exact Row.nil
  · have h2' : cap ≤ 9223372036854775807 := h2
    clear h2
    have H4 := Lib.hid h4
    have H := Lib.hid h
    have HD := Lib.hid hd
    clear h4 h hd
    go_enter Tryd.func88, Tryd.ntmps88
    go_wp2
    go_loopg [3] l.length (fun k n W => TrimRel w l k n W)
    case atStart => exact ⟨rfl, rfl, Nat.le_refl _, fun j hj => by simp [List.getD, hj]⟩
    case round =>
      obtain ⟨rfl, rfl, r1, r2⟩ := hrel
      have R2 := Lib.hid r2
      clear r2
      rcases Nat.eq_zero_or_pos gk with z | z
      · subst z
        have T := Lib.hid (trim_of HD.out r1 R2.out (.inl rfl))
        go_wp2
        go_ret
        refine ⟨_, rfl, ?_, Below.refl _ _⟩
        rw [← T.out]
        exact Row.nil
      · obtain ⟨k, rfl⟩ : ∃ k, gk = k + 1 := ⟨gk - 1, by omega⟩
        have c := H4.out k (by omega)
        have ek : ((k : Int) + 1 - 1) = k := by omega
        by_cases e : l.getD k 0 = 0
        · rw [e] at c
          have E := Lib.hid e
          clear e
          go_wp2
          go_roundg k
          case measure => omega
          case rel => exact ⟨rfl, by go_num, by omega, fun j hj => (Nat.eq_or_lt_of_le hj).elim (fun x => x ▸ E.out) (fun x => R2.out j x)⟩
        · have T := Lib.hid (trim_of HD.out r1 R2.out (.inr (by simpa using e)))
          have nw := Lib.hid (cells_take H4.out r1)
          generalize l.getD k 0 = d at *
          have ne : ((d : Int) == 0) = false := by simp; omega
          clear e
          go_wp2_with (at_builtin; refine wpList_append_own _ rfl (.tmp 19) (.tmp 22) _ rfl 0 3 i0 _ 1 8 Tryd.underlying77 hi0 hz0 hz1 hz2 rfl (by omega) (.slice none 0 0) 0 [] rfl ⟨by simp, .inl ⟨rfl, rfl⟩⟩ ⟨g, 0, none⟩ (k + 1) cap ((l.take (k + 1)).map fun d : Nat => Value.int .i64 (d : Int)) rfl ?_ ?_ ?_ ?_ ?_ (Nat.zero_le _) ?_)
          · simp; omega
          · exact nw.out
          · intro u hu
            obtain ⟨x, _, rfl⟩ := List.mem_map.1 hu
            rfl
          · simp only [maxLen]; omega
          · omega
          · intro v' w' hown hg _
            go_wp2
            go_ret
            refine ⟨v', rfl, ?_, (Below.refl _ _).grown hg (Nat.le_refl _) (by simp [Value.ownBlock])⟩
            rw [← T.out]
            unfold Row
            rw [List.length_take, Nat.min_eq_left r1, List.map_take]
            exact hown
/-- Where the product of the digits a with x stands: o has been written, c goes over. -/
def SmallRel (w : World) (a T : List Nat) (x m : Nat) (d c k : Value) (W : World) : Prop :=
  ∃ (o : List Nat) (n cc : Nat), d = d ∧ k = .int .i64 (n : Int) ∧ c = .int .i64 (cc : Int) ∧ o ++ Dg.small x (a.drop n) cc = T ∧ o.length = n ∧ cc ≤ 4294967296 ∧ m = (Dg.small x (a.drop n) cc).length ∧
    W.ownsRow w.heap.size 3 1 d n (o.map fun d : Nat => Value.int .i64 (d : Int)) ∧ Below w.heap.size w W
theorem row_of {W : World} {v : Value} {o : List Nat} {b : Nat} (h : W.ownsRow b 3 1 v o.length (o.map fun d : Nat => Value.int .i64 (d : Int))) : Row W v o := by
  refine ⟨h.1, ?_⟩
  rcases h.2 with h0 | ⟨g, cap, cur, h1, _, h2⟩
  · exact .inl h0
  · exact .inr ⟨g, cap, cur, h1, Nat.zero_le _, h2⟩
theorem int_eq' {k : IntKind} {a b : Int} (h : a = b) : Value.int k a = Value.int k b := by rw [h]
set_option maxRecDepth 100000 in
set_option maxHeartbeats 2000000 in
theorem small_any (v : Value) (a : List Nat) (xi ai : Int) (x add : Nat) (hx : xi = (x : Int)) (ha : ai = (add : Int)) (x1 : x ≤ 4294967296) (a1 : add ≤ 4294967296) (hl : a.length ≤ 50000) (hd : ∀ d ∈ a, d < 10) (w : World) (h : Row w v a) :
    Calls Tryd.prog 79 #[v, .int .i64 xi, .int .i64 ai] w (RetRow (Dg.dg (Dg.val a * x + add)) w) := by
  obtain ⟨i0, hi0, hz0, hz1, hz2⟩ := info_parts int_info
  have H := Lib.hid h
  have HD := Lib.hid hd
  obtain ⟨A, len, cap, hv, hlen⟩ : ∃ A len cap, v = .slice A len cap ∧ len = a.length := by
    rcases h.form with ⟨rfl, rfl⟩ | ⟨g, cap, rfl, _⟩
    · exact ⟨_, _, _, rfl, rfl⟩
    · exact ⟨_, _, _, rfl, rfl⟩
  subst hv hlen
  obtain ⟨T, hT⟩ : ∃ T, T = Dg.small x a add := ⟨_, rfl⟩
  have TL : T.length ≤ 50010 := by have := Dg.small_length x x1 a add hd a1; rw [← hT] at this; omega
  have HT := Lib.hid hT
  have X1 := Lib.hid x1
  have A1 := Lib.hid a1
  have HX := Lib.hid hx
  have HA := Lib.hid ha
  clear h hd hT x1 a1 hx ha
  go_enter Tryd.func79, Tryd.ntmps79
  go_wp2
  go_loopg [7, 8, 9] T.length (fun m d c k W => SmallRel w a T x m d c k W)
  case atStart => exact ⟨[], 0, add, rfl, rfl, by rw [HA.out], by rw [List.drop_zero, HT.out]; rfl, rfl, A1.out, by rw [List.drop_zero, HT.out], ⟨rfl, .inl ⟨rfl, rfl⟩⟩, Below.refl _ _⟩
  case round =>
    obtain ⟨o, n, cc, _, rfl, rfl, e1, e2, c1, e3, own, HB⟩ := hrel
    have E1 := Lib.hid e1
    have E2 := Lib.hid e2
    have E3 := Lib.hid e3
    have nT : n + gk = T.length := by rw [← e1, List.length_append, e2, e3]
    have C1 := Lib.hid c1
    have n1 : n ≤ 50010 := by omega
    have NT := Lib.hid nT
    clear e1 e2 e3 c1 nT
    by_cases st : a.length ≤ n ∧ cc = 0
    · obtain ⟨s1, s2⟩ := st
      subst s2
      have D := Lib.hid (Dg.small_done x a n 0 ⟨s1, rfl⟩)
      have eo : o = T := by have := E1.out; rw [D.out, List.append_nil] at this; exact this
      have EO := Lib.hid eo
      have EN : T.length = n := by rw [← E2.out, eo]
      have ENh := Lib.hid EN
      clear eo EN
      have own' := Lib.hid own
      have R : Row wr u7 T := by
        have q := own'.out
        rw [← ENh.out, EO.out] at q
        exact row_of q
      have HR := Lib.hid R
      clear own R
      obtain ⟨ci, hc⟩ : ∃ p : Int, p = ((0 : Nat) : Int) := ⟨_, rfl⟩
      have c0 : decide (0 < ci) = false := by rw [hc]; rfl
      have k0 : decide (n < a.length) = false := by simpa using s1
      rw [← hc]
      clear hc
      go_wp2_with fail
      refine (trim_any _ T (by have := TL; omega) (by rw [HT.out]; exact Dg.small_lt x a add) _ HR.out).mono ?_
      rintro e w1 ⟨v1, rfl, R1, hb1⟩
      have HR1 := Lib.hid R1
      clear R1
      go_wp2
      go_ret
      refine ⟨v1, rfl, ?_, bstep HB hb1⟩
      have q := HR1.out
      unfold trim at q
      rw [HT.out, Dg.val_small] at q
      exact q
    · have S := Lib.hid (Dg.small_step x a n cc st)
      have d9 := Dg.getD_lt HD.out n
      have AT := Lib.hid (at_any _ a n (by omega) (by omega) wr (H.out.below HB))
      have gp : gk ≠ 0 := by
        rw [E3.out, S.out]; simp
      have tst : (n < a.length) ∨ (a.length ≤ n ∧ 0 < cc) := by omega
      generalize a.getD n 0 = d at *
      have p1 : d * x ≤ 9 * 4294967296 := Nat.mul_le_mul d9 X1.out
      obtain ⟨pi, hp⟩ : ∃ p : Int, p = ((d * x : Nat) : Int) := ⟨_, rfl⟩
      obtain ⟨ci, hc⟩ : ∃ p : Int, p = (cc : Int) := ⟨_, rfl⟩
      have wp1 : wrap64 ((d : Int) * xi) = pi := by
        rw [HX.out, ← Int.natCast_mul, ← hp]
        exact IntWalk.wrap64_in _ ⟨by omega, by omega⟩
      have p2 : 0 ≤ pi ∧ pi ≤ 38654705664 := by omega
      have c2 : 0 ≤ ci ∧ ci ≤ 4294967296 := by have := C1.out; omega
      have HP := Lib.hid hp
      have HC := Lib.hid hc
      have P1 := Lib.hid p1
      obtain ⟨p2, p3⟩ := p2
      obtain ⟨c2, c3⟩ := c2
      have base := HB.size
      have t2 : n < a.length ∨ 0 < ci := by omega
      rw [← hc]
      clear p1 d9 hp hc st tst
      have t3 : (decide (n < a.length) = true) ∨ (decide (n < a.length) = false ∧ decide (0 < ci) = true) := by
        rcases Nat.lt_or_ge n a.length with z | z
        · exact .inl (by simpa using z)
        · exact .inr ⟨by simpa using z, by simp; omega⟩
      clear t2
      rcases t3 with t3 | ⟨t3, t4⟩
      all_goals
        go_wp2_with fail
        refine (AT.out).mono ?_
        rintro e w1 ⟨rfl, rfl⟩
        go_wp2_with (at_builtin; refine wpList_append_own _ rfl (.tmp 29) (.tmp 32) _ rfl w.heap.size 3 i0 _ 1 8 Tryd.underlying77 hi0 hz0 hz1 hz2 rfl (by omega) u7 n (o.map fun d : Nat => Value.int .i64 (d : Int)) rfl (own.alloc _) ⟨wr.heap.size, 0, none⟩ 1 1 [.int .i64 ((pi + ci) % 10)] rfl rfl (cell_one_new _ _ _) (by intro u hu; rw [List.mem_singleton.1 hu]; rfl) (by simp only [maxLen]; omega) (by omega) (by simp; omega) ?_)
        intro v' w' hown hg _
        have OW := Lib.hid hown
        have BB : Below w.heap.size w w' := (HB.alloc base _).grown hg (by simp; omega) (fun k hk => (own.lt k hk).1)
        clear hown hg
        go_wp2
        go_roundg (gk - 1)
        case measure => omega
        case rel =>
          have hp := HP.out
          have hc := HC.out
          have p1 := P1.out
          have c1 := C1.out
          refine ⟨o ++ [(d * x + cc) % 10], n + 1, (d * x + cc) / 10, rfl, by go_num, int_eq' (by omega), ?_, ?_, ?_, ?_, ?_, BB⟩
          · rw [List.append_assoc, List.singleton_append, ← S.out]; exact E1.out
          · rw [List.length_append, E2.out]; rfl
          · omega
          · rw [E3.out, S.out]; simp
          · rw [List.map_append]
            have e : Value.int .i64 ((pi + ci) % 10) = Value.int .i64 (((d * x + cc) % 10 : Nat) : Int) := int_eq' (by omega)
            have q := OW.out
            rw [e] at q
            exact q
/-- The number of some words, the highest first. -/
def wv (ws : List Nat) : Nat := ws.foldl (fun n x => n * 18446744073709551616 + x) 0
theorem wv_snoc (ws : List Nat) (x : Nat) : wv (ws ++ [x]) = wv ws * 18446744073709551616 + x := by simp [wv]
theorem dg_small {m : Nat} (h : m < 10 ^ 200) : (Dg.dg m).length ≤ 200 := Dg.dg_length_le h
def WordsRel (w : World) (ws : List Nat) (m : Nat) (v i : Value) (W : World) : Prop :=
  ∃ k : Nat, i = .int .i64 (k : Int) ∧ k + m = ws.length ∧ Row W v (Dg.dg (wv (ws.take k))) ∧ Below w.heap.size w W
theorem wv_take_lt (ws : List Nat) (hw : ∀ x ∈ ws, x < 18446744073709551616) : ∀ k, k ≤ 4 → wv (ws.take k) < 18446744073709551616 ^ k := by
  intro k hk
  induction k with
  | zero => simp [wv]
  | succ k ih =>
    have ih := ih (by omega)
    rcases Nat.lt_or_ge k ws.length with z | z
    · rw [List.take_succ_eq_append_getElem z, wv_snoc, Nat.pow_succ]
      have := hw ws[k] (List.getElem_mem z)
      generalize wv (List.take k ws) = a at *
      generalize 18446744073709551616 ^ k = p at *
      omega
    · rw [List.take_of_length_le (by omega)]
      rw [List.take_of_length_le z] at ih
      exact Nat.lt_of_lt_of_le ih (Nat.pow_le_pow_right (by decide) (by omega))
theorem two_smalls (n x : Nat) : (n * 4294967296 + x / 4294967296) * 4294967296 + x % 4294967296 = n * 18446744073709551616 + x := by omega
theorem big200 : ∀ k : Fin 5, (18446744073709551616 : Nat) ^ k.val * 18446744073709551616 < 10 ^ 200 := by decide +kernel
theorem m2_gen (n x p Z K k q : Nat) (hk : k ≤ K) (hq : q ≤ x) (h : n < p) (hx : x < K) (bg : p * K < Z) : n * k + q < Z := by
  have a1 := Nat.mul_le_mul_right K (Nat.succ_le_of_lt h)
  rw [Nat.succ_mul] at a1
  have h1 : n * k ≤ n * K := Nat.mul_le_mul_left n hk
  omega
theorem m2_of (n x p Z : Nat) (h : n < p) (hx : x < 18446744073709551616) (bg : p * 18446744073709551616 < Z) : n * 4294967296 + x / 4294967296 < Z :=
  m2_gen n x p Z 18446744073709551616 4294967296 (x / 4294967296) (by decide) (Nat.div_le_self _ _) h hx bg
set_option maxRecDepth 100000 in
set_option maxHeartbeats 2000000 in
theorem words_any (g : Nat) (ws : List Nat) (cap : Nat) (hl : ws.length ≤ 4) (hw : ∀ x ∈ ws, x < 18446744073709551616) (w : World) (hg : g < w.heap.size)
    (hc : ∀ k, k < ws.length → w.cell? ⟨g, k, none⟩ = some (.int .u64 ((ws.getD k 0 : Nat) : Int))) :
    Calls Tryd.prog 62 #[.slice (some ⟨g, 0, none⟩) ws.length cap] w (RetRow (Dg.dg (wv ws)) w) := by
  have HC := Lib.hid hc
  have HW := Lib.hid hw
  clear hc hw
  go_enter Tryd.func62, Tryd.ntmps62
  go_wp2
  go_loopg [3, 4] ws.length (fun m v i W => WordsRel w ws m v i W)
  case atStart => exact ⟨0, rfl, by omega, by rw [List.take_zero, show wv [] = 0 from rfl, Dg.dg_zero]; exact Row.nil, Below.refl _ _⟩
  case round =>
    obtain ⟨k, rfl, e1, R, HB⟩ := hrel
    have HR := Lib.hid R
    have kl : k ≤ ws.length := by omega
    have E1 := Lib.hid e1
    clear R e1
    rcases Nat.lt_or_ge k ws.length with z | z
    · have lt := wv_take_lt ws HW.out k (by omega)
      have c := (HB.cell (p := ⟨g, k, none⟩) hg).trans (HC.out k z)
      have xw : ws.getD k 0 < 18446744073709551616 := by
        have := HW.out ws[k] (List.getElem_mem z)
        simpa [List.getD, z] using this
      have nx := Lib.hid (show ws.take (k + 1) = ws.take k ++ [ws.getD k 0] by rw [List.take_succ_eq_append_getElem z]; simp [List.getD, z])
      have bg := big200 ⟨k, by omega⟩
      generalize ws.getD k 0 = x at *
      generalize hn : wv (ws.take k) = n at *
      have HN := Lib.hid hn
      have m1 : n < 10 ^ 200 := by
        have : (1 : Nat) ≤ 18446744073709551616 := by decide
        exact Nat.lt_of_lt_of_le lt (Nat.le_trans (Nat.le_mul_of_pos_right _ (by decide)) (Nat.le_of_lt bg))
      have m2 := m2_of n x _ _ lt xw bg
      obtain ⟨xi, hx⟩ : ∃ i : Int, i = (x : Int) := ⟨_, rfl⟩
      rw [← hx] at c
      have x0 : 0 ≤ xi ∧ xi < 18446744073709551616 := by omega
      obtain ⟨x0, x1⟩ := x0
      have HX := Lib.hid hx
      have M1 := Lib.hid m1
      have M2 := Lib.hid m2
      have hB := HB.size
      clear hx m1 m2 lt bg xw hn
      go_wp2_with fail
      refine (small_any u3 (Dg.dg n) 4294967296 _ 4294967296 (x / 4294967296) rfl ?_ (by decide) ?_ ?_ (Dg.dg_lt n) _ ?_).mono ?_
      · have := HX.out; omega
      · have := HX.out; omega
      · have := dg_small M1.out; omega
      · exact HR.out
      rintro e w1 ⟨v1, rfl, R1, hb1⟩
      rw [Dg.val_dg] at R1
      have HR1 := Lib.hid R1
      have c' : w1.cell? ⟨g, k, none⟩ = some (.int .u64 xi) := (hb1.cell (by show g < wr.heap.size; omega)).trans c
      have HB1 : Below w.heap.size w w1 := bstep HB hb1
      clear c hb1 R1
      go_wp2_with fail
      refine (small_any v1 (Dg.dg (n * 4294967296 + x / 4294967296)) 4294967296 _ 4294967296 (x % 4294967296) rfl ?_ (by decide) ?_ ?_ (Dg.dg_lt _) _ HR1.out).mono ?_
      · have := HX.out; omega
      · have := HX.out; omega
      · have := dg_small M2.out; omega
      rintro e w2 ⟨v2, rfl, R2, hb2⟩
      rw [Dg.val_dg, two_smalls] at R2
      have HR2 := Lib.hid R2
      have HB2 : Below w.heap.size w w2 := bstep HB1 hb2
      clear c' hb2 R2
      go_wp2
      go_roundg (gk - 1)
      case measure => have := E1.out; omega
      case rel => exact ⟨k + 1, by go_num, by have := E1.out; omega, by rw [nx.out, wv_snoc, HN.out]; exact HR2.out, HB2⟩
    · have ek : ws.take k = ws := List.take_of_length_le z
      have EK := Lib.hid ek
      have t0 : decide (k < ws.length) = false := by simpa using z
      clear ek
      go_wp2
      go_ret
      have q := HR.out
      rw [EK.out] at q
      exact ⟨_, rfl, q, HB⟩
theorem wv1 (x : Nat) : wv [x] = x := by simp [wv]
theorem slice_of {w : World} {v : Value} {a : List Nat} (h : Row w v a) : ∃ A cap, v = .slice A a.length cap := by
  rcases h.form with ⟨rfl, rfl⟩ | ⟨g, cap, rfl, _⟩
  · exact ⟨_, _, rfl⟩
  · exact ⟨_, _, rfl⟩
/-- A digit's sign. -/
def sg (d : Nat) : UInt8 := UInt8.ofNat (48 + d)
theorem sg_toNat {d : Nat} (h : d < 10) : (sg d).toNat = 48 + d := by
  unfold sg
  rw [UInt8.toNat_ofNat']
  exact Nat.mod_eq_of_lt (by omega)
theorem dec_of_dg {n : Nat} (h : n ≠ 0) : Lib.decDigits n = (Dg.dg n).reverse.map sg := by
  induction n using Nat.strongRecOn with
  | _ n ih =>
    rw [Dg.dg_pos h, List.reverse_cons, List.map_append]
    by_cases z : n < 10
    · rw [Lib.decDigits_one z, Nat.div_eq_of_lt z, Dg.dg_zero, Nat.mod_eq_of_lt z]
      rfl
    · rw [Dx.dec_big z, ih (n / 10) (by omega) (by omega)]
      rfl
theorem byte_info : (Tryd.prog.info? 5).map (fun i => (i.zero, i.size, i.bytes)) = some (some (.int .u8 0), 1, 1) := by kernel_rfl
def TxRel (w : World) (a : List Nat) (j : Nat) (o k : Value) (W : World) : Prop :=
  k = .int .i64 ((j : Int) - 1) ∧ j ≤ a.length ∧ W.ownsRow w.heap.size 5 1 o (a.length - j) ((a.drop j).reverse.map fun d : Nat => Value.int .u8 ((48 + d : Nat) : Int)) ∧ Below w.heap.size w W
set_option maxRecDepth 100000 in
set_option maxHeartbeats 4000000 in
theorem rtext_any (v : Value) (m : Nat) (la : (Dg.dg m).length ≤ 20000) (w : World) (h : Row w v (Dg.dg m)) : Calls Tryd.prog 61 #[v] w (RetS (Lib.decDigits m) w) := by
  by_cases m0 : m = 0
  · subst m0
    rw [Dg.dg_zero] at h
    have hd : Lib.decDigits 0 = [48] := by rw [Lib.decDigits_one (by decide)]; rfl
    rw [hd]
    rcases h.form with ⟨rfl, _⟩ | ⟨g, cap, rfl, _⟩
    · clear h
      go_enter Tryd.func61, Tryd.ntmps61
      go_wp2
      go_ret
      exact ⟨rfl, Below.refl _ _⟩
    · clear h
      go_enter Tryd.func61, Tryd.ntmps61
      go_wp2
      go_ret
      exact ⟨rfl, Below.refl _ _⟩
  · obtain ⟨i0, hi0, hz0, hz1, hz2⟩ := info_parts byte_info
    rw [dec_of_dg m0]
    have F := Lib.hid h.form
    obtain ⟨A, ca, rfl⟩ := slice_of h
    have a0 : (Dg.dg m).length ≠ 0 := by rw [Dg.dg_pos m0]; simp
    have DL := Lib.hid (Dg.dg_lt m)
    generalize Dg.dg m = a at *
    clear m m0 h
    obtain ⟨L, hL⟩ : ∃ L : List UInt8, L = a.reverse.map sg := ⟨_, rfl⟩
    rw [← hL]
    have HL := Lib.hid hL
    have LL : L.length = a.length := by rw [hL]; simp
    clear hL
    have t0 : ((a.length : Int) == 0) = false := by rw [beq_eq_false_iff_ne]; omega
    go_enter Tryd.func61, Tryd.ntmps61
    go_wp2
    go_loopg [3, 4] a.length (fun j o k W => TxRel w a j o k W)
    case atStart =>
      refine ⟨rfl, Nat.le_refl _, ?_, Below.refl _ _⟩
      rw [List.drop_length, Nat.sub_self]
      exact ⟨rfl, .inl ⟨rfl, rfl⟩⟩
    case round =>
      obtain ⟨rfl, r1, own, HB⟩ := hrel
      have base := HB.size
      rcases Nat.eq_zero_or_pos gk with g0 | g0
      · subst g0
        rw [List.drop_zero, Nat.sub_zero] at own
        have ek : (((0 : Nat) : Int) - 1) = -1 := rfl
        rw [ek]
        have own' : wr.ownsRow w.heap.size 5 1 u3 a.length (L.map fun b : UInt8 => Value.int .u8 (b.toNat : Int)) := by
          rw [HL.out, List.map_map]
          have e : (a.reverse.map fun d : Nat => Value.int .u8 ((48 + d : Nat) : Int)) = a.reverse.map ((fun b : UInt8 => Value.int .u8 (b.toNat : Int)) ∘ sg) := by
            refine List.map_congr_left fun d hd => ?_
            show _ = Value.int .u8 ((sg d).toNat : Int)
            rw [sg_toNat (DL.out d (List.mem_reverse.1 hd))]
          rw [← e]
          exact own
        have OW := Lib.hid own'
        obtain ⟨g, cap, hg, hl⟩ : ∃ g cap, u3 = .slice (some ⟨g, 0, none⟩) a.length cap ∧ True := by
          rcases own'.2 with ⟨_, h0⟩ | ⟨g, cap, cur, e, _⟩
          · exact absurd h0 a0
          · exact ⟨g, cap, e, trivial⟩
        have hcv : (convert 92 9 (.slice (some ⟨g, 0, none⟩) a.length cap)).run Tryd.prog wr = .ok (.string ⟨L.toArray⟩) wr := by
          have h := run_convert_bytes_back (P := Tryd.prog) wr 92 9 5 ⟨g, 0, none⟩ cap L Tryd.underlying92 Tryd.underlying5 Tryd.underlying9 (fun j hj => by
            have q := OW.out
            rw [hg] at q
            rw [Lib.add_plain, Nat.zero_add, World.ownsRow.cellAt q j (by omega), List.getElem?_map, List.getElem?_eq_getElem hj]
            rfl)
          rw [LL] at h
          exact h
        rw [hg]
        clear ek own own' hg hl
        go_wp2
        go_ret
        exact ⟨rfl, HB⟩
      · obtain ⟨i, rfl⟩ : ∃ i, gk = i + 1 := ⟨gk - 1, by omega⟩
        obtain ⟨g2, c2, p1, p2, p3, p4⟩ : ∃ g c, Value.slice A a.length ca = .slice (some ⟨g, 0, none⟩) a.length c ∧ a.length ≤ c ∧ g < w.heap.size ∧ ∀ k, k < a.length → w.cell? ⟨g, k, none⟩ = some (.int .i64 ((a.getD k 0 : Nat) : Int)) := by
          rcases F.out with ⟨_, e⟩ | ⟨g, c, e, f1, _, f2, f3⟩
          · subst e; simp at r1
          · exact ⟨g, c, e, f1, f2, f3⟩
        have c := (HB.cell (p := ⟨g2, i, none⟩) p3).trans (p4 i (by omega))
        injection p1 with p1 _ p1'
        subst p1 p1'
        have ek : (((i + 1 : Nat) : Int) - 1) = (i : Int) := by omega
        rw [ek]
        have dd : a.drop i = a.getD i 0 :: a.drop (i + 1) := by rw [List.drop_eq_getElem_cons (by omega)]; simp [List.getD, show i < a.length by omega]
        have HDD := Lib.hid dd
        have d9 := Dg.getD_lt DL.out i
        generalize a.getD i 0 = d at *
        have e1 : IntKind.i64.wrap (48 + (d : Int)) = ((48 + d : Nat) : Int) := by rw [IntKind.wrap_i64]; omega
        have e2 : IntKind.u8.wrap ((48 + d : Nat) : Int) = ((48 + d : Nat) : Int) := by rw [IntKind.wrap_u8]; omega
        obtain ⟨x, hx⟩ : ∃ x : Nat, x = 48 + d := ⟨_, rfl⟩
        rw [← hx] at e1 e2
        have k0 : (0 : Int) ≤ (i : Int) := by omega
        have k1 : (i : Int) < (a.length : Int) := by omega
        have k2 : i < a.length := by omega
        have HX := Lib.hid hx
        obtain ⟨xs, hxs⟩ : ∃ xs : List Value, xs = (a.drop (i + 1)).reverse.map fun d : Nat => Value.int .u8 ((48 + d : Nat) : Int) := ⟨_, rfl⟩
        rw [← hxs] at own
        have HXS := Lib.hid hxs
        clear p4 ek dd d9 hx hxs
        go_wp2_with (at_builtin; refine wpList_append_own _ rfl (.tmp 15) (.tmp 22) _ rfl w.heap.size 5 i0 _ 1 1 Tryd.underlying92 hi0 hz0 hz1 hz2 rfl (by omega) u3 (a.length - (i + 1)) xs rfl (own.alloc _) ⟨wr.heap.size, 0, none⟩ 1 1 [.int .u8 (x : Int)] rfl rfl (cell_one_new _ _ _) (by intro u hu; rw [List.mem_singleton.1 hu]; rfl) (by simp only [maxLen]; omega) (by omega) (by simp; omega) ?_)
        intro v' w' hown hg _
        have OW := Lib.hid hown
        have BB : Below w.heap.size w w' := (HB.alloc base _).grown hg (by simp; omega) (fun k hk => (own.lt k hk).1)
        clear hown hg
        go_wp2
        go_roundg i
        case measure => omega
        case rel =>
          refine ⟨rfl, by omega, ?_, BB⟩
          rw [HDD.out, List.reverse_cons, List.map_append, show a.length - i = a.length - (i + 1) + 1 by omega]
          have q := OW.out
          rw [HX.out, HXS.out] at q
          exact q
theorem Row.alloc' {W : World} {v : Value} {l : List Nat} (h : Row W v l) (o : Obj) : Row (W.alloc o) v l := h.below ((Below.refl _ _).alloc (Nat.le_refl _) o)
end Go.Proofs.YthgondbiddncpaaDoor

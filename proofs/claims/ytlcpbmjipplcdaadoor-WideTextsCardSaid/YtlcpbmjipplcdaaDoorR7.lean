/-
  The document's digits moved up, and powers of two, each as a contract of its call.
-/
import Derived.Test.YtlcpbmjipplcdaaDoorR6
import Derived.Laws.AppendOwnNone
namespace Go.Proofs.YtlcpbmjipplcdaaDoor
open Go.RowKit

section
variable {P : Program} (w : World)
/-- What is appended may be of a named type. -/
theorem append_named (t t' ty e : TypeId) (ht : P.underlying t = some (.slice e)) (ht' : P.underlying t' = some (.slice e)) (b0 : Option Addr) (n0 c0 : Nat) (x : Value) : (Builtin.append_ #[t, t'] ty #[.slice b0 n0 c0, x]).run P w = (Builtin.append_ #[t, t] ty #[.slice b0 n0 c0, x]).run P w := by
  simp [Builtin.append_, run_underlying ht, run_underlying ht']

theorem wpList_append_named {ops : Array Oper} {rest : List Oper} {o : Oper} {a : Act} {Q : Exit → Act → World → Prop} (hgd : o.guard = none) (s x : Operand) (t t' : TypeId)
    (ho : o.op = .call { callee := .builtin .append, args := #[s, x], argTypes := #[t, t'] })
    (base : Nat) (e : TypeId) (i : TypeInfo) (z : Value) (size bytes : Nat) (ht : P.underlying t = some (.slice e)) (ht' : P.underlying t' = some (.slice e)) (hi : P.info? e = some i) (hz : i.zero = some z)
    (hsize : i.size = size) (hby : i.bytes = bytes) (hzs : z.cells.size = size) (hsz : 0 < size)
    (v : Value) (n : Nat) (xs : List Value) (hs : a.eval s = v) (hown : w.ownsRow base e size v n xs)
    (ad : Addr) (m c : Nat) (news : List Value) (hx : a.eval x = .slice (some ad) m c) (hl : news.length = m * size) (hnews : ∀ j u, news[j]? = some u → w.cell? (ad.add j) = some u) (h1 : ∀ u ∈ news, u.oneCell' = true)
    (h63 : n + m ≤ maxLen) (hbytes : (n + m) * bytes ≤ 140737488355328) (hbase : base ≤ w.heap.size)
    (h : ∀ v' w', w'.ownsRow base e size v' (n + m) (xs ++ news) → w.grownBy w' v.ownBlock → wpList P ops Q rest (a.put o.dst v') w') : wpList P ops Q (o :: rest) a w := by
  refine wpList_plain hgd fun K hK => ?_
  obtain ⟨v', w', hrun, h2, h3, _⟩ := run_append_own (P := P) w base t o.type e i z size bytes ht hi hz hsize hby hzs hsz v n xs hown ad m c news hl hnews h1 h63 hbytes hbase
  obtain ⟨b0, n0, c0, rfl⟩ : ∃ b0 n0 c0, v = .slice b0 n0 c0 := by
    rcases hown.2 with ⟨e, _⟩ | ⟨g, cap, cur, e, _⟩
    · exact ⟨_, _, _, e⟩
    · exact ⟨_, _, _, e⟩
  unfold Oper.wp execOp
  simp only [ho, resolve, invoke, builtin, Sem.run_bind, Sem.run_pure, Result.andThen_ok, List.map_toArray, List.map_cons, List.map_nil, hs, hx, append_named w t t' o.type e ht ht', hrun]
  exact hK _ _ (h v' w' h2 h3)

theorem wpList_append_named_none {ops : Array Oper} {rest : List Oper} {o : Oper} {a : Act} {Q : Exit → Act → World → Prop} (hgd : o.guard = none) (s x : Operand) (t t' : TypeId)
    (ho : o.op = .call { callee := .builtin .append, args := #[s, x], argTypes := #[t, t'] })
    (base : Nat) (e : TypeId) (i : TypeInfo) (size : Nat) (ht : P.underlying t = some (.slice e)) (ht' : P.underlying t' = some (.slice e)) (hi : P.info? e = some i)
    (v : Value) (n : Nat) (xs : List Value) (hs : a.eval s = v) (hown : w.ownsRow base e size v n xs) (hx : a.eval x = .slice none 0 0)
    (h : wpList P ops Q rest (a.put o.dst v) w) : wpList P ops Q (o :: rest) a w := by
  refine wpList_plain hgd fun K hK => ?_
  have hrun := run_append_owned_none (P := P) (w := w) base t o.type e i size ht hi v n xs hown
  obtain ⟨b0, n0, c0, rfl⟩ : ∃ b0 n0 c0, v = .slice b0 n0 c0 := by
    rcases hown.2 with ⟨e, _⟩ | ⟨g, cap, cur, e, _⟩
    · exact ⟨_, _, _, e⟩
    · exact ⟨_, _, _, e⟩
  unfold Oper.wp
  simp [execOp, ho, resolve, invoke, builtin, hs, hx, append_named w t t' o.type e ht ht', hrun, Result.andThen]
  exact hK _ _ h
end

set_option maxRecDepth 100000 in
set_option maxHeartbeats 2000000 in
/-- Ten times as much. -/
theorem shift1_any (v : Value) (m : Nat) (la : (Dg.dg m).length ≤ 20000) (w : World) (h : Row w v (Dg.dg m)) : Calls Tryd.prog 21 #[v, .int .i64 1] w (RetRow (Dg.dg (10 * m)) w) := by
  obtain ⟨i0, hi0, hz0, hz1, hz2⟩ := info_parts int_info
  have tr : trim (0 :: Dg.dg m) = Dg.dg (10 * m) := by unfold trim; rw [Dg.val, Dg.val_dg, Nat.zero_add]
  have dl : ∀ d ∈ 0 :: Dg.dg m, d < 10 := by
    intro d hd
    rcases List.mem_cons.1 hd with rfl | hd
    · omega
    · exact Dg.dg_lt m d hd
  have tr0 : trim [0] = Dg.dg (10 * m) ∨ Dg.dg m ≠ [] := by
    by_cases e : Dg.dg m = []
    · left; rw [e] at tr; exact tr
    · exact .inr e
  rw [← tr]
  have HDL := Lib.hid dl
  have F := h.form
  clear tr dl tr0
  generalize Dg.dg m = a at *
  clear m
  rcases F with ⟨rfl, rfl⟩ | ⟨g, cap, rfl, h1, h2, h3, h4⟩
  · clear h
    go_enter Tryd.func21, Tryd.ntmps21
    go_wp2
    refine wp_loop_rounds 2 ?_
    rw [rounds_succ]
    go_wp2_with (at_builtin; refine wpList_append_own _ rfl (.tmp 12) (.tmp 13) _ rfl w.heap.size 3 i0 _ 1 8 Tryd.underlying29 hi0 hz0 hz1 hz2 rfl (by omega) (.slice none 0 0) 0 [] rfl ⟨by simp, .inl ⟨rfl, rfl⟩⟩ ⟨w.heap.size, 0, none⟩ 1 1 [.int .i64 0] rfl rfl (cell_one_new _ _ _) (by intro u hu; rw [List.mem_singleton.1 hu]; rfl) (by simp only [maxLen]; omega) (by omega) (by simp) ?_)
    intro v' w' hown hg _
    have BB : Below w.heap.size w w' := ((Below.refl _ _).alloc (Nat.le_refl _) _).grown hg (by simp) (by simp [Value.ownBlock])
    have R : Row w' v' [0] := row_of hown
    have HR := Lib.hid R
    have OW := Lib.hid hown
    clear hown hg R
    go_wp2
    rw [rounds_succ]
    go_wp2_with (at_builtin; refine wpList_append_named_none _ rfl (.tmp 15) (.tmp 16) _ _ rfl w.heap.size 3 i0 1 Tryd.underlying29 Tryd.underlying30 hi0 v' 1 [.int .i64 0] rfl OW.out rfl ?_)
    go_wp2_with fail
    refine (trim_any _ [0] (by simp) HDL.out _ HR.out).mono ?_
    rintro e w3 ⟨v3, rfl, R3, hb3⟩
    have HR3 := Lib.hid R3
    clear R3
    go_wp2
    go_ret
    exact ⟨v3, rfl, HR3.out, bstep BB hb3⟩
  · have h2' : cap ≤ 9223372036854775807 := h2
    have H4 := Lib.hid h4
    clear h2 h4 h
    go_enter Tryd.func21, Tryd.ntmps21
    go_wp2
    refine wp_loop_rounds 2 ?_
    rw [rounds_succ]
    go_wp2_with (at_builtin; refine wpList_append_own _ rfl (.tmp 12) (.tmp 13) _ rfl w.heap.size 3 i0 _ 1 8 Tryd.underlying29 hi0 hz0 hz1 hz2 rfl (by omega) (.slice none 0 0) 0 [] rfl ⟨by simp, .inl ⟨rfl, rfl⟩⟩ ⟨w.heap.size, 0, none⟩ 1 1 [.int .i64 0] rfl rfl (cell_one_new _ _ _) (by intro u hu; rw [List.mem_singleton.1 hu]; rfl) (by simp only [maxLen]; omega) (by omega) (by simp) ?_)
    intro v' w' hown hg _
    have BB : Below w.heap.size w w' := ((Below.refl _ _).alloc (Nat.le_refl _) _).grown hg (by simp) (by simp [Value.ownBlock])
    have bs := BB.size
    have nw := Lib.hid (cells_take (w := w') (g := g) (l := a) (fun k hk => (BB.cell (p := ⟨g, k, none⟩) h3).trans (H4.out k hk)) (Nat.le_refl _))
    have OW := Lib.hid hown
    clear hg
    go_wp2
    rw [rounds_succ]
    go_wp2_with (at_builtin; refine wpList_append_named _ rfl (.tmp 15) (.tmp 16) _ _ rfl w.heap.size 3 i0 _ 1 8 Tryd.underlying29 Tryd.underlying30 hi0 hz0 hz1 hz2 rfl (by omega) v' 1 [.int .i64 0] rfl OW.out ⟨g, 0, none⟩ a.length cap (a.map fun d : Nat => Value.int .i64 (d : Int)) rfl (by simp) (by have := nw.out; rw [List.take_length] at this; exact this) (by intro u hu; obtain ⟨y, _, rfl⟩ := List.mem_map.1 hu; rfl) (by simp only [maxLen]; omega) (by omega) bs ?_)
    intro v2 w2 hown2 hg2
    have B2 : Below w.heap.size w w2 := BB.grown hg2 bs (fun k hk => (hown.lt k hk).1)
    have R : Row w2 v2 (0 :: a) := by
      refine row_of (b := w.heap.size) ?_
      rw [List.length_cons, Nat.add_comm, List.map_cons]
      exact hown2
    have HR := Lib.hid R
    clear hown hown2 hg2 R OW nw
    go_wp2_with fail
    refine (trim_any _ (0 :: a) (by simp; omega) HDL.out _ HR.out).mono ?_
    rintro e w3 ⟨v3, rfl, R3, hb3⟩
    have HR3 := Lib.hid R3
    clear R3
    go_wp2
    go_ret
    exact ⟨v3, rfl, HR3.out, bstep B2 hb3⟩
end Go.Proofs.YtlcpbmjipplcdaaDoor

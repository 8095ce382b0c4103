/-
  The document's digits as slices of the program: reading one, and leaving out the noughts above, each as a contract of its call.
-/
import Derived.Test.YtlcpbmjipplcdaaDoorB
import Derived.Test.YtlcpbmjipplcdaaDoorR0
import Derived.Deep.LoopGhost
import Derived.Maps.AppendAt
import Derived.Deep.AppendLies
namespace Go.Proofs.YtlcpbmjipplcdaaDoor
open Go.RowKit

/-- The slice v, made by the program itself, holds the digits l. -/
def Row (W : World) (v : Value) (l : List Nat) : Prop := W.ownsRow 0 3 1 v l.length (l.map fun d : Nat => Value.int .i64 (d : Int))

theorem Row.nil {W : World} : Row W (.slice none 0 0) [] := ⟨rfl, .inl ⟨rfl, rfl⟩⟩
theorem Row.form {W : World} {v : Value} {l : List Nat} (h : Row W v l) : (v = .slice none 0 0 ∧ l = []) ∨
    ∃ g cap, v = .slice (some ⟨g, 0, none⟩) l.length cap ∧ l.length ≤ cap ∧ cap ≤ maxLen ∧ g < W.heap.size ∧ ∀ k, k < l.length → W.cell? ⟨g, k, none⟩ = some (.int .i64 ((l.getD k 0 : Nat) : Int)) := by
  rcases h.2 with ⟨rfl, h0⟩ | ⟨g, cap, cur, rfl, hb, hh, h1, h2, h3, h4⟩
  · exact .inl ⟨rfl, List.eq_nil_of_length_eq_zero h0⟩
  · refine .inr ⟨g, cap, rfl, h1, h2, ?_, fun k hk => ?_⟩
    · rcases Nat.lt_or_ge g W.heap.size with x | x
      · exact x
      · rw [Array.getElem?_eq_none x] at hh; cases hh
    · have := World.ownsRow.cellAt h k (by omega)
      rw [this]
      simp [List.getD, hk]
theorem Row.below {W w1 : World} {v : Value} {l : List Nat} (h : Row W v l) (hb : Below W.heap.size W w1) : Row w1 v l := by
  refine ⟨h.1, ?_⟩
  rcases h.2 with h0 | ⟨g, cap, cur, rfl, hb0, hh, h1, h2, h3, h4⟩
  · exact .inl h0
  · refine .inr ⟨g, cap, cur, rfl, hb0, ?_, h1, h2, h3, h4⟩
    have : g < W.heap.size := by
      rcases Nat.lt_or_ge g W.heap.size with x | x
      · exact x
      · rw [Array.getElem?_eq_none x] at hh; cases hh
    exact (hb.block g this).trans hh

set_option maxHeartbeats 400000 in
theorem at_any (v : Value) (l : List Nat) (k : Nat) (hk : k ≤ 1000000) (hl : l.length ≤ 1000000) (w : World) (h : Row w v l) :
    Calls Tryd.prog 81 #[v, .int .i64 (k : Int)] w fun e w' => e = .returned (.int .i64 ((l.getD k 0 : Nat) : Int)) ∧ w = w' := by
  rcases h.form with ⟨rfl, rfl⟩ | ⟨g, cap, rfl, h1, h2, h3, h4⟩
  · go_enter Tryd.func81, Tryd.ntmps81
    go_wp2
    go_ret
    exact ⟨rfl, rfl⟩
  · rcases Nat.lt_or_ge k l.length with x | x
    · have c := h4 k x
      generalize l.getD k 0 = d at *
      clear h4 h
      go_enter Tryd.func81, Tryd.ntmps81
      go_wp2
      go_ret
      exact ⟨rfl, rfl⟩
    · rw [show l.getD k 0 = 0 from by simp [List.getD, x]]
      clear h4 h
      go_enter Tryd.func81, Tryd.ntmps81
      go_wp2
      go_ret
      exact ⟨rfl, rfl⟩

theorem int_info : (Tryd.prog.info? 3).map (fun i => (i.zero, i.size, i.bytes)) = some (some (.int .i64 0), 1, 8) := by kernel_rfl

/-- Where the search for the highest digit that is not 0 stands. -/
def TrimRel (w : World) (l : List Nat) (k : Nat) (n : Value) (W : World) : Prop := w = W ∧ n = .int .i64 (k : Int) ∧ k ≤ l.length ∧ ∀ j, k ≤ j → l.getD j 0 = 0
def RetRow (l : List Nat) (w : World) (e : Ending) (w' : World) : Prop := ∃ v, e = .returned v ∧ Row w' v l ∧ Below w.heap.size w w'

/-- The digits without the noughts above. -/
def trim (l : List Nat) : List Nat := Dg.dg (Dg.val l)

theorem trim_of {l : List Nat} (h : ∀ d ∈ l, d < 10) {k : Nat} (hk : k ≤ l.length) (h0 : ∀ j, k ≤ j → l.getD j 0 = 0) (h1 : k = 0 ∨ l.getD (k - 1) 0 ≠ 0) : l.take k = trim l := by
  have e : Dg.val l = Dg.val (l.take k) := by
    conv => lhs; rw [← List.take_append_drop k l]
    rw [Dg.val_append, Dg.val_zeros (l.drop k), Nat.mul_zero, Nat.add_zero]
    intro d hd
    obtain ⟨j, hj, rfl⟩ := List.getElem_of_mem hd
    rw [List.getElem_drop]
    have := h0 (k + j) (by omega)
    simpa [List.getD, List.getElem?_eq_getElem (show k + j < l.length by simp at hj; omega)] using this
  unfold trim
  rw [e]
  apply Dg.canon
  · exact fun d hd => h d (List.mem_of_mem_take hd)
  · rcases h1 with rfl | h1
    · simp
    · rcases Nat.eq_zero_or_pos k with z | z
      · subst z; simp
      · rw [List.getLast?_take]
        simp [List.getD] at h1
        have : l[k - 1]? = some l[k - 1] := List.getElem?_eq_getElem (by omega)
        rw [if_neg (by omega), this]
        rw [this] at h1
        simpa using h1

theorem cells_take {w : World} {g : Nat} {l : List Nat} (h : ∀ k, k < l.length → w.cell? ⟨g, k, none⟩ = some (.int .i64 ((l.getD k 0 : Nat) : Int))) {n : Nat} (hn : n ≤ l.length) :
    ∀ j u, ((l.take n).map fun d : Nat => Value.int .i64 (d : Int))[j]? = some u → w.cell? ((⟨g, 0, none⟩ : Addr).add j) = some u := by
  intro j u hu
  have hj : j < n := by
    rcases Nat.lt_or_ge j n with x | x
    · exact x
    · rw [List.getElem?_eq_none (by simp; omega)] at hu; cases hu
  have e : (⟨g, 0, none⟩ : Addr).add j = ⟨g, j, none⟩ := by
    unfold Addr.add
    split
    · rename_i z; subst z; rfl
    · simp
  rw [e, h j (by omega)]
  rw [List.getElem?_map, List.getElem?_take_of_lt hj, List.getElem?_eq_getElem (by omega)] at hu
  simp [List.getD, List.getElem?_eq_getElem (show j < l.length by omega)] at hu ⊢
  exact hu

set_option maxHeartbeats 800000 in
theorem trim_any (v : Value) (l : List Nat) (hl : l.length ≤ 100000) (hd : ∀ d ∈ l, d < 10) (w : World) (h : Row w v l) :
    Calls Tryd.prog 57 #[v] w (RetRow (trim l) w) := by
  obtain ⟨i0, hi0, hz0, hz1, hz2⟩ := info_parts int_info
  rcases h.form with ⟨rfl, rfl⟩ | ⟨g, cap, rfl, h1, h2, h3, h4⟩
  · clear h
    go_enter Tryd.func57, Tryd.ntmps57
    go_wp2
    refine wp_loop_rounds 1 ?_
    rw [rounds_succ]
    go_wp2
    go_ret
    refine ⟨_, rfl, ?_, Below.refl _ _⟩
    rw [show trim [] = [] from by unfold trim; exact Dg.dg_zero]
    exact Row.nil
  · have h2' : cap ≤ 9223372036854775807 := h2
    clear h2
    have H4 := Lib.hid h4
    have H := Lib.hid h
    have HD := Lib.hid hd
    clear h4 h hd
    go_enter Tryd.func57, Tryd.ntmps57
    go_wp2
    go_loopg [3] l.length (fun k n W => TrimRel w l k n W)
    case atStart => exact ⟨rfl, rfl, Nat.le_refl _, fun j hj => by simp [List.getD, hj]⟩
    case round =>
      obtain ⟨rfl, rfl, r1, r2⟩ := hrel
      have R2 := Lib.hid r2
      clear r2
      rcases Nat.eq_zero_or_pos gk with z | z
      · subst z
        have T := Lib.hid (trim_of HD.out r1 R2.out (.inl rfl))
        go_wp2
        go_ret
        refine ⟨_, rfl, ?_, Below.refl _ _⟩
        rw [← T.out]
        exact Row.nil
      · obtain ⟨k, rfl⟩ : ∃ k, gk = k + 1 := ⟨gk - 1, by omega⟩
        have c := H4.out k (by omega)
        have ek : ((k : Int) + 1 - 1) = k := by omega
        by_cases e : l.getD k 0 = 0
        · rw [e] at c
          have E := Lib.hid e
          clear e
          go_wp2
          go_roundg k
          case measure => omega
          case rel => exact ⟨rfl, by go_num, by omega, fun j hj => (Nat.eq_or_lt_of_le hj).elim (fun x => x ▸ E.out) (fun x => R2.out j x)⟩
        · have T := Lib.hid (trim_of HD.out r1 R2.out (.inr (by simpa using e)))
          have nw := Lib.hid (cells_take H4.out r1)
          generalize l.getD k 0 = d at *
          have ne : ((d : Int) == 0) = false := by simp; omega
          clear e
          go_wp2_with (at_builtin; refine wpList_append_own _ rfl (.tmp 19) (.tmp 22) _ rfl 0 3 i0 _ 1 8 Tryd.underlying29 hi0 hz0 hz1 hz2 rfl (by omega) (.slice none 0 0) 0 [] rfl ⟨by simp, .inl ⟨rfl, rfl⟩⟩ ⟨g, 0, none⟩ (k + 1) cap ((l.take (k + 1)).map fun d : Nat => Value.int .i64 (d : Int)) rfl ?_ ?_ ?_ ?_ ?_ (Nat.zero_le _) ?_)
          · simp; omega
          · exact nw.out
          · intro u hu
            obtain ⟨x, _, rfl⟩ := List.mem_map.1 hu
            rfl
          · simp only [maxLen]; omega
          · omega
          · intro v' w' hown hg _
            go_wp2
            go_ret
            refine ⟨v', rfl, ?_, (Below.refl _ _).grown hg (Nat.le_refl _) (by simp [Value.ownBlock])⟩
            rw [← T.out]
            unfold Row
            rw [List.length_take, Nat.min_eq_left r1, List.map_take]
            exact hown
end Go.Proofs.YtlcpbmjipplcdaaDoor

/-
  The document's answer of layer 15: a text's runes (Runes), as a contract of its call.
-/
import Derived.Test.YtfelcneedpndiaaDoorIb
import Derived.Laws.RangeAny
import Derived.Lib.OthersKept
import Derived.Lib.TrimUEq
namespace Go.Proofs.YtfelcneedpndiaaDoor
open Go.RowKit Go.Lib

theorem bytesI (s : ByteArray) : (⟨s.data.toList.toArray⟩ : ByteArray) = s := by cases s; simp
theorem rn_at (s : ByteArray) (pos : Nat) (h : pos < s.size) : rn (s.data.toList.drop pos) = (Utf8.decode s pos).1 :: rn (s.data.toList.drop (pos + (Utf8.decode s pos).2)) := by
  have hl : s.data.toList.length = s.size := Array.length_toList
  rw [rn_step _ (by intro e; have := congrArg List.length e; rw [List.length_drop, hl, List.length_nil] at this; omega), decodeL_drop, List.drop_drop]
theorem rn_end (s : ByteArray) (pos : Nat) (h : ¬ pos < s.size) : rn (s.data.toList.drop pos) = [] := by
  have hl : s.data.toList.length = s.size := Array.length_toList
  rw [List.drop_eq_nil_of_le (by omega)]
  rfl
/-- The runes of a string. -/
def rnS (s : ByteArray) : List Nat := rn s.data.toList
theorem rnS_le (s : ByteArray) : (rnS s).length ≤ s.size := by
  have := rn_len s.data.toList
  have hl : s.data.toList.length = s.size := Array.length_toList
  unfold rnS
  omega
theorem rn_ofList (l : List UInt8) : rnS ⟨l.toArray⟩ = rn l := by unfold rnS; simp
theorem own_iterI {w : World} {B e size n : Nat} {v : Value} {xs : List Value} {k : Nat} {s : ByteArray} {pos : Nat} (h : w.ownsRow B e size v n xs) (hk : w.heap[k]? = some (.stringIter s pos)) (pos' : Nat) : (w.iterAt k s pos').ownsRow B e size v n xs := by
  refine ⟨h.1, ?_⟩
  rcases h.2 with h0 | ⟨g, cap, cur, rfl, hb, hg, h1, h2, h3, h4⟩
  · exact .inl h0
  · refine .inr ⟨g, cap, cur, rfl, hb, ?_, h1, h2, h3, h4⟩
    rw [Lib.iterAt_other _ _ _ _ _ (fun e => by subst e; rw [hk] at hg; cases hg)]
    exact hg
theorem own_neI {w : World} {B e size n : Nat} {v : Value} {xs : List Value} {k : Nat} {s : ByteArray} {pos : Nat} (h : w.ownsRow B e size v n xs) (hk : w.heap[k]? = some (.stringIter s pos)) : some k ≠ v.ownBlock := by
  rcases h.2 with ⟨rfl, _⟩ | ⟨g, cap, cur, rfl, hb, hg, _⟩
  · simp [Value.ownBlock]
  · intro e
    have : k = g := by simpa [Value.ownBlock] using e
    subst this
    rw [hk] at hg
    cases hg
set_option linter.unusedVariables false in
set_option linter.unusedSimpArgs false in
set_option maxRecDepth 100000 in
set_option maxHeartbeats 2000000 in
/-- Runes: any string (of up to 2^44 bytes: what it makes takes four times as many). -/
theorem runes_any (s : ByteArray) (w : World) (hs : s.size ≤ 17592186044416) :
    Calls Tryd.prog 19 #[.string s] w (RetN (rnS s) w) := by
  obtain ⟨i0, hi0, hz0, hz1, hz2⟩ := info_parts rune_info
  go_enter Tryd.func19, Tryd.ntmps19
  go_wp2
  go_loopw [3] (fun o wr => ∃ (pos : Nat) (L : List Nat), wr.heap[w.heap.size]? = some (.stringIter s pos) ∧ Hid (RowN (w.heap.size + 1) wr o L) ∧ Below w.heap.size w wr ∧ Hid (L ++ rn (s.data.toList.drop pos) = rnS s)) (fun o wr => s.size - wr.iterPos (w.heap.size))
  case atStart =>
    refine ⟨0, [], ?_, Lib.hid RowN.nil, (Below.refl _ _).alloc (Nat.le_refl _) _, Lib.hid rfl⟩
    have := World.iter_heap w s 0
    simpa using this
  case round =>
    obtain ⟨pos, L, hit, hown, hbw, hL⟩ := hrel
    have hsz : w.heap.size < wr.heap.size := (Array.getElem?_eq_some_iff.1 hit).1
    by_cases hp : pos < s.size
    · have hnx : ∀ ty, (Instr.next (.pointer (some ⟨w.heap.size, 0, none⟩)) true ty).run Tryd.prog wr = _ := fun ty => Lib.run_next_any_at wr (w.heap.size) s pos ty hit hp
      have hwd := Lib.width_pos s pos
      have hd1 := decode_le s pos
      have hit2 := Lib.iterAt_heap wr (w.heap.size) s pos (pos + (Utf8.decode s pos).2) hit
      have hbw2 := Lib.below_iterAt hbw (k := w.heap.size) (by omega) s (pos + (Utf8.decode s pos).2)
      have hown2 := Lib.hid (own_iterI hown.out hit (pos + (Utf8.decode s pos).2))
      have ST := Lib.hid (rn_at s pos hp)
      have LE : L.length + 1 ≤ s.size := by
        have e := congrArg List.length hL.out
        have := rnS_le s
        rw [ST.out, List.length_append, List.length_cons] at e
        omega
      generalize (Utf8.decode s pos).1 = r at *
      generalize (Utf8.decode s pos).2 = d at *
      have hs2 : (wr.iterAt w.heap.size s (pos + d)).heap.size = wr.heap.size := by simp [World.iterAt]
      go_wp2_with (at_builtin; refine wpList_append_own _ rfl (.tmp 11) (.tmp 13) _ rfl (w.heap.size + 1) 21 i0 _ 1 4 Tryd.underlying46 hi0 hz0 hz1 hz2 rfl (by omega) u3 L.length (L.map rc) rfl (hown2.out.alloc _) ⟨wr.heap.size, 0, none⟩ 1 1 [.int .i32 (r : Int)] rfl rfl ?_ (by intro u hu; rw [List.mem_singleton.1 hu]; rfl) (by simp only [maxLen]; omega) (by omega) (by simp; omega) ?_)
      · rw [← hs2]
        exact cell_one_new _ _ _
      · intro v' w' hown3 hg _
        have IT : w'.heap[w.heap.size]? = some (.stringIter s (pos + d)) := (hg.block w.heap.size (by simp [hs2]; omega) (own_neI hown2.out hit2)).trans ((heap_alloc_old _ _ (by rw [hs2]; exact hsz)).trans hit2)
        have BB : Below w.heap.size w w' := (hbw2.alloc (by rw [hs2]; omega) _).grown hg (by simp [hs2]; omega) (fun k hk => Nat.le_of_succ_le (hown2.out.lt k hk).1)
        have OW : RowN (w.heap.size + 1) w' v' (L ++ [r]) := by
          unfold RowN
          rw [List.length_append, List.map_append]
          exact hown3
        have OW' := Lib.hid OW
        clear hown3 hg OW
        go_wp2
        refine ⟨⟨pos + d, L ++ [r], IT, OW', BB, Lib.hid ?_⟩, ?_⟩
        · rw [List.append_assoc, List.singleton_append, ← ST.out]
          exact hL.out
        · simp only [World.iterPos, IT, hit]
          omega
    · have hnx : ∀ ty, (Instr.next (.pointer (some ⟨w.heap.size, 0, none⟩)) true ty).run Tryd.prog wr = _ := fun ty => Lib.run_next_end_at wr (w.heap.size) s pos ty hit hp
      have E := Lib.hid (rn_end s pos hp)
      go_wp2
      go_ret
      refine ⟨_, rfl, ?_, hbw⟩
      have e := hL.out
      rw [E.out, List.append_nil] at e
      rw [← e]
      exact hown.out.down (Nat.le_succ _)
end Go.Proofs.YtfelcneedpndiaaDoor

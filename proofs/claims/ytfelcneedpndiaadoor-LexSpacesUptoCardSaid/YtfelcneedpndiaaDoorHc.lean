/-
  The program's lead (layer 16): of how many bytes a text's beginning is that is of runes that are so, as a contract of its call.
-/
import Derived.Test.YtfelcneedpndiaaDoorHa
import Derived.Laws.RangeAny
import Derived.Lib.OthersKept
import Derived.Lib.TrimUEq
namespace Go.Proofs.YtfelcneedpndiaaDoor
open Go.RowKit Go.Lib

theorem Vrs.suf {R S : List Nat} (hV : Vrs S) (h : R <:+ S) : Vrs R := fun r hr => hV r (h.subset hr)
theorem drop_behind {R S : List Nat} (h : R <:+ S) : (enc S).drop (bz S - bz R) = enc R := by
  obtain ⟨P, rfl⟩ := h
  rw [bz_append, enc_append, show bz P + bz R - bz R = (enc P).length from by unfold bz; omega, List.drop_left]
theorem dec_at {S t : List Nat} {c : Nat} (hV : Vrs S) (h : (c :: t) <:+ S) : Utf8.decode (tx S) (bz S - bz (c :: t)) = (c, bz (c :: t) - bz t) := by
  have e := decodeL_drop (tx S) (bz S - bz (c :: t))
  rw [tx_list, drop_behind h, enc_cons, decode_enc c (hV c (h.subset (List.mem_cons_self ..)))] at e
  rw [← e]
  unfold bz
  rw [enc_cons, List.length_append]
  congr 1
  omega
set_option linter.unusedVariables false in
set_option linter.unusedSimpArgs false in
set_option maxRecDepth 100000 in
set_option maxHeartbeats 4000000 in
theorem lead_any (S : List Nat) (hV : Vrs S) (hz : bz S ≤ 17592186044416) (g : FuncId) (p : Nat → Bool) (hge : ∀ args W, (callFunc g args).run Tryd.prog W = .ok (.enter g args) W) (hg : ∀ r, r ≤ 1114111 → ∀ W, Calls Tryd.prog g #[.int .i32 ((r : Nat) : Int)] W (Ret (.bool (p r)) W)) (w : World) :
    Calls Tryd.prog 23 #[.string (tx S), .func (.func g) #[] #[]] w (Ret (.int .i64 ((bz S - bz (S.dropWhile p) : Nat) : Int)) w) := by
  have HG := Lib.hid hg
  have HV := Lib.hid hV
  have ZS := tx_size S
  have DC := Lib.hid (fun (c : Nat) (t : List Nat) (h : (c :: t) <:+ S) => dec_at hV h)
  clear hg hV
  generalize tx S = s at *
  go_enter Tryd.func23, Tryd.ntmps23
  go_wp2
  go_loopw [] (fun wr => ∃ (pos : Nat) (Q : List Nat), Hid (Q <:+ S ∧ S.dropWhile p = Q.dropWhile p ∧ pos = bz S - bz Q) ∧ wr.heap[w.heap.size]? = some (.stringIter s pos) ∧ Below w.heap.size w wr) (fun wr => s.size - wr.iterPos (w.heap.size))
  case atStart =>
    refine ⟨0, S, Lib.hid ⟨List.suffix_refl _, rfl, by omega⟩, ?_, (Below.refl _ _).alloc (Nat.le_refl _) _⟩
    have := World.iter_heap w s 0
    simpa using this
  case round =>
    obtain ⟨pos, Q, hQ, hit, hbw⟩ := hrel
    have hsz : w.heap.size < wr.heap.size := (Array.getElem?_eq_some_iff.1 hit).1
    rcases Q with _ | ⟨c, t⟩
    · obtain ⟨q1, q2, q3⟩ := hQ.out
      have hp : ¬ pos < s.size := by rw [ZS, q3, bz_nil]; omega
      have hnx : ∀ ty, (Instr.next (.pointer (some ⟨w.heap.size, 0, none⟩)) true ty).run Tryd.prog wr = _ := fun ty => Lib.run_next_end_at wr (w.heap.size) s pos ty hit hp
      have RS := Lib.hid (show bz S - bz (S.dropWhile p) = bz S from by rw [q2, List.dropWhile_nil, bz_nil, Nat.sub_zero])
      clear q1 q2 q3 hQ
      go_wp2
      go_ret
      rw [RS.out]
      exact ⟨rfl, hbw⟩
    · obtain ⟨q1, q2, q3⟩ := hQ.out
      have bl := bz_le q1
      have bt := bz_lt (List.suffix_cons c t) (by simp)
      have hp : pos < s.size := by rw [ZS]; omega
      have DE := DC.out c t q1
      rw [← q3] at DE
      have hnx : ∀ ty, (Instr.next (.pointer (some ⟨w.heap.size, 0, none⟩)) true ty).run Tryd.prog wr = _ := fun ty => Lib.run_next_any_at wr (w.heap.size) s pos ty hit hp
      have hit2 := Lib.iterAt_heap wr (w.heap.size) s pos (pos + (Utf8.decode s pos).2) hit
      have hbw2 := Lib.below_iterAt hbw (k := w.heap.size) (by omega) s (pos + (Utf8.decode s pos).2)
      rw [DE] at hit2 hbw2
      dsimp only at hit2 hbw2
      simp only [DE] at hnx
      have RV : c ≤ 1114111 := by
        have q : Vr c := HV.out c (q1.subset (List.mem_cons_self ..))
        unfold Vr at q
        omega
      have CF := HG.out c RV
      have NQ : t <:+ S := (List.suffix_cons c t).trans q1
      by_cases hc : p c = true
      · rw [hc] at CF
        have CF' := Lib.hid CF
        have NX := Lib.hid (show t <:+ S ∧ S.dropWhile p = t.dropWhile p ∧ pos + (bz (c :: t) - bz t) = bz S - bz t from ⟨NQ, by rw [q2, List.dropWhile_cons, if_pos hc], by omega⟩)
        have d0 : 0 < bz (c :: t) - bz t := by omega
        have d1 : pos + (bz (c :: t) - bz t) ≤ s.size := by rw [ZS]; omega
        clear q1 q2 q3 hQ DE CF hc bl bt NQ
        generalize bz (c :: t) - bz t = d at *
        go_wp2_with fail
        (with_reducible refine (CF'.out _).mono ?_)
        rintro e w1 ⟨rfl, b1⟩
        go_wp2
        go_roundw
        case rel => exact ⟨pos + d, t, NX, (b1.block _ (by rw [Lib.iterAt_size]; exact hsz)).trans hit2, bstep hbw2 b1⟩
        case measure =>
          have := (b1.block _ (by rw [Lib.iterAt_size]; exact hsz)).trans hit2
          simp only [World.iterPos, this, hit]
          omega
      · rw [Bool.not_eq_true] at hc
        rw [hc] at CF
        have CF' := Lib.hid CF
        have RS := Lib.hid (show bz S - bz (S.dropWhile p) = pos from by rw [q2, List.dropWhile_cons, if_neg (by rw [hc]; exact Bool.false_ne_true)]; omega)
        have p1 : (pos : Int) ≤ 9223372036854775807 := by omega
        clear q1 q2 q3 hQ DE CF hc bl bt NQ
        generalize bz (c :: t) - bz t = d at *
        go_wp2_with fail
        (with_reducible refine (CF'.out _).mono ?_)
        rintro e w1 ⟨rfl, b1⟩
        go_wp2
        go_ret
        rw [RS.out]
        exact ⟨rfl, bstep hbw2 b1⟩
end Go.Proofs.YtfelcneedpndiaaDoor

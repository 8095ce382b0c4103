/-
  The document's answer of layer 16: quoted, as a contract of its call.
-/
import Derived.Test.YtfelcneedpndiaaGreatDoorIi
namespace Go.Proofs.YtfelcneedpndiaaGreatDoor
open Go.RowKit Go.Lib

theorem hexV_pos {r d : Nat} (h : hexV r = some d) : r ≠ 0 := by
  rintro rfl
  simp [hexV, digR] at h
theorem codeGo_len : ∀ (n c : Nat) (S : List Nat) (x : Nat), codeGo n c S = some x → n ≤ S.length
  | 0, _, _, _, _ => Nat.zero_le _
  | n + 1, c, S, x, h => by
    rw [codeGo_step] at h
    cases hv : hexV (hd S) with
    | none => rw [hv] at h; cases h
    | some d =>
      rw [hv] at h
      have ih := codeGo_len n _ _ x h
      have ne : S ≠ [] := by
        rintro rfl
        exact hexV_pos hv rfl
      have := List.length_pos_iff.2 ne
      rw [List.length_drop] at ih
      omega
theorem codeS_len {n : Nat} {S : List Nat} {x : Nat} (h : codeS n S = some x) : n ≤ S.length := by
  unfold codeS at h
  cases hc : codeGo n 0 S with
  | none => rw [hc] at h; cases h
  | some c => exact codeGo_len n 0 S c hc
theorem hd_pos {S : List Nat} (h : hd S ≠ 0) : 1 ≤ S.length := by
  rcases S with _ | ⟨a, t⟩
  · exact absurd rfl h
  · simp
theorem escS_len {S : List Nat} {r m : Nat} (h : escS S = some (r, m)) : m ≤ S.length := by
  unfold escS at h
  split at h
  · next c => injection h with h; injection h with h1 h2; have := hd_pos (S := S) (by omega); omega
  split at h
  · next c => injection h with h; injection h with h1 h2; have := hd_pos (S := S) (by omega); omega
  split at h
  · next c => injection h with h; injection h with h1 h2; have := hd_pos (S := S) (by omega); omega
  split at h
  · next c => injection h with h; injection h with h1 h2; have := hd_pos (S := S) (by omega); omega
  split at h
  · next c =>
    cases hc : codeS 4 (S.drop 1) with
    | none => rw [hc] at h; cases h
    | some x =>
      rw [hc] at h
      injection h with h; injection h with h1 h2
      have a := codeS_len hc
      rw [List.length_drop] at a
      omega
  split at h
  · next c =>
    cases hc : codeS 6 (S.drop 1) with
    | none => rw [hc] at h; cases h
    | some x =>
      rw [hc] at h
      injection h with h; injection h with h1 h2
      have a := codeS_len hc
      rw [List.length_drop] at a
      omega
  · cases h
/-- What quoted answers. -/
def RetQ (L : List Nat) (q : Option (List Nat × List Nat)) (k : Nat) (w : World) (e : Ending) (w' : World) : Prop :=
  ∃ (s : ByteArray) (j : Nat) (ok : Bool), e = .returned (.tuple #[.string s, .int .i64 (j : Int), .bool ok]) ∧ Below w.heap.size w w' ∧ s.size ≤ 140737488355328 ∧
    (match q with | none => ok = false ∧ s = ⟨#[]⟩ ∧ j = 0 | some (T, R) => ok = true ∧ s = ⟨(enc T).toArray⟩ ∧ k ≤ j ∧ j ≤ L.length ∧ L.drop j = R)
theorem qmap (M T : List Nat) (x : Nat) (o : Option (List Nat × List Nat)) : ((o.map fun y => (x :: y.1, y.2)).map fun y => (M ++ y.1, y.2)) = o.map fun y => ((M ++ [x]) ++ y.1, y.2) := by
  cases o with
  | none => rfl
  | some y => simp
set_option linter.unusedVariables false in
set_option linter.unusedSimpArgs false in
set_option maxRecDepth 100000 in
set_option maxHeartbeats 8000000 in
theorem quoted_ref (b : Nat) (v : Value) (L : List Nat) (k : Nat) (ki : Int) (hki : ki = (k : Int)) (hk : k < L.length) (hV : Vrs L) (hL : L.length ≤ 17592186044416) (w : World) (h : RowN b w v L) :
    Calls Tryz.prog 30 #[v, .int .i64 ki] w (RetQ L (quoS (L.drop (k + 1))) (k + 1) w) := by
  subst hki
  obtain ⟨i0, hi0, hz0, hz1, hz2⟩ := info_parts rune_info
  have H := Lib.hid h
  have ES := Lib.hid (show ∀ (j : Nat) (ji : Int) (W : World), ji = (j : Int) → j ≤ L.length → Below w.heap.size w W → Calls Tryz.prog 48 #[v, .int .i64 ji] W (RetEsc (escS (L.drop j)) W) from fun j ji W e hj hb => escape_ref b v L j ji e hj hV hL W (h.below hb))
  have HV := Lib.hid hV
  obtain ⟨A, cap, rfl⟩ := h.sl2
  clear h hV
  go_enter Tryz.func30, Tryz.ntmps30
  go_wp2_with fail
  go_loopg [1, 7] L.length (fun gg i o wr => ∃ (m : Nat) (M : List Nat) (nn : Nat), m ≤ L.length ∧ k + 1 ≤ m ∧ m + gg = L.length + (k + 1) ∧ M.length = nn ∧ nn ≤ m ∧ Hid (quoS (L.drop (k + 1)) = (quoS (L.drop m)).map fun x => (M ++ x.1, x.2)) ∧ i = .int .i64 (m : Int) ∧ Hid (RowN w.heap.size wr o M) ∧ Hid (Below w.heap.size w wr))
  case atStart => exact ⟨k + 1, [], 0, by omega, by omega, by omega, rfl, by omega, Lib.hid (by simp), by go_num, Lib.hid RowN.nil, Lib.hid (Below.refl _ _)⟩
  case round =>
    obtain ⟨m, M, nn, m1, m2, m3, hMl, m4, hQ, rfl, OW, HB⟩ := hrel
    have HMl := Lib.hid hMl
    have hsz := HB.out.size
    by_cases hlt : m < L.length
    · obtain ⟨g, rfl, h4, h5, h6, c⟩ := (H.out.below HB.out).cell2 hlt
      have h6' : cap ≤ 9223372036854775807 := h6
      have DC := Lib.hid (drop_cons L m hlt)
      have Q := hQ.out
      rw [DC.out, quoS_cons] at Q
      clear hMl
      by_cases r34 : L.getD m 0 = 34
      · rw [r34] at c Q
        have RQ := Lib.hid (show quoS (L.drop (k + 1)) = some (M, L.drop (m + 1)) from by rw [Q]; simp)
        clear Q r34 DC
        have CT := Lib.hid (fun W (hW : Below wr.heap.size wr W) => textR_any _ u7 M W (by have := HMl.out; omega) (OW.out.below hW))
        have TL := (enc_length_le M).2
        go_wp2_with (go_at_call 7; (with_reducible refine (CT.out _ (by go_grown)).mono ?_); rintro e w2 ⟨rfl, hb2⟩)
        go_ret3
        refine ⟨_, m + 1, true, rfl, bstep HB.out hb2, ?_, ?_⟩
        · rw [sizeI]; have := HMl.out; omega
        · rw [RQ.out]; exact ⟨rfl, rfl, by omega, by omega, rfl⟩
      · have n34 := neI r34
        rw [if_neg r34] at Q
        simp only [Int.cast_ofNat_Int] at n34
        by_cases r10 : L.getD m 0 = 10 ∨ L.getD m 0 = 13
        · rw [if_pos r10] at Q
          have RQ := Lib.hid (show quoS (L.drop (k + 1)) = none from by rw [Q]; rfl)
          clear Q r34 DC
          rcases r10 with r10 | r10
          all_goals
            rw [r10] at c
            clear r10 n34
            go_wp2
            go_ret3
            refine ⟨_, 0, false, rfl, HB.out, by simp [ByteArray.size], ?_⟩
            rw [RQ.out]; exact ⟨rfl, rfl, rfl⟩
        · rw [if_neg r10] at Q
          have n10 := neI (fun x => r10 (.inl x))
          have n13 := neI (fun x => r10 (.inr x))
          simp only [Int.cast_ofNat_Int] at n10 n13
          by_cases r92 : L.getD m 0 = 92
          · rw [r92] at c Q
            rw [if_pos rfl] at Q
            have ESm := Lib.hid (ES.out (m + 1) ((m : Int) + 1) wr (by omega) (by omega) HB.out)
            cases he : escS (L.drop (m + 1)) with
            | none =>
              rw [he] at Q
              have EE := Lib.hid he
              have RQ := Lib.hid (show quoS (L.drop (k + 1)) = none from by rw [Q]; rfl)
              clear Q he r92 r10 r34 n34 n10 n13 DC
              go_wp2_with (go_at_call 48; (with_reducible refine (ESm.out).mono ?_); rintro e w1 ⟨x, y, ok, rfl, rfl, hx⟩; (rw [EE.out] at hx); obtain rfl := hx)
              go_ret3
              refine ⟨_, 0, false, rfl, HB.out, by simp [ByteArray.size], ?_⟩
              rw [RQ.out]; exact ⟨rfl, rfl, rfl⟩
            | some p =>
              obtain ⟨r, q⟩ := p
              rw [he] at Q
              have q1 := escS_pos he
              have q2 := escS_len he
              rw [List.length_drop] at q2
              have EE := Lib.hid he
              have NQ := Lib.hid (show quoS (L.drop (k + 1)) = (quoS (L.drop (m + (q + 1)))).map fun x => ((M ++ [r]) ++ x.1, x.2) from by
                rw [Q, ← qmap M [] r]
                simp only [List.drop_drop, show m + 1 + q = m + (q + 1) by omega])
              clear Q he r92 r10 r34 n34 n10 n13 DC
              go_wp2_with (first
                | (go_at_call 48; (with_reducible refine (ESm.out).mono ?_); rintro e w1 ⟨x, y, ok, rfl, rfl, hx⟩; (rw [EE.out] at hx); obtain ⟨rfl, rfl, rfl⟩ := hx)
                | (at_builtin; refine wpList_append_own _ rfl (.tmp 50) (.tmp 52) _ rfl w.heap.size 21 i0 _ 1 4 Tryz.underlying26 hi0 hz0 hz1 hz2 rfl (by omega) u7 nn (M.map rc) rfl (by have q := OW.out; unfold RowN at q; rw [HMl.out] at q; exact q.alloc _) ⟨wr.heap.size, 0, none⟩ 1 1 [.int .i32 (r : Int)] rfl rfl (cell_one_new _ _ _) (by intro u hu; rw [List.mem_singleton.1 hu]; rfl) (by simp only [maxLen]; omega) (by omega) (by simp; omega) ?_))
              intro v' w' hown3 hg _
              have OWn : RowN w.heap.size w' v' (M ++ [r]) := by
                unfold RowN
                rw [List.length_append, HMl.out, List.map_append]
                exact hown3
              have BB : Below w.heap.size w w' := (HB.out.alloc hsz _).grown hg (by simp; omega) (fun k hk => (OW.out.lt k hk).1)
              have OWn' := Lib.hid OWn
              have BB' := Lib.hid BB
              clear hown3 hg OWn BB
              go_wp2
              go_roundg (L.length + (k + 1) - (m + (q + 1)))
              case measure => omega
              case rel => exact ⟨m + (q + 1), M ++ [r], nn + 1, by omega, by omega, by omega, by rw [List.length_append, HMl.out]; rfl, by omega, NQ, by go_num, OWn', BB'⟩
          · have n92 := neI r92
            simp only [Int.cast_ofNat_Int] at n92
            rw [if_neg r92] at Q
            have NQ := Lib.hid (show quoS (L.drop (k + 1)) = (quoS (L.drop (m + 1))).map fun x => ((M ++ [L.getD m 0]) ++ x.1, x.2) from by
              rw [Q, ← qmap M []])
            clear Q r92 r10 r34 DC
            generalize L.getD m 0 = r at *
            go_wp2_with (at_builtin; refine wpList_append_own _ rfl (.tmp 50) (.tmp 52) _ rfl w.heap.size 21 i0 _ 1 4 Tryz.underlying26 hi0 hz0 hz1 hz2 rfl (by omega) u7 nn (M.map rc) rfl (by have q := OW.out; unfold RowN at q; rw [HMl.out] at q; exact q.alloc _) ⟨wr.heap.size, 0, none⟩ 1 1 [.int .i32 (r : Int)] rfl rfl (cell_one_new _ _ _) (by intro u hu; rw [List.mem_singleton.1 hu]; rfl) (by simp only [maxLen]; omega) (by omega) (by simp; omega) ?_)
            intro v' w' hown3 hg _
            have OWn : RowN w.heap.size w' v' (M ++ [r]) := by
              unfold RowN
              rw [List.length_append, HMl.out, List.map_append]
              exact hown3
            have BB : Below w.heap.size w w' := (HB.out.alloc hsz _).grown hg (by simp; omega) (fun k hk => (OW.out.lt k hk).1)
            have OWn' := Lib.hid OWn
            have BB' := Lib.hid BB
            clear hown3 hg OWn BB
            go_wp2
            go_roundg (L.length + (k + 1) - (m + 1))
            case measure => omega
            case rel => exact ⟨m + 1, M ++ [r], nn + 1, by omega, by omega, by omega, by rw [List.length_append, HMl.out]; rfl, by omega, NQ, by go_num, OWn', BB'⟩
    · obtain rfl : m = L.length := by omega
      have RQ := Lib.hid (show quoS (L.drop (k + 1)) = none from by rw [hQ.out, List.drop_length]; rfl)
      go_wp2
      go_ret3
      refine ⟨_, 0, false, rfl, HB.out, by simp [ByteArray.size], ?_⟩
      rw [RQ.out]; exact ⟨rfl, rfl, rfl⟩
end Go.Proofs.YtfelcneedpndiaaGreatDoor

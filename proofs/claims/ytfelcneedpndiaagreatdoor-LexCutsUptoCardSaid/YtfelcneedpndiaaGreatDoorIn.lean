/-
  The document's answer of layer 16: Tokens, as a contract of its call.
-/
import Derived.Test.YtfelcneedpndiaaGreatDoorIo
namespace Go.Proofs.YtfelcneedpndiaaGreatDoor
open Go.RowKit Go.Lib

/-! ### Plain -/
theorem skipGo_le : ∀ (n : Nat) (S R : List Nat), skipGo n S = some R → R.length ≤ S.length
  | 0, S, R, h => by simp [skipGo] at h
  | n + 1, [], R, h => by
    simp [skipGo] at h
    subst h
    simp
  | n + 1, c :: t, R, h => by
    unfold skipGo at h
    rw [List.length_cons]
    split at h
    · have := skipGo_le n t R h; omega
    split at h
    · have a := skipGo_le n _ R h
      have b := lineS_le t
      omega
    split at h
    · cases hb : blockS (t.drop 1) with
      | none => rw [hb] at h; cases h
      | some r =>
        rw [hb] at h
        have a := skipGo_le n r R h
        have b := blockS_le _ _ hb
        rw [List.length_drop] at b
        omega
    · injection h with h
      subst h
      simp
theorem skipS_le {S R : List Nat} (h : skipS S = some R) : R.length ≤ S.length := skipGo_le _ S R h
theorem quoGo_le : ∀ (n : Nat) (S T R : List Nat), quoGo n S = some (T, R) → R.length + 1 ≤ S.length
  | 0, S, T, R, h => by simp [quoGo] at h
  | n + 1, [], T, R, h => by simp [quoGo] at h
  | n + 1, c :: t, T, R, h => by
    unfold quoGo at h
    rw [List.length_cons]
    split at h
    · injection h with h
      injection h with h1 h2
      subst h2
      omega
    split at h
    · cases h
    split at h
    · cases he : escS t with
      | none => rw [he] at h; cases h
      | some x =>
        obtain ⟨r, m⟩ := x
        rw [he] at h
        simp only [Option.map_eq_some_iff] at h
        obtain ⟨⟨T', R'⟩, h, e⟩ := h
        injection e with e1 e2
        subst e2
        have a := quoGo_le n _ T' R' h
        rw [List.length_drop] at a
        dsimp only
        omega
    · simp only [Option.map_eq_some_iff] at h
      obtain ⟨⟨T', R'⟩, h, e⟩ := h
      injection e with e1 e2
      subst e2
      have a := quoGo_le n _ T' R' h
      dsimp only
      omega
theorem quoS_le {S T R : List Nat} (h : quoS S = some (T, R)) : R.length + 1 ≤ S.length := quoGo_le _ S T R h
theorem oneS_lt {S : List Nat} {d : Nat} {T R : List Nat} (hS : S ≠ []) (h : oneS S = some (d, T, R)) : R.length < S.length := by
  have pos := List.length_pos_iff.2 hS
  unfold oneS at h
  split at h
  · next hl =>
    injection h with h
    injection h with h1 h2
    injection h2 with h2 h3
    subst h3
    rcases S with _ | ⟨c, t⟩
    · exact absurd rfl hS
    · rw [List.dropWhile_cons, if_pos (by unfold wordR; rw [show letR c = true from hl]; rfl), List.length_cons]
      have := dw_le wordR t
      omega
  split at h
  · next hl =>
    injection h with h
    injection h with h1 h2
    injection h2 with h2 h3
    subst h3
    exact numS_lt hl
  split at h
  · simp only [Option.map_eq_some_iff] at h
    obtain ⟨⟨T', R'⟩, h, e⟩ := h
    injection e with e1 e2
    injection e2 with e2 e3
    subst e3
    have a := quoS_le h
    rw [List.length_drop] at a
    dsimp only
    omega
  split at h
  · simp only [Option.map_eq_some_iff] at h
    obtain ⟨⟨T', R'⟩, h, e⟩ := h
    injection e with e1 e2
    injection e2 with e2 e3
    subst e3
    have a := quoS_le h
    rw [List.length_drop] at a
    dsimp only
    omega
  split at h
  · next hl =>
    injection h with h
    injection h with h1 h2
    injection h2 with h2 h3
    subst h3
    rw [List.length_drop]
    omega
  · cases h
theorem tokGo_fuel : ∀ (n m : Nat) (S : List Nat), S.length < n → S.length < m → tokGo n S = tokGo m S
  | 0, _, S, h, _ => by omega
  | _ + 1, 0, S, _, h => by omega
  | n + 1, m + 1, S, h1, h2 => by
    unfold tokGo
    cases hs : skipS S with
    | none => rfl
    | some R =>
      have a := skipS_le hs
      rcases R with _ | ⟨c, t⟩
      · rfl
      · simp only
        cases ho : oneS (c :: t) with
        | none => rfl
        | some x =>
          obtain ⟨d, T, r⟩ := x
          have b := oneS_lt (by simp) ho
          simp only
          rw [tokGo_fuel n m r (by omega) (by omega)]
theorem tokS_step (S : List Nat) : tokS S = match skipS S with
    | none => none
    | some [] => some [(0, [], 0)]
    | some (c :: t) => match oneS (c :: t) with
      | none => none
      | some (k, x, r) => (tokS r).map fun ts => (k, x, (c :: t).length) :: ts := by
  unfold tokS
  rw [tokGo]
  cases hs : skipS S with
  | none => rfl
  | some R =>
    have a := skipS_le hs
    rcases R with _ | ⟨c, t⟩
    · rfl
    · simp only
      cases ho : oneS (c :: t) with
      | none => rfl
      | some x =>
        obtain ⟨d, T, r⟩ := x
        have b := oneS_lt (by simp) ho
        simp only
        rw [tokGo_fuel S.length (r.length + 1) r (by omega) (by omega)]
/-- The cells of some tokens. -/
def tokC (n : Nat) (t : Nat × List Nat × Nat) : List Value := [.int .i64 (t.1 : Int), .string ⟨(enc t.2.1).toArray⟩, .int .i64 ((n - t.2.2 : Nat) : Int)]
def tokCs (n : Nat) (ts : List (Nat × List Nat × Nat)) : List Value := ts.flatMap (tokC n)
theorem tokCs_snoc (n : Nat) (ts : List (Nat × List Nat × Nat)) (t : Nat × List Nat × Nat) : tokCs n (ts ++ [t]) = tokCs n ts ++ tokC n t := by unfold tokCs; simp
theorem tmap (ts : List (Nat × List Nat × Nat)) (x : Nat × List Nat × Nat) (o : Option (List (Nat × List Nat × Nat))) : ((o.map fun y => x :: y).map fun y => ts ++ y) = o.map fun y => (ts ++ [x]) ++ y := by
  cases o with
  | none => rfl
  | some y => simp
/-- A slice of tokens that the call made. -/
def RowK (b : Nat) (W : World) (v : Value) (n : Nat) (ts : List (Nat × List Nat × Nat)) : Prop := W.ownsRow b 36 3 v ts.length (tokCs n ts)
/-- What Tokens answers. -/
def RetTok (L : List Nat) (w : World) (e : Ending) (w' : World) : Prop :=
  ∃ (v : Value) (ok : Bool), e = .returned (.tuple #[v, .bool ok]) ∧ Below w.heap.size w w' ∧ (match tokS L with | none => ok = false ∧ v = .slice none 0 0 | some ts => ok = true ∧ RowK w.heap.size w' v L.length ts)
theorem token_info : (Tryz.prog.info? 36).map (fun i => (i.zero, i.size, i.bytes)) = some (some (.agg #[.int .i64 0, .string ⟨#[]⟩, .int .i64 0]), 3, 32) := by kernel_rfl
theorem ownsRow_belowI {b : Nat} {W w1 : World} {e size n : Nat} {v : Value} {xs : List Value} (h : W.ownsRow b e size v n xs) (hb : Below W.heap.size W w1) : w1.ownsRow b e size v n xs := by
  refine ⟨h.1, ?_⟩
  rcases h.2 with h0 | ⟨g, cap, cur, rfl, hb0, hh, h1, h2, h3, h4⟩
  · exact .inl h0
  · refine .inr ⟨g, cap, cur, rfl, hb0, ?_, h1, h2, h3, h4⟩
    have : g < W.heap.size := by
      rcases Nat.lt_or_ge g W.heap.size with x | x
      · exact x
      · rw [Array.getElem?_eq_none x] at hh; cases hh
    exact (hb.block g this).trans hh
theorem cell3I (w : World) (x y z : Value) (t : TypeId) : ∀ j u, [x, y, z][j]? = some u → (w.alloc (.cells #[x, y, z] t)).cell? ((⟨w.heap.size, 0, none⟩ : Addr).add j) = some u := by
  intro j u hj
  match j, hj with
  | 0, hj => simp at hj; subst hj; simp [Addr.add]
  | 1, hj => simp at hj; subst hj; simp [Addr.add]
  | 2, hj => simp at hj; subst hj; simp [Addr.add]
  | (j + 3), hj => simp at hj
theorem skip_ref2 (b : Nat) (v : Value) (L : List Nat) (k : Nat) (ki : Int) (e : ki = (k : Int)) (hk : k ≤ L.length) (hV : Vrs L) (hL : L.length ≤ 17592186044416) (w : World) (h : RowN b w v L) : Calls Tryz.prog 12 #[v, .int .i64 ki] w (RetSk L (skipS (L.drop k)) k w) := e ▸ skip_ref b v L k hk hV hL w h
set_option linter.unusedVariables false in
set_option linter.unusedSimpArgs false in
set_option maxRecDepth 100000 in
set_option maxHeartbeats 8000000 in
theorem tokens_ref (b : Nat) (v : Value) (L : List Nat) (hV : Vrs L) (hL : L.length ≤ 1099511627776) (w : World) (h : RowN b w v L) :
    Calls Tryz.prog 8 #[v] w (RetTok L w) := by
  obtain ⟨i0, hi0, hz0, hz1, hz2⟩ := info_parts token_info
  have H := Lib.hid h
  have HV := Lib.hid hV
  have SK := Lib.hid (show ∀ (j : Nat) (W : World), j ≤ L.length → Below w.heap.size w W → Calls Tryz.prog 12 #[v, .int .i64 (j : Int)] W (RetSk L (skipS (L.drop j)) j W) from fun j W hj hb => skip_ref b v L j hj hV (by omega) W (h.below hb))
  have ON := Lib.hid (show ∀ (j : Nat) (W : World), j < L.length → Below w.heap.size w W → Calls Tryz.prog 13 #[v, .int .i64 (j : Int)] W (RetOne L (oneS (L.drop j)) j W) from fun j W hj hb => one_ref b v L j hj hV (by omega) W (h.below hb))
  obtain ⟨A, cap, rfl⟩ := h.sl2
  clear h hV
  go_enter Tryz.func8, Tryz.ntmps8
  go_wp2_with fail
  go_loopg [4, 5] (L.length + 1) (fun gg o i wr => ∃ (m : Nat) (ts : List (Nat × List Nat × Nat)) (nn : Nat), m ≤ L.length ∧ m + gg = L.length + 1 ∧ ts.length = nn ∧ nn ≤ m ∧ Hid (tokS L = (tokS (L.drop m)).map fun y => ts ++ y) ∧ i = .int .i64 (m : Int) ∧ Hid (RowK w.heap.size wr o L.length ts) ∧ Hid (Below w.heap.size w wr))
  case atStart => exact ⟨0, [], 0, by omega, by omega, rfl, by omega, Lib.hid (by simp), rfl, Lib.hid ⟨rfl, .inl ⟨rfl, rfl⟩⟩, Lib.hid (Below.refl _ _)⟩
  case round =>
    obtain ⟨m, ts, nn, m1, m2, hl, m3, hT, rfl, OW, HB⟩ := hrel
    have HTl := Lib.hid hl
    have hsz := HB.out.size
    have T := hT.out
    rw [tokS_step (L.drop m)] at T
    have SKm := SK.out m wr m1 HB.out
    clear hl
    cases hs : skipS (L.drop m) with
    | none =>
      rw [hs] at T SKm
      have SKm' := Lib.hid SKm
      have RT := Lib.hid (show tokS L = none from by rw [T]; rfl)
      clear T SKm hs
      go_wp2_with (go_at_call 12; (with_reducible refine (SKm'.out).mono ?_); rintro e w1 ⟨j, ok, rfl, rfl, rfl⟩)
      go_ret2
      refine ⟨_, false, rfl, HB.out, ?_⟩
      rw [RT.out]
      exact ⟨rfl, rfl⟩
    | some R =>
      rcases R with _ | ⟨c, t⟩
      · rw [hs] at T SKm
        have SKm' := Lib.hid SKm
        have RT := Lib.hid (show tokS L = some (ts ++ [(0, [], 0)]) from by rw [T]; rfl)
        clear T SKm hs
        go_wp2_with (first
          | (go_at_call 12; (with_reducible refine (SKm'.out).mono ?_); rintro e w1 ⟨j, ok, rfl, rfl, rfl, j1, j2, j3⟩; have jl : L.length ≤ j := List.drop_eq_nil_iff.1 j3; obtain rfl : j = L.length := Nat.le_antisymm j2 jl; clear j3 jl)
          | (at_builtin; refine wpList_append_own _ rfl (.tmp 23) (.tmp 27) _ rfl w.heap.size 36 i0 _ 3 32 Tryz.underlying29 hi0 hz0 hz1 hz2 rfl (by omega) u4 nn (tokCs L.length ts) rfl (by have q := OW.out; unfold RowK at q; rw [HTl.out] at q; exact q.alloc _) ⟨wr.heap.size, 0, none⟩ 1 1 [.int .i64 0, .string ⟨#[]⟩, .int .i64 (L.length : Int)] rfl rfl (cell3I _ _ _ _ _) (by intro u hu; simp only [List.mem_cons, List.not_mem_nil, or_false] at hu; rcases hu with rfl | rfl | rfl <;> rfl) (by simp only [maxLen]; omega) (by omega) (by simp; omega) ?_))
        intro v' w' hown3 hg _
        have OWn : RowK w.heap.size w' v' L.length (ts ++ [(0, [], 0)]) := by
          unfold RowK
          rw [List.length_append, HTl.out, tokCs_snoc]
          exact hown3
        have BB : Below w.heap.size w w' := (HB.out.alloc hsz _).grown hg (by simp; omega) (fun k hk => (OW.out.lt k hk).1)
        have OWn' := Lib.hid OWn
        have BB' := Lib.hid BB
        clear hown3 hg OWn BB
        go_wp2
        go_ret2
        refine ⟨_, true, rfl, BB'.out, ?_⟩
        rw [RT.out]
        exact ⟨rfl, OWn'.out⟩
      · rw [hs] at T SKm
        have SKm' := Lib.hid SKm
        have T' := Lib.hid T
        clear T SKm hs
        go_wp2_with fail
        refine (SKm'.out).mono ?_
        rintro e w1 ⟨j, ok, rfl, rfl, rfl, j1, j2, j3⟩
        have jl : j < L.length := by
          have a := congrArg List.length j3
          rw [List.length_drop, List.length_cons] at a
          omega
        have J3 := Lib.hid j3
        clear j3
        have ONj := ON.out j wr jl HB.out
        rw [J3.out] at ONj
        have T := T'.out
        cases ho : oneS (c :: t) with
        | none =>
          rw [ho] at ONj
          simp only [ho] at T
          have RT := Lib.hid (show tokS L = none from by rw [T]; rfl)
          have ONk := Lib.hid ONj
          clear ONj T ho
          go_upto_region 10 with (go_at_call 13; (with_reducible refine (ONk.out).mono ?_); rintro e w2 ⟨cc, s, j', ok, rfl, hb2, hz, rfl⟩)
          go_wp2
          go_ret2
          refine ⟨_, false, rfl, bstep HB.out (ballD1 hb2 _), ?_⟩
          rw [RT.out]
          exact ⟨rfl, rfl⟩
        | some x =>
          obtain ⟨d, X, R⟩ := x
          rw [ho] at ONj
          simp only [ho] at T
          have ONk := Lib.hid ONj
          have LT := Lib.hid (oneS_lt (by simp) ho)
          have T2 := Lib.hid T
          clear ONj T ho
          go_upto_region 10 with (go_at_call 13; (with_reducible refine (ONk.out).mono ?_); rintro e w2 ⟨cc, s, j', ok, rfl, hb2, hz, rfl, rfl, rfl, q1, q2, q3⟩; have Q3 := Lib.hid q3; clear q3)
          have TK := Lib.hid (HoldsTk.new rfl : HoldsTk (w2.alloc (TkC (d : Int) ⟨(enc X).toArray⟩ (j : Int))) w2.heap.size (d : Int) ⟨(enc X).toArray⟩ (j : Int))
          have B3 := bstep HB.out (ballD1 hb2 (TkC (d : Int) ⟨(enc X).toArray⟩ (j : Int)))
          have OW3 := Lib.hid (show RowK w.heap.size (w2.alloc (TkC (d : Int) ⟨(enc X).toArray⟩ (j : Int))) u4 L.length ts from ownsRow_belowI OW.out (ballD1 hb2 _))
          change Code.wp _ _ _ _ (w2.alloc (TkC (d : Int) ⟨(enc X).toArray⟩ (j : Int)))
          obtain ⟨g, hg⟩ : ∃ g, g = w2.heap.size := ⟨_, rfl⟩
          rw [← hg] at TK ⊢
          generalize w2.alloc (TkC (d : Int) ⟨(enc X).toArray⟩ (j : Int)) = w3 at *
          clear hg
          obtain ⟨⟨t0, t1, t2⟩, -, tz⟩ := TK.out
          have hsz3 := B3.size
          have XL := Lib.hid (show tokS L = (tokS (L.drop j')).map fun y => (ts ++ [(d, X, (c :: t).length)]) ++ y from by
            rw [T2.out, ← tmap ts (d, X, (c :: t).length), Q3.out])
          have AT := Lib.hid (show L.length - (c :: t).length = j from by rw [← J3.out, List.length_drop]; omega)
          generalize (c :: t).length = nl at *
          go_wp2_with (first
            | (at_builtin; refine wpList_append_own _ rfl (.tmp 39) (.tmp 41) _ rfl w.heap.size 36 i0 _ 3 32 Tryz.underlying29 hi0 hz0 hz1 hz2 rfl (by omega) u4 nn (tokCs L.length ts) rfl (by have q := OW3.out; unfold RowK at q; rw [HTl.out] at q; exact q.alloc _) ⟨w3.heap.size, 0, none⟩ 1 1 [.int .i64 (d : Int), .string ⟨(enc X).toArray⟩, .int .i64 (j : Int)] rfl rfl (cell3I _ _ _ _ _) (by intro u hu; simp only [List.mem_cons, List.not_mem_nil, or_false] at hu; rcases hu with rfl | rfl | rfl <;> rfl) (by simp only [maxLen]; omega) (by omega) (by simp; omega) ?_))
          intro v' w' hown3 hg _
          have OWn : RowK w.heap.size w' v' L.length (ts ++ [(d, X, nl)]) := by
            unfold RowK
            rw [List.length_append, HTl.out, tokCs_snoc, tokC]
            dsimp only
            rw [AT.out]
            exact hown3
          have BB : Below w.heap.size w w' := (B3.alloc hsz3 _).grown hg (by simp; omega) (fun k hk => (OW3.out.lt k hk).1)
          have OWn' := Lib.hid OWn
          have BB' := Lib.hid BB
          clear hown3 hg OWn BB
          go_wp2
          go_roundg (L.length + 1 - j')
          case measure => omega
          case rel => exact ⟨j', ts ++ [(d, X, nl)], nn + 1, by omega, by omega, by rw [List.length_append, HTl.out]; rfl, by omega, XL, by go_num, OWn', BB'⟩
end Go.Proofs.YtfelcneedpndiaaGreatDoor

/-
  Package lexical: a duration's text summed up letter by letter (sum), as a contract of its call.
-/
import Derived.Test.YthgondbiddncpaaDoorYd
import Derived.Test.YthgondbiddncpaaDoorYq
namespace Go.Proofs.YthgondbiddncpaaDoor
open Go.RowKit

/-- A unit, as the program lays it. -/
abbrev Uv (u : Nat × Nat) : Value := .agg #[.int .i32 (u.1 : Int), .int .i64 (u.2 : Int)]
/-- Units lie in a block, from a place on. -/
def HoldsU (W : World) (g o : Nat) (us : List (Nat × Nat)) : Prop := (∀ j, j < us.length → W.cell? ⟨g, o + j * 2, none⟩ = some (.int .i32 ((us.getD j (0, 0)).1 : Int)) ∧ W.cell? ⟨g, o + j * 2 + 1, none⟩ = some (.int .i64 ((us.getD j (0, 0)).2 : Int))) ∧ g < W.heap.size
theorem HoldsU.block {W W' : World} {g o : Nat} {us : List (Nat × Nat)} (H : HoldsU W g o us) (hb : W'.heap[g]? = W.heap[g]?) (hs : W.heap.size ≤ W'.heap.size) : HoldsU W' g o us :=
  ⟨fun j hj => ⟨(World.cell?_of_block (a := ⟨g, o + j * 2, none⟩) hb).trans (H.1 j hj).1, (World.cell?_of_block (a := ⟨g, o + j * 2 + 1, none⟩) hb).trans (H.1 j hj).2⟩, Nat.lt_of_lt_of_le H.2 hs⟩
theorem HoldsU.below {W W' : World} {g o : Nat} {us : List (Nat × Nat)} (H : HoldsU W g o us) (hb : Below W.heap.size W W') : HoldsU W' g o us := H.block (hb.block _ H.2) hb.size
theorem HoldsU.drop {W : World} {g o : Nat} {us : List (Nat × Nat)} (H : HoldsU W g o us) (k : Nat) : HoldsU W g (o + k * 2) (us.drop k) :=
  ⟨fun j hj => by
    rw [List.length_drop] at hj
    have := H.1 (k + j) (by omega)
    rw [show o + k * 2 + j * 2 = o + (k + j) * 2 by omega, show (us.drop k).getD j (0, 0) = us.getD (k + j) (0, 0) by simp [List.getD, List.getElem?_drop]]
    exact this, H.2⟩

set_option maxRecDepth 100000 in
set_option maxHeartbeats 4000000 in
theorem same_any (u : Nat × Nat) (B : Nat) (r : Int) (w : World) (hB : B < w.heap.size) (hc0 : w.cell? ⟨B, 0, none⟩ = some (.int .i32 r)) : Calls Tryd.prog 70 #[Uv u, .pointer (some ⟨B, 0, none⟩)] w (Ret (.bool ((u.1 : Int) == r)) w) := by
  have hne : B ≠ w.heap.size := by omega
  obtain ⟨u1, u2⟩ := u
  obtain ⟨a, ha⟩ : ∃ a : Int, a = (u1 : Int) := ⟨_, rfl⟩
  obtain ⟨b, hb⟩ : ∃ b : Int, b = (u2 : Int) := ⟨_, rfl⟩
  show Calls Tryd.prog 70 #[.agg #[.int .i32 (u1 : Int), .int .i64 (u2 : Int)], .pointer (some ⟨B, 0, none⟩)] w (Ret (.bool ((u1 : Int) == r)) w)
  rw [← ha, ← hb]
  clear ha hb
  go_enter Tryd.func70, Tryd.ntmps70
  go_wp2
  go_ret
  exact ⟨rfl, by go_grown⟩

/-- What the first unit of that letter is, and where. -/
def IxP (us : List (Nat × Nat)) (c : Nat) (e : Ending) : Prop := (findU us c = none ∧ e = .returned (.int .i64 (-1))) ∨ ∃ k : Nat, k < us.length ∧ findU us c = some ((us.getD k (0, 0)).2, us.drop (k + 1)) ∧ e = .returned (.int .i64 (k : Int))
set_option linter.unusedSimpArgs false in
set_option maxRecDepth 100000 in
set_option maxHeartbeats 4000000 in
theorem index_any (us : List (Nat × Nat)) (hu : us.length ≤ 3) (p : Option Addr) (g o : Nat) (B c : Nat) (w : World) (hp : us ≠ [] → p = some ⟨g, o, none⟩) (hU : us ≠ [] → HoldsU w g o us) (hB : B < w.heap.size) (hc0 : w.cell? ⟨B, 0, none⟩ = some (.int .i32 (c : Int))) :
    Calls Tryd.prog 69 #[.slice p us.length us.length, .func (.func 70) #[] #[.pointer (some ⟨B, 0, none⟩)]] w fun e w' => IxP us c e ∧ Below w.heap.size w w' := by
  have eg : ∀ args w, (callFunc 70 args).run Tryd.prog w = .ok (.enter 70 args) w := enters_of Tryd.func70 (by kernel_rfl) rfl
  have HP := Lib.hid hp
  have HU := Lib.hid hU
  have HC := Lib.hid (And.intro hB hc0)
  obtain ⟨n, hn⟩ : ∃ n, n = us.length := ⟨_, rfl⟩
  rw [← hn] at hu ⊢
  have HN := Lib.hid hn
  clear hp hU hB hc0 hn
  go_enter Tryd.func69, Tryd.ntmps69
  go_wp2
  go_loopg [5, 8] n (fun gg _ s8 wr => ∃ kk : Nat, kk ≤ n ∧ n - kk ≤ gg ∧ s8 = .int .i64 kk ∧ Hid (Below w.heap.size w wr) ∧ Hid (∀ j, j < kk → (us.getD j (0, 0)).1 ≠ c))
  case atStart => exact ⟨0, Nat.zero_le _, by omega, rfl, Lib.hid (Below.refl _ w), Lib.hid (fun j hj => absurd hj (Nat.not_lt_zero _))⟩
  case round =>
    obtain ⟨kk, hkk, hg, rfl, BW, A⟩ := hrel
    by_cases hlt : kk < n
    · have hltz : (kk : Int) < (n : Int) := by omega
      have ne : us ≠ [] := by intro e; have := HN.out; rw [e] at this; simp at this; omega
      obtain rfl := HP.out ne
      have U := (HU.out ne).below BW.out
      obtain ⟨x1, x2⟩ := U.1 kk (by rw [← HN.out]; exact hlt)
      have xz := U.2
      have SM0 := same_any (us.getD kk (0, 0)) B (c : Int) wr (Nat.lt_of_lt_of_le HC.out.1 BW.out.size) ((BW.out.cell (p := ⟨B, 0, none⟩) HC.out.1).trans HC.out.2)
      obtain ⟨b, hb⟩ : ∃ b : Bool, b = (((us.getD kk (0, 0)).1 : Int) == (c : Int)) := ⟨_, rfl⟩
      rw [← hb] at SM0
      have HBb := Lib.hid hb
      generalize hy : us.getD kk (0, 0) = y at x1 x2 SM0
      have HY := Lib.hid hy
      obtain ⟨y1, y2⟩ := y
      obtain ⟨i1, hi1⟩ : ∃ i : Int, i = (y1 : Int) := ⟨_, rfl⟩
      obtain ⟨i2, hi2⟩ : ∃ i : Int, i = (y2 : Int) := ⟨_, rfl⟩
      have SM1 : Calls Tryd.prog 70 #[.agg #[.int .i32 i1, .int .i64 i2], .pointer (some ⟨B, 0, none⟩)] wr (Ret (.bool b) wr) := by rw [hi1, hi2]; exact SM0
      rw [← hi1] at x1
      rw [← hi2] at x2
      have SM := Lib.hid SM1
      clear SM0 SM1 hb hy hi1 hi2 ne
      cases b
      · go_wp2_with (go_at_fn 70; refine SM.out.mono ?_; rintro e w' ⟨rfl, hb'⟩)
        go_roundg (n - (kk + 1))
        case measure => omega
        case rel =>
          refine ⟨kk + 1, by omega, by omega, by go_num, Lib.hid (bstep BW.out hb'), Lib.hid (fun j hj => ?_)⟩
          by_cases e : j = kk
          · subst e
            intro k
            have := HBb.out
            rw [k] at this
            simp at this
          · exact A.out j (by omega)
      · go_wp2_with (go_at_fn 70; refine SM.out.mono ?_; rintro e w' ⟨rfl, hb'⟩)
        go_ret
        refine ⟨.inr ⟨kk, by rw [← HN.out]; exact hlt, ?_, rfl⟩, bstep BW.out hb'⟩
        have := HBb.out
        have e : (us.getD kk (0, 0)).1 = c := by
          have := beq_iff_eq.1 this.symm
          omega
        exact findU_some (by rw [← HN.out]; exact hlt) e A.out
    · have hltz : ¬ (kk : Int) < (n : Int) := by omega
      have : kk = n := by omega
      subst this
      go_wp2
      go_ret
      exact ⟨.inl ⟨findU_none (by rw [← HN.out]; exact A.out), rfl⟩, BW.out⟩
/-! ### sum -/
def vs_len (us : List (Nat × Nat)) (kk : Nat) : Prop := (us.drop (kk + 1)).length = us.length - (kk + 1) ∧ kk < us.length
/-- What sum answers. -/
def SmV : Option Nat → Value
  | none => .tuple #[.int .i64 0, .bool false]
  | some a => .tuple #[.int .i64 (a : Int), .bool true]
def SmRel (w : World) (s : ByteArray) (most : Nat) (us0 : List (Nat × Nat)) (g gk : Nat) (v2 v8 v9 v10 : Value) (W : World) : Prop :=
  ∃ (pos a n k : Nat) (us : List (Nat × Nat)) (p : Option Addr), v2 = .slice p us.length us.length ∧ v8 = .int .i64 (a : Int) ∧ v9 = .int .i64 (n : Int) ∧ v10 = .int .i64 (k : Int) ∧ gk = s.size - pos ∧ W.heap[w.heap.size]? = some (.stringIter s pos) ∧ us.length ≤ 3 ∧ Hid (runU most (s.data.toList.take pos) (0, 0, 0, us0) = some (a, n, k, us) ∧ InvU most (a, n, k, us)) ∧ Hid (us ≠ [] → ∃ o, p = some ⟨g, o, none⟩ ∧ HoldsU W g o us) ∧ Below w.heap.size w W
theorem byte_at9 (s : ByteArray) (pos : Nat) (h : pos < s.size) : s.data.toList.take (pos + 1) = s.data.toList.take pos ++ [s[pos]'h] := by
  have h' : pos < s.data.toList.length := h
  rw [List.take_succ_eq_append_getElem h']
  rfl
theorem pow_most {k most n : Nat} (h : n < 10 ^ k) (h1 : k ≤ most) (h2 : most ≤ 15) : n < 1000000000000000 :=
  Nat.lt_of_lt_of_le h (Nat.le_trans (Nat.pow_le_pow_right (by decide) (Nat.le_trans h1 h2)) (by decide))
set_option linter.unusedSimpArgs false in
set_option linter.unusedVariables false in
set_option maxRecDepth 100000 in
set_option maxHeartbeats 8000000 in
theorem sum_any (s : ByteArray) (hs : s.size ≤ 200000000000000) (most : Nat) (mi : Int) (hm : mi = (most : Int)) (h15 : most ≤ 15) (us0 : List (Nat × Nat)) (h3 : us0.length ≤ 3) (hl : lowU us0) (hb : bud most us0 ≤ 10 ^ 18) (g : Nat) (w : World) (HU : HoldsU w g 0 us0) :
    Calls Tryd.prog 51 #[.string s, .int .i64 mi, .slice (some ⟨g, 0, none⟩) us0.length us0.length] w (Ret (SmV (sumU most s.data.toList us0 0)) w) := by
  have HS := Lib.hid (And.intro hs (And.intro hm h15))
  have HU0 := Lib.hid HU
  have INV := Lib.hid (show InvU most (0, 0, 0, us0) from ⟨Nat.zero_le _, by show 0 < 10 ^ 0; decide, by show 0 + bud most us0 ≤ 10 ^ 18; omega, hl⟩)
  have HG := Lib.hid HU.2
  clear hs HU hl hb hm h15
  go_enter Tryd.func51, Tryd.ntmps51
  go_wp2
  go_loopg [2, 8, 9, 10] s.size (fun gk v2 v8 v9 v10 W => SmRel w s most us0 g gk v2 v8 v9 v10 W)
  case atStart =>
    refine ⟨0, 0, 0, 0, us0, _, rfl, rfl, rfl, rfl, rfl, ?_, h3, Lib.hid ⟨by rw [List.take_zero]; rfl, INV.out⟩, Lib.hid (fun _ => ⟨0, rfl, HU0.out.below ?_⟩), ?_⟩
    · have := World.iter_heap w s 0
      simpa using this
    · exact (Below.refl _ w).alloc (Nat.le_refl _) _
    · exact (Below.refl _ w).alloc (Nat.le_refl _) _
  case round =>
    obtain ⟨pos, a, n, k, us, p, rfl, rfl, rfl, rfl, hp, hit, u3, HR, HX, HB⟩ := hrel
    have hsz : w.heap.size < wr.heap.size := (Array.getElem?_eq_some_iff.1 hit).1
    clear HU0 INV h3
    by_cases hlt : pos < s.size
    · obtain ⟨rv, p', hd1, hd2, hd3⟩ : ∃ rv p' : Nat, (Utf8.decode s pos).1 = rv ∧ pos + (Utf8.decode s pos).2 = p' ∧ ((rv = (s[pos]'hlt).toNat ∧ p' = pos + 1) ∨ (128 ≤ rv ∧ 128 ≤ (s[pos]'hlt).toNat)) := by
        refine ⟨_, _, rfl, rfl, ?_⟩
        by_cases ha : (s[pos]'hlt).toNat < 128
        · rw [decode_ascii s pos hlt ha]
          exact .inl ⟨rfl, rfl⟩
        · exact .inr ⟨(decode_high s pos hlt (by omega)).1, by omega⟩
      have hnx : ∀ ty, (Instr.next (.pointer (some ⟨w.heap.size, 0, none⟩)) true ty).run Tryd.prog wr = _ := fun ty => Lib.run_next_any_at wr w.heap.size s pos ty hit hlt
      rw [hd1, hd2] at hnx
      have HL := Lib.hid (show s.data.toList = s.data.toList.take pos ++ (s[pos]'hlt) :: s.data.toList.drop (pos + 1) from by
        have h' : pos < s.data.toList.length := hlt
        conv => lhs; rw [← List.take_append_drop pos s.data.toList]
        rw [List.drop_eq_getElem_cons h']
        rfl)
      have HM := Lib.hid (byte_at9 s pos hlt)
      have HX1 := Lib.hid (show us ≠ [] → ∃ o, p = some ⟨g, o, none⟩ ∧ HoldsU (wr.iterAt w.heap.size s p') g o us from fun q => by
        obtain ⟨o, e, H⟩ := HX.out q
        exact ⟨o, e, H.block (Lib.iterAt_other wr w.heap.size g s p' (Nat.ne_of_lt HG.out)) (by rw [Lib.iterAt_size]; exact Nat.le_refl _)⟩)
      have HB1 := Lib.below_iterAt HB (k := w.heap.size) (Nat.le_refl _) s p'
      have hit2 := Lib.hid (Lib.iterAt_heap wr w.heap.size s pos p' hit)
      have hsz1 : w.heap.size < (wr.iterAt w.heap.size s p').heap.size := by rw [Lib.iterAt_size]; exact hsz
      generalize (s[pos]'hlt) = b at *
      have HD := Lib.hid hd3
      have HP := Lib.hid (And.intro hlt hp)
      obtain ⟨ri, hri⟩ : ∃ ri : Int, ri = (rv : Int) := ⟨_, rfl⟩
      rw [← hri] at hnx
      have HRI := Lib.hid hri
      clear hd1 hd2 hd3 hit hlt HB hsz hp HX hri
      generalize wr.iterAt w.heap.size s p' = W1 at *
      go_upto_region 5 with fail
      change Code.wp _ _ _ _ (W1.alloc (.cells #[.int .i32 ri] 21))
      obtain ⟨BB, hBB⟩ : ∃ q, q = W1.heap.size := ⟨_, rfl⟩
      have c0 : (W1.alloc (.cells #[.int .i32 ri] 21)).cell? ⟨BB, 0, none⟩ = some (.int .i32 ri) := by rw [hBB]; simp [go_sem]
      have cz : BB < (W1.alloc (.cells #[.int .i32 ri] 21)).heap.size := by rw [hBB]; simp
      have bw : Below W1.heap.size W1 (W1.alloc (.cells #[.int .i32 ri] 21)) := (Below.refl _ W1).alloc (Nat.le_refl _) _
      have HX2 := Lib.hid (show us ≠ [] → ∃ o, p = some ⟨g, o, none⟩ ∧ HoldsU (W1.alloc (.cells #[.int .i32 ri] 21)) g o us from fun q => by
        obtain ⟨o, e, H⟩ := HX1.out q
        exact ⟨o, e, H.below bw⟩)
      have hit3 := Lib.hid ((bw.block _ hsz1).trans hit2.out)
      have hsz2 := Lib.hid (Nat.lt_of_lt_of_le hsz1 bw.size)
      replace HB1 := bstep HB1 bw
      rw [← hBB]
      clear bw HX1 hit2 hsz1 hnx hBB
      generalize W1.alloc (.cells #[.int .i32 ri] 21) = W2 at *
      clear W1
      have HC := Lib.hid (And.intro c0 cz)
      obtain ⟨dg, hdg⟩ : ∃ d : Bool, d = isR ri := ⟨_, rfl⟩
      have DG0 := digit_any ri
      rw [← hdg] at DG0
      have DG := Lib.hid DG0
      have HDG := Lib.hid hdg
      clear DG0 hdg
      obtain ⟨ki, hki⟩ : ∃ i : Int, i = (k : Int) := ⟨_, rfl⟩
      obtain ⟨ni, hni⟩ : ∃ i : Int, i = (n : Int) := ⟨_, rfl⟩
      obtain ⟨ai, hai⟩ : ∃ i : Int, i = (a : Int) := ⟨_, rfl⟩
      rw [← hki, ← hni, ← hai]
      have HI := Lib.hid (And.intro hki (And.intro hni hai))
      clear hki hni hai
      go_wp2_with fail
      refine (DG.out _).mono ?_
      rintro e v1 ⟨rfl, hb⟩
      obtain ⟨hc1, hf1⟩ := bcell hb
      replace HC := Lib.hid (And.intro ((hc1 _ _ HC.out.2).trans HC.out.1) (Nat.lt_of_lt_of_le HC.out.2 hb.size))
      have HX3 := Lib.hid (show us ≠ [] → ∃ o, p = some ⟨g, o, none⟩ ∧ HoldsU v1 g o us from fun q => by
        obtain ⟨o, e, H⟩ := HX2.out q
        exact ⟨o, e, H.below hb⟩)
      have hit4 := Lib.hid ((hb.block _ hsz2.out).trans hit3.out)
      have hsz3 := Lib.hid (Nat.lt_of_lt_of_le hsz2.out hb.size)
      replace HB1 := bstep HB1 hb
      clear DG HX2 hit3 hsz2 hb hc1 hf1 c0 cz
      have CC : (dg = true ∧ decide (ki < mi) = true) ∨ (dg = true ∧ decide (ki < mi) = false) ∨ (dg = false) := by
        cases dg
        · exact .inr (.inr rfl)
        · cases decide (ki < mi)
          · exact .inr (.inl ⟨rfl, rfl⟩)
          · exact .inl ⟨rfl, rfl⟩
      have DGS := Lib.hid (show dg = true → rv = b.toNat ∧ p' = pos + 1 ∧ isD b.toNat = true from fun q => by
        have e1 := HDG.out
        rw [q] at e1
        have e2 := HRI.out
        unfold isR at e1
        have e3 : 48 ≤ ri ∧ ri ≤ 57 := by
          have := e1.symm
          rw [Bool.and_eq_true, decide_eq_true_iff, decide_eq_true_iff] at this
          exact this
        rcases HD.out with h | h
        · exact ⟨h.1, h.2, by rw [← h.1]; exact decide_eq_true (by omega)⟩
        · omega)
      have DGN := Lib.hid (show dg = false → rv < 128 → isD rv = false from fun q _ => by
        have e1 := HDG.out
        rw [q] at e1
        have e2 := HRI.out
        unfold isR at e1
        refine decide_eq_false (fun h => ?_)
        have e3 : (decide (48 ≤ ri) && decide (ri ≤ 57)) = true := by rw [Bool.and_eq_true, decide_eq_true_iff, decide_eq_true_iff]; omega
        rw [e3] at e1
        cases e1)
      clear HDG
      rcases CC with ⟨rfl, t1⟩ | CC
      · have E := Lib.hid (DGS.out rfl)
        have t1' := Lib.hid (of_decide_eq_true t1)
        obtain ⟨c0, cz⟩ := HC.out
        obtain ⟨m1, hm1⟩ : ∃ i : Int, i = ni * 10 := ⟨_, rfl⟩
        obtain ⟨di, hdi⟩ : ∃ i : Int, i = ri - 48 := ⟨_, rfl⟩
        obtain ⟨m2, hm2⟩ : ∃ i : Int, i = m1 + di := ⟨_, rfl⟩
        obtain ⟨k2, hk2⟩ : ∃ i : Int, i = ki + 1 := ⟨_, rfl⟩
        have FACT : (0 ≤ ni ∧ ni < 1000000000000000) ∧ (0 ≤ ki ∧ ki ≤ 15) ∧ (0 ≤ di ∧ di ≤ 9) := by
          have q1 := HI.out
          have q2 := HR.out.2
          have q3 := HS.out.2.2
          have q4 : n < 1000000000000000 := pow_most q2.2.1 q2.1 q3
          have q5 : k ≤ most := q2.1
          have q6 := E.out
          have q7 := of_decide_eq_true q6.2.2
          have q8 := HRI.out
          refine ⟨⟨by omega, by omega⟩, ⟨by omega, by omega⟩, ⟨by omega, by omega⟩⟩
        obtain ⟨⟨n1, n2⟩, ⟨k1, k3⟩, d1, d2⟩ := FACT
        have f1 : wrap64 (ni * 10) = m1 := by unfold wrap64; omega
        have g1 : IntKind.i64.wrap (ni * 10) = m1 := by rw [IntKind.wrap_i64]; omega
        have f2 : IntKind.i32.wrap (ri - 48) = di := by rw [IntKind.wrap_i32]; omega
        have f3 : IntKind.i64.wrap di = di := by rw [IntKind.wrap_i64]; omega
        have g3 : wrap64 di = di := by unfold wrap64; omega
        have f4 : wrap64 (m1 + di) = m2 := by unfold wrap64; omega
        have g4 : IntKind.i64.wrap (m1 + di) = m2 := by rw [IntKind.wrap_i64]; omega
        have f5 : wrap64 (ki + 1) = k2 := by unfold wrap64; omega
        have g5 : IntKind.i64.wrap (ki + 1) = k2 := by rw [IntKind.wrap_i64]; omega
        have REL := Lib.hid (show SmRel w s most us0 g (s.size - (pos + 1)) (.slice p us.length us.length) (.int .i64 ai) (.int .i64 m2) (.int .i64 k2) v1 from by
          obtain ⟨q1, q2, q3⟩ := HI.out
          obtain ⟨r1, r2, r3⟩ := E.out
          have r4 := HRI.out
          have r5 := of_decide_eq_true r3
          have st : stepU most b.toNat (a, n, k, us) = some (a, n * 10 + (b.toNat - 48), k + 1, us) := by
            unfold stepU
            rw [if_pos ⟨r3, by have := t1'.out; have := HS.out.2.1; show k < most; omega⟩]
          refine ⟨pos + 1, a, n * 10 + (b.toNat - 48), k + 1, us, p, rfl, by rw [q3], ?_, ?_, rfl, ?_, u3, Lib.hid ⟨?_, inv_step HR.out.2 st⟩, HX3, HB1⟩
          · congr 1; omega
          · congr 1; omega
          · have e := hit4.out
            rw [r2] at e
            exact e
          · rw [HM.out, runU_snoc HR.out.1, st])
        clear hm1 hdi hm2 hk2 n1 n2 k1 k3 d1 d2 HX3 DGS DGN HC HL HM HRI HR HD hit4 hsz3
        go_wp2
        go_roundg (s.size - (pos + 1))
        case measure => have := HP.out; omega
        case rel => exact REL.out
      · rcases CC with ⟨rfl, t1⟩ | rfl
        · have SN := Lib.hid (show ∀ z, findU us rv = z → (z = none ∨ k = 0) → sumU most s.data.toList us0 0 = none from fun z hz q => by
            have st : stepU most b.toNat (a, n, k, us) = none := by
              rcases HD.out with h | h
              · unfold stepU
                rw [← h.1, if_neg (fun e => by have := of_decide_eq_false t1; have := HI.out.1; have := HS.out.2.1; have : k < most := e.2; omega)]
                rw [hz]
                cases z with
                | none => rfl
                | some x =>
                  obtain ⟨z1, z2⟩ := x
                  have k0 : k = 0 := q.elim (fun e => absurd e (by simp)) id
                  show (if k = 0 then none else _) = none
                  rw [if_pos k0]
              · exact step_high (t := (a, n, k, us)) HR.out.2.2.2.2 h.2
            unfold sumU
            rw [HL.out, runU_stop HR.out.1 st]
            rfl)
          have SY := Lib.hid (show ∀ z vs, findU us rv = some (z, vs) → k ≠ 0 → (p' = pos + 1 ∧ stepU most b.toNat (a, n, k, us) = some (a + n * z, 0, 0, vs)) from fun z vs hz q => by
            have lo := (low_find HR.out.2.2.2.2 hz).2
            rcases HD.out with h | h
            · refine ⟨h.2, ?_⟩
              unfold stepU
              rw [← h.1, if_neg (fun e => by have := of_decide_eq_false t1; have := HI.out.1; have := HS.out.2.1; have : k < most := e.2; omega)]
              rw [hz]
              show (if k = 0 then none else some (a + n * z, 0, 0, vs)) = _
              rw [if_neg q]
            · omega)
          obtain ⟨c0, cz⟩ := HC.out
          have IX := Lib.hid (show ∀ W, Below v1.heap.size v1 W → Calls Tryd.prog 69 #[.slice p us.length us.length, .func (.func 70) #[] #[.pointer (some ⟨BB, 0, none⟩)]] W (fun e w' => IxP us rv e ∧ Below W.heap.size W w') from fun W hb => by
            have c0' : W.cell? ⟨BB, 0, none⟩ = some (.int .i32 (rv : Int)) := by rw [← HRI.out]; exact ((bcell hb).1 _ _ cz).trans c0
            by_cases q : us = []
            · exact index_any us u3 p g 0 BB rv W (fun e => absurd q e) (fun e => absurd q e) (Nat.lt_of_lt_of_le cz hb.size) c0'
            · obtain ⟨o, e, H⟩ := HX3.out q
              exact index_any us u3 p g o BB rv W (fun _ => e) (fun _ => H.below hb) (Nat.lt_of_lt_of_le cz hb.size) c0')
          clear DGS DGN HRI HL HD
          go_wp2_with fail
          refine (IX.out _ (Below.refl _ _)).mono ?_
          rintro e v2 ⟨hx, hb⟩
          have HX4 := Lib.hid (show us ≠ [] → ∃ o, p = some ⟨g, o, none⟩ ∧ HoldsU v2 g o us from fun q => by
            obtain ⟨o, e, H⟩ := HX3.out q
            exact ⟨o, e, H.below hb⟩)
          have hit5 := Lib.hid ((hb.block _ hsz3.out).trans hit4.out)
          have HB2 := bstep HB1 hb
          clear HX3 hit4 HB1 hb IX c0 cz HC
          rcases hx with ⟨hn, rfl⟩ | ⟨kk, hk, hf, rfl⟩
          · have NONE := Lib.hid (SN.out _ hn (.inl rfl))
            clear SN SY HX4 hit5 hn HP HI HR HM
            go_wp2
            refine ret_via (v := .tuple #[.int .i64 0, .bool false]) (fun _ => True) (fun VF _ => ?_) trivial rfl ⟨by rw [NONE.out]; rfl, HB2⟩
            simp [results, Tryd.results51, go_sem, *]
          · have i1 : decide ((kk : Int) < 0) = false := decide_eq_false (by omega)
            by_cases k0 : k = 0
            · have NONE := Lib.hid (SN.out _ hf (.inr k0))
              have t2 : (ki == 0) = true := by have := HI.out.1; rw [beq_iff_eq]; omega
              clear SN SY HX4 hit5 hf HP HI HR HM k0
              go_wp2
              refine ret_via (v := .tuple #[.int .i64 0, .bool false]) (fun _ => True) (fun VF _ => ?_) trivial rfl ⟨by rw [NONE.out]; rfl, HB2⟩
              simp [results, Tryd.results51, go_sem, *]
            · have t2 : (ki == 0) = false := by have := HI.out.1; rw [beq_eq_false_iff_ne]; omega
              obtain ⟨pe, st⟩ := SY.out _ _ hf k0
              have ST := Lib.hid st
              have PE := Lib.hid pe
              have HF := Lib.hid hf
              have NEU : us ≠ [] := by intro e; rw [e] at hk; simp at hk
              obtain ⟨o, pq, U⟩ := HX4.out NEU
              obtain ⟨-, x2⟩ := U.1 kk hk
              have xz := U.2
              have HUD := Lib.hid (U.drop (kk + 1))
              have BND := inv_mul HR.out.2 hf
              have HND := Lib.hid (show vs_len us kk from ⟨by rw [List.length_drop], hk⟩)
              generalize (us.getD kk (0, 0)).2 = z at *
              subst pq
              obtain ⟨j, hj⟩ : ∃ j, j = kk + 1 := ⟨_, rfl⟩
              have jj : (kk : Int) + 1 = (j : Int) := by rw [hj]; rfl
              have j9 : I64 (j : Int) := by unfold I64; omega
              have f3 : wrap64 ((kk : Int) + 1) = (j : Int) := by rw [jj]; exact j9.wrap'
              have g3 : IntKind.i64.wrap ((kk : Int) + 1) = (j : Int) := by rw [jj]; exact j9.wrap
              clear jj j9
              obtain ⟨L, hL⟩ : ∃ L, L = us.length := ⟨_, rfl⟩
              rw [← hL] at hk u3 ⊢
              have l1 : j ≤ L := by omega
              have l2 : (0 : Int) ≤ (kk : Int) ∧ (kk : Int) < (L : Int) := by omega
              have l3 : (0 : Int) ≤ (j : Int) := by omega
              have l4 : (j : Int) ≤ (L : Int) := by omega
              obtain ⟨zi, hzi⟩ : ∃ i : Int, i = (z : Int) := ⟨_, rfl⟩
              rw [← hzi] at x2
              obtain ⟨m1, hm1⟩ : ∃ i : Int, i = ni * zi := ⟨_, rfl⟩
              obtain ⟨m2, hm2⟩ : ∃ i : Int, i = ai + m1 := ⟨_, rfl⟩
              have FA : (m1 = ((n * z : Nat) : Int)) ∧ m2 = ((a + n * z : Nat) : Int) := by
                have q := HI.out
                have e1 : m1 = ((n * z : Nat) : Int) := by rw [hm1, hzi, q.2.1]; exact (Int.natCast_mul n z).symm
                exact ⟨e1, by rw [hm2, e1, q.2.2]; exact (Int.natCast_add a (n * z)).symm⟩
              have B1 : (0 ≤ m1 ∧ m1 ≤ 1000000000000000000) ∧ (0 ≤ m2 ∧ m2 ≤ 1000000000000000000) := by
                have b0 : a + n * z ≤ 1000000000000000000 := Nat.le_trans BND.1 (by decide)
                obtain ⟨e1, e2⟩ := FA
                generalize n * z = q at *
                clear hm1 hm2 hzi BND f3 g3
                refine ⟨⟨by omega, by omega⟩, by omega, by omega⟩
              have f1 : wrap64 m1 = m1 := by clear hm1 hm2 FA f3 g3; unfold wrap64; omega
              have g1 : IntKind.i64.wrap m1 = m1 := by clear hm1 hm2 FA f3 g3 f1; rw [IntKind.wrap_i64]; omega
              rw [hm1] at f1 g1
              have f1' : wrap64 (ni * zi) = m1 := f1.trans hm1.symm
              have g1' : IntKind.i64.wrap (ni * zi) = m1 := g1.trans hm1.symm
              have f2 : wrap64 m2 = m2 := by clear hm1 hm2 FA f3 g3 f1' g1' f1 g1; unfold wrap64; omega
              have g2 : IntKind.i64.wrap m2 = m2 := by clear hm1 hm2 FA f3 g3 f1' g1' f1 g1 f2; rw [IntKind.wrap_i64]; omega
              have f2' : wrap64 (ai + m1) = m2 := by rw [← hm2]; exact f2
              have g2' : IntKind.i64.wrap (ai + m1) = m2 := by rw [← hm2]; exact g2
              have HA := Lib.hid FA
              clear f1 g1 f2 g2 B1 BND FA hm1 hm2 hzi
              have HJ := Lib.hid (And.intro hj hL)
              clear hj hL st pe hf k0 SN SY U NEU
              have REL := Lib.hid (show SmRel w s most us0 g (s.size - (pos + 1)) (.slice (if L = j then some ⟨g, o, none⟩ else some ⟨g, o + j * 2, none⟩) (L - j) (L - j)) (.int .i64 m2) (.int .i64 0) (.int .i64 0) v2.drew from by
                obtain ⟨j1, j2⟩ := HJ.out
                obtain ⟨d1, d2⟩ := HND.out
                have dl : (us.drop (kk + 1)).length = L - j := by rw [d1, j1, j2]
                refine ⟨pos + 1, a + n * z, 0, 0, us.drop (kk + 1), (if L = j then some ⟨g, o, none⟩ else some ⟨g, o + j * 2, none⟩), by rw [dl], by rw [HA.out.2], rfl, rfl, rfl, ?_, by rw [dl]; omega, Lib.hid ⟨?_, inv_step HR.out.2 ST.out⟩, Lib.hid (fun q => ?_), Below.drew HB2⟩
                · have e := hit5.out
                  rw [PE.out] at e
                  exact e
                · rw [HM.out, runU_snoc HR.out.1, ST.out]
                · have ne : ¬ L = j := by
                    intro e
                    exact q (List.length_eq_zero_iff.1 (by rw [dl]; omega))
                  rw [if_neg ne, j1]
                  exact ⟨_, rfl, HUD.out⟩)
              clear HJ HND HA HUD hit5 HB2 PE ST HF HI HR HM
              go_wp2
              go_region
              all_goals
                generalize (if L = j then some (⟨g, o, none⟩ : Addr) else some ⟨g, o + j * 2, none⟩) = pp at REL ⊢
                go_wp2
                go_roundg (s.size - (pos + 1))
                case measure => have := HP.out; omega
                case rel => exact REL.out
        · have SN := Lib.hid (show ∀ z, findU us rv = z → (z = none ∨ k = 0) → sumU most s.data.toList us0 0 = none from fun z hz q => by
            have st : stepU most b.toNat (a, n, k, us) = none := by
              rcases HD.out with h | h
              · unfold stepU
                rw [← h.1, if_neg (fun e => by have q57 := of_decide_eq_true e.1; rw [DGN.out rfl (by omega)] at e; exact absurd e.1 (by decide))]
                rw [hz]
                cases z with
                | none => rfl
                | some x =>
                  obtain ⟨z1, z2⟩ := x
                  have k0 : k = 0 := q.elim (fun e => absurd e (by simp)) id
                  show (if k = 0 then none else _) = none
                  rw [if_pos k0]
              · exact step_high (t := (a, n, k, us)) HR.out.2.2.2.2 h.2
            unfold sumU
            rw [HL.out, runU_stop HR.out.1 st]
            rfl)
          have SY := Lib.hid (show ∀ z vs, findU us rv = some (z, vs) → k ≠ 0 → (p' = pos + 1 ∧ stepU most b.toNat (a, n, k, us) = some (a + n * z, 0, 0, vs)) from fun z vs hz q => by
            have lo := (low_find HR.out.2.2.2.2 hz).2
            rcases HD.out with h | h
            · refine ⟨h.2, ?_⟩
              unfold stepU
              rw [← h.1, if_neg (fun e => by have q57 := of_decide_eq_true e.1; rw [DGN.out rfl (by omega)] at e; exact absurd e.1 (by decide))]
              rw [hz]
              show (if k = 0 then none else some (a + n * z, 0, 0, vs)) = _
              rw [if_neg q]
            · omega)
          obtain ⟨c0, cz⟩ := HC.out
          have IX := Lib.hid (show ∀ W, Below v1.heap.size v1 W → Calls Tryd.prog 69 #[.slice p us.length us.length, .func (.func 70) #[] #[.pointer (some ⟨BB, 0, none⟩)]] W (fun e w' => IxP us rv e ∧ Below W.heap.size W w') from fun W hb => by
            have c0' : W.cell? ⟨BB, 0, none⟩ = some (.int .i32 (rv : Int)) := by rw [← HRI.out]; exact ((bcell hb).1 _ _ cz).trans c0
            by_cases q : us = []
            · exact index_any us u3 p g 0 BB rv W (fun e => absurd q e) (fun e => absurd q e) (Nat.lt_of_lt_of_le cz hb.size) c0'
            · obtain ⟨o, e, H⟩ := HX3.out q
              exact index_any us u3 p g o BB rv W (fun _ => e) (fun _ => H.below hb) (Nat.lt_of_lt_of_le cz hb.size) c0')
          clear DGS DGN HRI HL HD
          go_wp2_with fail
          refine (IX.out _ (Below.refl _ _)).mono ?_
          rintro e v2 ⟨hx, hb⟩
          have HX4 := Lib.hid (show us ≠ [] → ∃ o, p = some ⟨g, o, none⟩ ∧ HoldsU v2 g o us from fun q => by
            obtain ⟨o, e, H⟩ := HX3.out q
            exact ⟨o, e, H.below hb⟩)
          have hit5 := Lib.hid ((hb.block _ hsz3.out).trans hit4.out)
          have HB2 := bstep HB1 hb
          clear HX3 hit4 HB1 hb IX c0 cz HC
          rcases hx with ⟨hn, rfl⟩ | ⟨kk, hk, hf, rfl⟩
          · have NONE := Lib.hid (SN.out _ hn (.inl rfl))
            clear SN SY HX4 hit5 hn HP HI HR HM
            go_wp2
            refine ret_via (v := .tuple #[.int .i64 0, .bool false]) (fun _ => True) (fun VF _ => ?_) trivial rfl ⟨by rw [NONE.out]; rfl, HB2⟩
            simp [results, Tryd.results51, go_sem, *]
          · have i1 : decide ((kk : Int) < 0) = false := decide_eq_false (by omega)
            by_cases k0 : k = 0
            · have NONE := Lib.hid (SN.out _ hf (.inr k0))
              have t2 : (ki == 0) = true := by have := HI.out.1; rw [beq_iff_eq]; omega
              clear SN SY HX4 hit5 hf HP HI HR HM k0
              go_wp2
              refine ret_via (v := .tuple #[.int .i64 0, .bool false]) (fun _ => True) (fun VF _ => ?_) trivial rfl ⟨by rw [NONE.out]; rfl, HB2⟩
              simp [results, Tryd.results51, go_sem, *]
            · have t2 : (ki == 0) = false := by have := HI.out.1; rw [beq_eq_false_iff_ne]; omega
              obtain ⟨pe, st⟩ := SY.out _ _ hf k0
              have ST := Lib.hid st
              have PE := Lib.hid pe
              have HF := Lib.hid hf
              have NEU : us ≠ [] := by intro e; rw [e] at hk; simp at hk
              obtain ⟨o, pq, U⟩ := HX4.out NEU
              obtain ⟨-, x2⟩ := U.1 kk hk
              have xz := U.2
              have HUD := Lib.hid (U.drop (kk + 1))
              have BND := inv_mul HR.out.2 hf
              have HND := Lib.hid (show vs_len us kk from ⟨by rw [List.length_drop], hk⟩)
              generalize (us.getD kk (0, 0)).2 = z at *
              subst pq
              obtain ⟨j, hj⟩ : ∃ j, j = kk + 1 := ⟨_, rfl⟩
              have jj : (kk : Int) + 1 = (j : Int) := by rw [hj]; rfl
              have j9 : I64 (j : Int) := by unfold I64; omega
              have f3 : wrap64 ((kk : Int) + 1) = (j : Int) := by rw [jj]; exact j9.wrap'
              have g3 : IntKind.i64.wrap ((kk : Int) + 1) = (j : Int) := by rw [jj]; exact j9.wrap
              clear jj j9
              obtain ⟨L, hL⟩ : ∃ L, L = us.length := ⟨_, rfl⟩
              rw [← hL] at hk u3 ⊢
              have l1 : j ≤ L := by omega
              have l2 : (0 : Int) ≤ (kk : Int) ∧ (kk : Int) < (L : Int) := by omega
              have l3 : (0 : Int) ≤ (j : Int) := by omega
              have l4 : (j : Int) ≤ (L : Int) := by omega
              obtain ⟨zi, hzi⟩ : ∃ i : Int, i = (z : Int) := ⟨_, rfl⟩
              rw [← hzi] at x2
              obtain ⟨m1, hm1⟩ : ∃ i : Int, i = ni * zi := ⟨_, rfl⟩
              obtain ⟨m2, hm2⟩ : ∃ i : Int, i = ai + m1 := ⟨_, rfl⟩
              have FA : (m1 = ((n * z : Nat) : Int)) ∧ m2 = ((a + n * z : Nat) : Int) := by
                have q := HI.out
                have e1 : m1 = ((n * z : Nat) : Int) := by rw [hm1, hzi, q.2.1]; exact (Int.natCast_mul n z).symm
                exact ⟨e1, by rw [hm2, e1, q.2.2]; exact (Int.natCast_add a (n * z)).symm⟩
              have B1 : (0 ≤ m1 ∧ m1 ≤ 1000000000000000000) ∧ (0 ≤ m2 ∧ m2 ≤ 1000000000000000000) := by
                have b0 : a + n * z ≤ 1000000000000000000 := Nat.le_trans BND.1 (by decide)
                obtain ⟨e1, e2⟩ := FA
                generalize n * z = q at *
                clear hm1 hm2 hzi BND f3 g3
                refine ⟨⟨by omega, by omega⟩, by omega, by omega⟩
              have f1 : wrap64 m1 = m1 := by clear hm1 hm2 FA f3 g3; unfold wrap64; omega
              have g1 : IntKind.i64.wrap m1 = m1 := by clear hm1 hm2 FA f3 g3 f1; rw [IntKind.wrap_i64]; omega
              rw [hm1] at f1 g1
              have f1' : wrap64 (ni * zi) = m1 := f1.trans hm1.symm
              have g1' : IntKind.i64.wrap (ni * zi) = m1 := g1.trans hm1.symm
              have f2 : wrap64 m2 = m2 := by clear hm1 hm2 FA f3 g3 f1' g1' f1 g1; unfold wrap64; omega
              have g2 : IntKind.i64.wrap m2 = m2 := by clear hm1 hm2 FA f3 g3 f1' g1' f1 g1 f2; rw [IntKind.wrap_i64]; omega
              have f2' : wrap64 (ai + m1) = m2 := by rw [← hm2]; exact f2
              have g2' : IntKind.i64.wrap (ai + m1) = m2 := by rw [← hm2]; exact g2
              have HA := Lib.hid FA
              clear f1 g1 f2 g2 B1 BND FA hm1 hm2 hzi
              have HJ := Lib.hid (And.intro hj hL)
              clear hj hL st pe hf k0 SN SY U NEU
              have REL := Lib.hid (show SmRel w s most us0 g (s.size - (pos + 1)) (.slice (if L = j then some ⟨g, o, none⟩ else some ⟨g, o + j * 2, none⟩) (L - j) (L - j)) (.int .i64 m2) (.int .i64 0) (.int .i64 0) v2.drew from by
                obtain ⟨j1, j2⟩ := HJ.out
                obtain ⟨d1, d2⟩ := HND.out
                have dl : (us.drop (kk + 1)).length = L - j := by rw [d1, j1, j2]
                refine ⟨pos + 1, a + n * z, 0, 0, us.drop (kk + 1), (if L = j then some ⟨g, o, none⟩ else some ⟨g, o + j * 2, none⟩), by rw [dl], by rw [HA.out.2], rfl, rfl, rfl, ?_, by rw [dl]; omega, Lib.hid ⟨?_, inv_step HR.out.2 ST.out⟩, Lib.hid (fun q => ?_), Below.drew HB2⟩
                · have e := hit5.out
                  rw [PE.out] at e
                  exact e
                · rw [HM.out, runU_snoc HR.out.1, ST.out]
                · have ne : ¬ L = j := by
                    intro e
                    exact q (List.length_eq_zero_iff.1 (by rw [dl]; omega))
                  rw [if_neg ne, j1]
                  exact ⟨_, rfl, HUD.out⟩)
              clear HJ HND HA HUD hit5 HB2 PE ST HF HI HR HM
              go_wp2
              go_region
              all_goals
                generalize (if L = j then some (⟨g, o, none⟩ : Addr) else some ⟨g, o + j * 2, none⟩) = pp at REL ⊢
                go_wp2
                go_roundg (s.size - (pos + 1))
                case measure => have := HP.out; omega
                case rel => exact REL.out
    · have hnx : ∀ ty, (Instr.next (.pointer (some ⟨w.heap.size, 0, none⟩)) true ty).run Tryd.prog wr = _ := fun ty => Lib.run_next_end_at wr w.heap.size s pos ty hit hlt
      have FULL := Lib.hid (show runU most s.data.toList (0, 0, 0, us0) = some (a, n, k, us) from by
        have full : s.data.toList.take pos = s.data.toList := List.take_of_length_le (by show s.size ≤ pos; omega)
        rw [← full]; exact HR.out.1)
      by_cases k0 : k = 0
      · have RES := Lib.hid (show sumU most s.data.toList us0 0 = some a from by unfold sumU; rw [FULL.out]; show (if k = 0 then some a else none) = some a; rw [if_pos k0])
        subst k0
        clear hit FULL HR hlt hp HS HX hsz
        go_wp2
        refine ret_via (v := .tuple #[.int .i64 (a : Int), .bool true]) (fun _ => True) (fun VF _ => ?_) trivial rfl ⟨by rw [RES.out]; rfl, HB⟩
        simp [results, Tryd.results51, go_sem, *]
      · have RES := Lib.hid (show sumU most s.data.toList us0 0 = none from by unfold sumU; rw [FULL.out]; show (if k = 0 then some a else none) = none; rw [if_neg k0])
        have t1 : ((k : Int) != 0) = true := by simpa using k0
        clear hit FULL HR hlt hp HS HX hsz k0
        go_wp2
        refine ret_via (v := .tuple #[.int .i64 0, .bool false]) (fun _ => True) (fun VF _ => ?_) trivial rfl ⟨by rw [RES.out]; rfl, HB⟩
        simp [results, Tryd.results51, go_sem, *]
end Go.Proofs.YthgondbiddncpaaDoor

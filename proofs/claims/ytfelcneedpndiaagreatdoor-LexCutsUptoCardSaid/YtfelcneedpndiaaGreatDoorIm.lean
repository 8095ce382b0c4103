/-
  The document's answer of layer 16: one, as a contract of its call.
-/
import Derived.Test.YtfelcneedpndiaaGreatDoorIj
import Derived.Test.YtfelcneedpndiaaGreatDoorIk
import Derived.Test.YtfelcneedpndiaaGreatDoorIl
import Derived.Deep.DeepCutAuto
namespace Go.Proofs.YtfelcneedpndiaaGreatDoor
open Go.RowKit Go.Lib

/-- A token as it lies in a block -/
abbrev Tk (c : Int) (s : ByteArray) (q : Int) : Value := .agg #[.int .i64 c, .string s, .int .i64 q]
abbrev TkC (c : Int) (s : ByteArray) (q : Int) : Obj := .cells #[.int .i64 c, .string s, .int .i64 q] 36
def HoldsTk (W : World) (g : Nat) (c : Int) (s : ByteArray) (q : Int) : Prop := (W.cell? ⟨g, 0, none⟩ = some (.int .i64 c) ∧ W.cell? ⟨g, 1, none⟩ = some (.string s) ∧ W.cell? ⟨g, 2, none⟩ = some (.int .i64 q)) ∧ (W.frozen? ⟨g, 0, none⟩ = false ∧ W.frozen? ⟨g, 1, none⟩ = false ∧ W.frozen? ⟨g, 2, none⟩ = false) ∧ g < W.heap.size
theorem HoldsTk.below {W W' : World} {g : Nat} {c : Int} {s : ByteArray} {q : Int} (H : HoldsTk W g c s q) (hb : Below W.heap.size W W') : HoldsTk W' g c s q := by
  obtain ⟨⟨a0, a1, a2⟩, ⟨b0, b1, b2⟩, k⟩ := H
  obtain ⟨hc, hf⟩ := bcell hb
  exact ⟨⟨(hc _ _ k).trans a0, (hc _ _ k).trans a1, (hc _ _ k).trans a2⟩, ⟨(hf _ _ k).trans b0, (hf _ _ k).trans b1, (hf _ _ k).trans b2⟩, Nat.lt_of_lt_of_le k hb.size⟩
theorem HoldsTk.alloc {W : World} {g : Nat} {c : Int} {s : ByteArray} {q : Int} (H : HoldsTk W g c s q) (x : Obj) : HoldsTk (W.alloc x) g c s q := H.below ((Below.refl _ _).alloc (Nat.le_refl _) x)
theorem HoldsTk.drew {W : World} {g : Nat} {c : Int} {s : ByteArray} {q : Int} (H : HoldsTk W g c s q) : HoldsTk W.drew g c s q := H
theorem HoldsTk.new {W : World} {g t : Nat} {c : Int} {s : ByteArray} {q : Int} (hg : g = W.heap.size) : HoldsTk (W.alloc (.cells #[.int .i64 c, .string s, .int .i64 q] t)) g c s q := by
  subst hg
  simp [HoldsTk, go_sem]
theorem HoldsTk.far {W : World} {g : Nat} {c : Int} {s : ByteArray} {q : Int} (H : HoldsTk W g c s q) {p : Addr} (hp : g ≠ p.block) (u : Value) : HoldsTk (W.setCell p u) g c s q := by
  obtain ⟨⟨a0, a1, a2⟩, ⟨b0, b1, b2⟩, k⟩ := H
  have n := Below.heap_setCell W p u g hp
  exact ⟨⟨(World.cell?_of_block (a := ⟨g, 0, none⟩) n).trans a0, (World.cell?_of_block (a := ⟨g, 1, none⟩) n).trans a1, (World.cell?_of_block (a := ⟨g, 2, none⟩) n).trans a2⟩, ⟨(World.frozen?_of_block (a := ⟨g, 0, none⟩) n).trans b0, (World.frozen?_of_block (a := ⟨g, 1, none⟩) n).trans b1, (World.frozen?_of_block (a := ⟨g, 2, none⟩) n).trans b2⟩, by simpa using k⟩
theorem HoldsTk.put {W : World} {g : Nat} {c : Int} {s : ByteArray} {p c' : Int} {s' : ByteArray} {p' : Int} (H : HoldsTk W g c s p) : HoldsTk (((W.setCell ⟨g, 0, none⟩ (.int .i64 c')).setCell ⟨g, 1, none⟩ (.string s')).setCell ⟨g, 2, none⟩ (.int .i64 p')) g c' s' p' := by
  obtain ⟨⟨a, b, c⟩, ⟨a', b', c'⟩, s⟩ := H
  simp [HoldsTk, go_sem, *]
theorem BI3 {w W : World} {g : Nat} (B : Below w.heap.size w W) (hg : w.heap.size ≤ g) (x y z : Value) : Below w.heap.size w (((W.setCell ⟨g, 0, none⟩ x).setCell ⟨g, 1, none⟩ y).setCell ⟨g, 2, none⟩ z) := ((B.setCell hg _).setCell hg _).setCell hg _
theorem dw_le (p : Nat → Bool) : ∀ S : List Nat, (S.dropWhile p).length ≤ S.length
  | [] => by simp
  | c :: t => by
    rw [List.dropWhile_cons]
    split
    · have := dw_le p t; rw [List.length_cons]; omega
    · simp
theorem digS_le (S : List Nat) : (digS S).length ≤ S.length := dw_le _ S
theorem xpS_le (b : List Nat) : (xpS b).length ≤ b.length := by
  unfold xpS
  by_cases h : hd b = 69
  · rw [if_pos h]
    have he : (if hd (b.drop 1) = 43 ∨ hd (b.drop 1) = 45 then b.drop 2 else b.drop 1).length ≤ b.length := by split <;> simp
    dsimp only
    generalize (if hd (b.drop 1) = 43 ∨ hd (b.drop 1) = 45 then b.drop 2 else b.drop 1) = e at *
    split
    · exact Nat.le_trans (digS_le e) he
    · exact Nat.le_refl _
  · rw [if_neg h]
    exact Nat.le_refl _
theorem numS_lt {S : List Nat} (h : digR (hd S) = true ∨ (hd S = 46 ∧ digR (hd (S.drop 1)) = true)) : (numS S).length < S.length := by
  rcases S with _ | ⟨c, t⟩
  · exfalso
    rcases h with h | h
    · simp [hd, digR] at h
    · simp [hd] at h
  rw [numS_xp]
  refine Nat.lt_of_le_of_lt (xpS_le _) ?_
  by_cases hc : digR c = true
  · have e : digS (c :: t) = digS t := by rw [digS_cons, if_pos hc]
    have a := digS_le t
    rw [e, List.length_cons]
    split
    · have b := digS_le ((digS t).drop 1)
      rw [List.length_drop] at b
      omega
    · omega
  · have e : digS (c :: t) = c :: t := by rw [digS_cons, if_neg hc]
    rcases h with h | ⟨h1, h2⟩
    · exact absurd h hc
    · rw [e, if_pos ⟨h1, h2⟩]
      have b := digS_le ((c :: t).drop 1)
      simp at b ⊢
      omega
theorem take_dw (p : Nat → Bool) (L : List Nat) (k e : Nat) (hk : k ≤ e) (he : e ≤ L.length) (h : L.drop e = (L.drop k).dropWhile p) : (L.drop k).takeWhile p = (L.drop k).take (e - k) := by
  have a := List.takeWhile_append_dropWhile (p := p) (l := L.drop k)
  have l1 := congrArg List.length a
  rw [List.length_append, ← h, List.length_drop, List.length_drop] at l1
  conv => rhs; rw [← a]
  rw [List.take_append_of_le_length (by omega), List.take_of_length_le (by omega)]
/-- What one answers. -/
def RetOne (L : List Nat) (q : Option (Nat × List Nat × List Nat)) (k : Nat) (w : World) (e : Ending) (w' : World) : Prop :=
  ∃ (c : Int) (s : ByteArray) (j : Nat) (ok : Bool), e = .returned (.tuple #[Tk c s (k : Int), .int .i64 (j : Int), .bool ok]) ∧ Below w.heap.size w w' ∧ s.size ≤ 140737488355328 ∧
    (match q with | none => ok = false | some (d, T, R) => ok = true ∧ c = (d : Int) ∧ s = ⟨(enc T).toArray⟩ ∧ k < j ∧ j ≤ L.length ∧ L.drop j = R)
theorem oneS_letter {S : List Nat} (h : letR (hd S) = true) : oneS S = some (1, S.takeWhile wordR, S.dropWhile wordR) := by unfold oneS; rw [if_pos h]
theorem enc_take_size (L : List Nat) (a e : Nat) (hL : L.length ≤ 17592186044416) : (enc ((L.drop a).take (e - a))).length ≤ 70368744177664 := by
  have h := (enc_length_le ((L.drop a).take (e - a))).2
  have : ((L.drop a).take (e - a)).length ≤ L.length := by rw [List.length_take, List.length_drop]; omega
  omega
set_option linter.unusedVariables false in
set_option linter.unusedSimpArgs false in
set_option maxRecDepth 100000 in
set_option maxHeartbeats 8000000 in
/-- A word. -/
theorem one_letter (b : Nat) (v : Value) (L : List Nat) (k : Nat) (hk : k < L.length) (hV : Vrs L) (hL : L.length ≤ 17592186044416) (w : World) (h : RowN b w v L) (hl : letR (L.getD k 0) = true) :
    Calls Tryz.prog 13 #[v, .int .i64 (k : Int)] w (RetOne L (oneS (L.drop k)) k w) := by
  have H := Lib.hid h
  have HV := Lib.hid hV
  have LT := Lib.hid (show ∀ (j : Nat) (W : World), Calls Tryz.prog 27 #[.int .i32 ((L.getD j 0 : Nat) : Int)] W (RetSm (.bool (letR (L.getD j 0))) W) from fun j W => letter_ref (L.getD j 0) (getD_vr hV j) W)
  have DI := Lib.hid (show ∀ (j : Nat) (W : World), Calls Tryz.prog 28 #[.int .i32 ((L.getD j 0 : Nat) : Int)] W (RetSm (.bool (digR (L.getD j 0))) W) from fun j W => digit_ref (L.getD j 0) (getD_vr hV j) W)
  have OS := Lib.hid (oneS_letter (S := L.drop k) (by rw [hd_drop]; exact hl))
  have WK := Lib.hid (show wordR (L.getD k 0) = true from by unfold wordR; rw [hl]; rfl)
  obtain ⟨A, cap, rfl⟩ := h.sl2
  obtain ⟨g, rfl, h4, h5, h6, c⟩ := h.cell2 hk
  have h6' : cap ≤ 9223372036854775807 := h6
  have LTk := LT.out k
  rw [hl] at LTk
  have LTk' := Lib.hid LTk
  clear LTk hV h hl
  go_enter Tryz.func13, Tryz.ntmps13
  go_upto_region 1 with fail
  have TK := Lib.hid (HoldsTk.new rfl : HoldsTk (w.alloc (TkC 0 ⟨#[]⟩ 0)) w.heap.size 0 ⟨#[]⟩ 0)
  have B := ballD1 (Below.refl w.heap.size w) (TkC 0 ⟨#[]⟩ 0)
  change Code.wp _ _ _ _ (w.alloc (TkC 0 ⟨#[]⟩ 0))
  have H0 := Lib.hid (H.out.below ((Below.refl _ _).alloc (Nat.le_refl _) (TkC 0 ⟨#[]⟩ 0)))
  generalize w.alloc (TkC 0 ⟨#[]⟩ 0) = w0 at *
  obtain ⟨g0, e0, k4, k5, k6, c0⟩ := H0.out.cell2 hk
  injection e0 with e0
  injection e0 with e0
  subst e0
  clear c
  generalize hr : L.getD k 0 = r at c0 LTk'
  go_wp2_with (go_at_call 27; (with_reducible refine (LTk'.out _).mono ?_); rintro e w1 ⟨rfl, rfl⟩)
  go_loopg [8] L.length (fun gg i wr => ∃ j : Nat, w0 = wr ∧ k ≤ j ∧ j + gg = L.length + k ∧ j ≤ L.length ∧ i = .int .i64 (j : Int) ∧ Hid ((L.drop j).dropWhile wordR = (L.drop k).dropWhile wordR) ∧ Hid (j = k ∨ k < j))
  case atStart => exact ⟨k, rfl, by omega, by omega, by omega, rfl, Lib.hid rfl, Lib.hid (.inl rfl)⟩
  case round =>
    obtain ⟨j, rfl, h1, h2, h3, rfl, hS, hJ⟩ := hrel
    by_cases hlt : j < L.length
    · obtain ⟨g', e', l4, l5, l6, cj⟩ := H0.out.cell2 hlt
      injection e' with e'
      injection e' with e' e''
      subst e'
      have DC := Lib.hid (drop_cons L j hlt)
      have LTj := LT.out j w0
      have DIj := DI.out j w0
      by_cases x1 : letR (L.getD j 0) = true
      · have NX := Lib.hid (show (L.drop (j + 1)).dropWhile wordR = (L.drop k).dropWhile wordR from by
          rw [← hS.out, DC.out, List.dropWhile_cons, if_pos (by unfold wordR; rw [x1]; rfl)])
        rw [x1] at LTj
        have LTj' := Lib.hid LTj
        clear LTj DIj x1 DC
        generalize L.getD j 0 = r at *
        go_wp2_with (go_at_call 27; (with_reducible refine (LTj'.out).mono ?_); rintro e w1 ⟨rfl, rfl⟩)
        go_roundg (L.length + k - (j + 1))
        case measure => omega
        case rel => exact ⟨j + 1, rfl, by omega, by omega, by omega, by go_num, NX, Lib.hid (.inr (by omega))⟩
      · rw [Bool.not_eq_true] at x1
        by_cases x2 : digR (L.getD j 0) = true
        · have NX := Lib.hid (show (L.drop (j + 1)).dropWhile wordR = (L.drop k).dropWhile wordR from by
            rw [← hS.out, DC.out, List.dropWhile_cons, if_pos (by unfold wordR; rw [x2, Bool.or_true])])
          rw [x1] at LTj
          rw [x2] at DIj
          have LTj' := Lib.hid LTj
          have DIj' := Lib.hid DIj
          clear LTj DIj x1 x2 DC
          generalize L.getD j 0 = r at *
          go_wp2_with (first
            | (go_at_call 27; (with_reducible refine (LTj'.out).mono ?_); rintro e w1 ⟨rfl, rfl⟩)
            | (go_at_call 28; (with_reducible refine (DIj'.out).mono ?_); rintro e w1 ⟨rfl, rfl⟩))
          go_roundg (L.length + k - (j + 1))
          case measure => omega
          case rel => exact ⟨j + 1, rfl, by omega, by omega, by omega, by go_num, NX, Lib.hid (.inr (by omega))⟩
        · rw [Bool.not_eq_true] at x2
          have EX := Lib.hid (show L.drop j = (L.drop k).dropWhile wordR from by
            rw [← hS.out, DC.out, List.dropWhile_cons, if_neg (by unfold wordR; rw [x1, x2]; decide)])
          rw [x1] at LTj
          rw [x2] at DIj
          have LTj' := Lib.hid LTj
          have DIj' := Lib.hid DIj
          clear LTj DIj x1 x2 DC
          generalize L.getD j 0 = r at *
          have EQ := Lib.hid (take_dw wordR L k j h1 h3 EX.out)
          have jk := Lib.hid (show k < j from by
            have e := congrArg List.length EX.out
            rw [drop_cons L k (by omega), List.dropWhile_cons, if_pos WK.out, List.length_drop] at e
            have a := dw_le wordR (L.drop (k + 1))
            rw [List.length_drop] at a
            omega)
          have CT := Lib.hid (text_part _ _ w0 (by rw [part_len L k j h1 h3]; omega) (H0.out.part k j (cap - k) h1 h3))
          have ZS := enc_take_size L k j hL
          obtain ⟨X, hX⟩ : ∃ X, X = enc ((L.drop k).take (j - k)) := ⟨_, rfl⟩
          rw [← hX] at CT ZS
          have XE := Lib.hid hX
          clear hX
          go_wp2_with (first
            | (go_at_call 27; (with_reducible refine (LTj'.out).mono ?_); rintro e w1 ⟨rfl, rfl⟩)
            | (go_at_call 28; (with_reducible refine (DIj'.out).mono ?_); rintro e w1 ⟨rfl, rfl⟩)
            | (go_at_call 7; (with_reducible refine (CT.out).mono ?_); rintro e w2 ⟨rfl, hb2⟩; have TK2 := Lib.hid (TK.out.below hb2); obtain ⟨⟨t0, t1, t2⟩, ⟨f0, f1, f2⟩, tz⟩ := TK2.out))
          refine ret_via (v := .tuple #[Tk 1 ⟨X.toArray⟩ (k : Int), .int .i64 (j : Int), .bool true]) (fun V => HoldsTk V w.heap.size 1 ⟨X.toArray⟩ (k : Int)) (fun VF hq => ?_) TK2.out.put rfl ⟨1, _, j, true, rfl, BI3 (bstep B hb2) (Nat.le_refl _) _ _ _, by rw [sizeI]; omega, ?_⟩
          · obtain ⟨⟨x0, x1, x2⟩, -, -⟩ := hq
            simp [results, Tryz.results13, go_sem, x0, x1, x2, *]
          · rw [OS.out, EQ.out]
            exact ⟨rfl, rfl, by rw [XE.out], jk.out, h3, EX.out⟩
    · have jl : L.length ≤ j := by omega
      have EX := Lib.hid (show L.drop j = (L.drop k).dropWhile wordR from by rw [← hS.out, List.drop_eq_nil_of_le jl]; rfl)
      have EQ := Lib.hid (take_dw wordR L k j h1 h3 EX.out)
      have jk := Lib.hid (show k < j from by
        have e := congrArg List.length EX.out
        rw [drop_cons L k (by omega), List.dropWhile_cons, if_pos WK.out, List.length_drop] at e
        have a := dw_le wordR (L.drop (k + 1))
        rw [List.length_drop] at a
        omega)
      have CT := Lib.hid (text_part _ _ w0 (by rw [part_len L k j h1 h3]; omega) (H0.out.part k j (cap - k) h1 h3))
      have ZS := enc_take_size L k j hL
      obtain ⟨X, hX⟩ : ∃ X, X = enc ((L.drop k).take (j - k)) := ⟨_, rfl⟩
      rw [← hX] at CT ZS
      have XE := Lib.hid hX
      clear hX
      go_wp2_with (go_at_call 7; (with_reducible refine (CT.out).mono ?_); rintro e w2 ⟨rfl, hb2⟩; have TK2 := Lib.hid (TK.out.below hb2); obtain ⟨⟨t0, t1, t2⟩, ⟨f0, f1, f2⟩, tz⟩ := TK2.out)
      refine ret_via (v := .tuple #[Tk 1 ⟨X.toArray⟩ (k : Int), .int .i64 (j : Int), .bool true]) (fun V => HoldsTk V w.heap.size 1 ⟨X.toArray⟩ (k : Int)) (fun VF hq => ?_) TK2.out.put rfl ⟨1, _, j, true, rfl, BI3 (bstep B hb2) (Nat.le_refl _) _ _ _, by rw [sizeI]; omega, ?_⟩
      · obtain ⟨⟨x0, x1, x2⟩, -, -⟩ := hq
        simp [results, Tryz.results13, go_sem, x0, x1, x2, *]
      · rw [OS.out, EQ.out]
        exact ⟨rfl, rfl, by rw [XE.out], jk.out, h3, EX.out⟩
end Go.Proofs.YtfelcneedpndiaaGreatDoor

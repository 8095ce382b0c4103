/-
  KindsAll walked (layer 13).
-/
import Derived.Test.YtielmfchbgajnaaKAll
namespace Go.Proofs.Ytielmfchbgajnaa
open Go.RowKit Go.Shelf

theorem Part.under {w W W' : World} {xs : List Value} {n : Nat} {it : Nat → T} (h : Part (Sb Tr w) W xs n it) (b1 : Below w.heap.size w W) (b2 : Below w.heap.size w W') : Part (Sb Tr w) W' xs n it := fun j hj => by
  obtain ⟨k1, a1, n1, c1, b1', m1, d1, e0, e1, e2, l⟩ := h j hj
  exact ⟨k1, a1, n1, c1, b1', m1, d1, e0, e1, e2, l.turned fun g s _ => (b2.block g s.2).trans (b1.block g s.2).symm⟩
theorem row_items {w W : World} {al : Option Addr} {nl cl : Nat} {xs : List Value} {lt : Nat → T} (h : Part (Sb Tr w) W xs nl lt) (ho : W.ownsRow w.heap.size 26 3 (.slice al nl cl) nl xs) : ItemsAt (Sb Tr W) W al nl lt := by
  have h2 : Part Tr W xs nl lt := h.wide fun _ _ => trivial
  rcases ho.2 with ⟨e, e0⟩ | ⟨g, cap, cur, e, hg, hh, -⟩
  · intro i hi
    omega
  · injection e with e1 e2 e3
    subst e1 e3
    exact (h2.items ho trivial).wide fun g l _ => ⟨trivial, l⟩
theorem ItemsAt.on'' {w W : World} {a : Option Addr} {n : Nat} {it : Nat → T} (h : ItemsAt (Sb Tr w) w a n it) (hb : Below w.heap.size w W) : ItemsAt (Sb Tr w) W a n it := h.on hb
theorem part_one {S : Nat → Prop} {W : World} {k : Int} {a : Option Addr} {n c : Nat} {b : Option Addr} {m d : Nat} {t : T} (l : Lies S W (TV k a n c b m d) t) : Part S W [.int .i64 k, .slice a n c, .slice b m d] 1 (fun _ => t) := fun j hj => by
  obtain rfl : j = 0 := by omega
  exact ⟨k, a, n, c, b, m, d, rfl, rfl, rfl, l⟩
set_option linter.unusedSimpArgs false in
set_option linter.unusedVariables false in
set_option maxRecDepth 100000 in
set_option maxHeartbeats 8000000 in
theorem kindsall_walk (it : Nat → T) (a : Option Addr) (n c : Nat) (w : World) (hI : ItemsAt Tr w a n it) (hn : n ≤ 2513169434843) (hc : n ≤ c ∧ c ≤ maxLen) :
    Calls Try.prog 7 #[.slice a n c] w (Ret (.bool true) w) := by
  obtain ⟨i26, hi26, hz26, hs26, hb26⟩ := info_parts info26
  have NB : (n : Int) ≤ 9223372036854775806 := by omega
  have HI := Lib.hid (show ItemsAt (Sb Tr w) w a n it from hI.wide fun _ l s => ⟨s, l⟩)
  have HC := Lib.hid hc
  clear hI hn hc
  go_enter Try.func7, Try.ntmps7
  go_wp2_with (go_at_call 9; (with_reducible refine (awake_walk _).mono ?_); rintro e w1 ⟨rfl, hb1⟩)
  have HB1 := Lib.hid hb1
  clear hb1
  go_loopg [3, 4] n (fun gg l i wr => ∃ (ii nl : Nat) (al : Option Addr) (cl : Nat) (xs : List Value) (lt : Nat → T), ii ≤ n ∧ ii ≤ 6 ∧ nl ≤ ii ∧ n - ii ≤ gg ∧ i = .int .i64 (ii : Int) ∧ l = .slice al nl cl ∧ Hid (wr.ownsRow w.heap.size 26 3 (.slice al nl cl) nl xs) ∧ Hid (Part (Sb Tr w) wr xs nl lt) ∧ Hid (∀ j, j < nl → Ok (lt j)) ∧ Hid (Below w.heap.size w wr))
  case atStart => exact ⟨0, 0, none, 0, [], fun _ => .z, Nat.zero_le _, by omega, Nat.le_refl _, Nat.le_refl _, rfl, rfl, Lib.hid (World.ownsRow_nil _ _ _ _), Lib.hid (fun j hj => absurd hj (Nat.not_lt_zero _)), Lib.hid (fun j hj => absurd hj (Nat.not_lt_zero _)), HB1⟩
  case round =>
    clear HB1
    obtain ⟨ii, nl, al, cl, xs, lt, h1, h2, h3, hg, rfl, rfl, OW, PT, OK, HB⟩ := hrel
    by_cases hlt : ii < n ∧ ii < 6
    · obtain ⟨hl1, hl6⟩ := hlt
      obtain ⟨g4, o4, rfl, -, k4, a4, n4, c4, b4, m4, d4, ⟨u0, u1, u2⟩, L4⟩ := (HI.out.on'' HB.out) ii hl1
      have hlti : (0 : Int) ≤ (ii : Int) ∧ (ii : Int) < (n : Int) := by omega
      have hlt6 : (ii : Int) < 6 := by omega
      cases hv : mayB (it ii) with
      | true =>
        have MC := Lib.hid (may_at (it ii) true hv k4 a4 n4 c4 b4 m4 d4 wr (Lies.tr L4))
        have H4 := Lib.hid L4
        clear L4
        go_wp2_with (first
          | (go_at_call 15; (with_reducible refine MC.out.mono ?_); rintro e w5 ⟨rfl, hb5⟩; have v0 := cell_below u0 hb5; have v1 := cell_below u1 hb5; have v2 := cell_below u2 hb5; have OW5 := ownsRow_below OW.out hb5; have s5 := hb5.size; have s0 := HB.out.size)
          | (at_builtin; refine wpList_append_own _ rfl _ _ 23 rfl w.heap.size 26 i26 _ 3 56 Try.underlying23 hi26 hz26 hs26 hb26 rfl (by decide) (.slice al nl cl) nl xs rfl (OW5.alloc _) ⟨w5.heap.size, 0, none⟩ 1 1 [.int .i64 k4, .slice a4 n4 c4, .slice b4 m4 d4] rfl rfl ?c1 ?c2 ?c3 ?c4 ?c5 ?_))
        case c1 =>
          intro j u hj
          match j, hj with
          | 0, hj => simp at hj; subst hj; simp [Addr.add]
          | 1, hj => simp at hj; subst hj; simp [Addr.add]
          | 2, hj => simp at hj; subst hj; simp [Addr.add]
          | (j + 3), hj => simp at hj
        case c2 => intro u hu; simp at hu; rcases hu with rfl | rfl | rfl <;> rfl
        case c3 => unfold maxLen; omega
        case c4 => omega
        case c5 => simp; omega
        intro v' w6 hown' hgrow _
        have B6 := Lib.hid (show Below w.heap.size w w6 from ((bstep HB.out hb5).alloc (by omega) _).grown hgrow (by simp; omega) (fun k hk => ((OW5.alloc (.cells #[.int .i64 k4, .slice a4 n4 c4, .slice b4 m4 d4] 26)).lt k hk).1))
        obtain ⟨g, cap, rfl⟩ : ∃ g cap, v' = .slice (some ⟨g, 0, none⟩) (nl + 1) cap := by
          rcases hown'.2 with ⟨_, h0⟩ | ⟨g, cap, cur, hv, _⟩
          · omega
          · exact ⟨g, cap, hv⟩
        have OW6 := Lib.hid hown'
        have PT6 := Lib.hid ((PT.out.under HB.out B6.out).app OW.out.1 (part_one (H4.out.turned fun g s _ => (B6.out.block g s.2).trans (HB.out.block g s.2).symm)))
        have OK6 := Lib.hid (show ∀ j, j < nl + 1 → Ok ((fun i => if i < nl then lt i else (fun _ => it ii) (i - nl)) j) from fun j hj => by
          by_cases q : j < nl
          · simp only [if_pos q]; exact OK.out j q
          · simp only [if_neg q]; exact hv)
        clear hown' hgrow OW5 OW PT OK HB hb5 v0 v1 v2 u0 u1 u2 H4 MC hv
        go_wp2
        go_roundg (n - (ii + 1))
        case measure => omega
        case rel => exact ⟨ii + 1, nl + 1, _, cap, _, _, by omega, by omega, by omega, Nat.le_refl _, by go_num, rfl, OW6, PT6, OK6, B6⟩
      | false =>
        have MC := Lib.hid (may_at (it ii) false hv k4 a4 n4 c4 b4 m4 d4 wr (Lies.tr L4))
        clear L4
        go_wp2_with (go_at_call 15; (with_reducible refine MC.out.mono ?_); rintro e w5 ⟨rfl, hb5⟩)
        have OW5 := Lib.hid (ownsRow_below OW.out hb5)
        have HB5 := Lib.hid (bstep HB.out hb5)
        have PT5 := Lib.hid (PT.out.under HB.out HB5.out)
        clear OW PT HB hb5 u0 u1 u2 MC hv
        go_roundg (n - (ii + 1))
        case measure => omega
        case rel => exact ⟨ii + 1, nl, al, cl, xs, lt, by omega, by omega, by omega, Nat.le_refl _, by go_num, rfl, OW5, PT5, OK, HB5⟩
    · have ways : (¬ (ii : Int) < (n : Int)) ∨ ((ii : Int) < (n : Int) ∧ ii = 6) := by omega
      rcases ways with q | ⟨q, rfl⟩
      all_goals
        have ITM := Lib.hid (row_items PT.out OW.out)
        have OKS := OK.out
        have AO := Lib.hid (all_ok lt nl OKS)
        have AU := Lib.hid (all_up lt nl OKS)
        have OKH := Lib.hid OKS
        have AW := Lib.hid (all_walk wr al nl cl lt ITM.out (by omega))
        have NL : (nl : Int) ≤ 9223372036854775806 := by omega
        clear OKS OK PT OW
        go_upto_region 10 with (go_at_call 12; (with_reducible refine AW.out.mono ?_); rintro e w7 ⟨k7, a7, n7, c7, b7, m7, d7, rfl, L7, hb7⟩)
        have s7 := hb7.size
        have B7 := Lib.hid (show Below w.heap.size w (w7.alloc (.cells #[.int .i64 k7, .slice a7 n7 c7, .slice b7 m7 d7] 26)) from (bstep HB.out hb7).alloc (by have := HB.out.size; omega) _)
        have IV := Lib.hid (show ItemsAt Tr (w7.alloc (.cells #[.int .i64 k7, .slice a7 n7 c7, .slice b7 m7 d7] 26)) al nl lt from ((ITM.out.on hb7).on ((Below.refl _ _).alloc (Nat.le_refl _) _)).wide fun _ _ _ => trivial)
        have LV := Lib.hid (show Lies Tr (w7.alloc (.cells #[.int .i64 k7, .slice a7 n7 c7, .slice b7 m7 d7] 26)) (TV k7 a7 n7 c7 b7 m7 d7) (allT lt nl) from (Lies.tr L7).alloc _)
        have XV := Lib.hid (Boxed.new w7 (.int .i64 k7) (.slice a7 n7 c7) (.slice b7 m7 d7))
        have ek := L7.kk
        clear AW ITM L7 hb7 HB
        change Code.wp _ _ _ _ (w7.alloc (.cells #[.int .i64 k7, .slice a7 n7 c7, .slice b7 m7 d7] 26))
        obtain ⟨g8, hg8⟩ : ∃ g, g = w7.heap.size := ⟨_, rfl⟩
        rw [← hg8] at XV ⊢
        clear hg8 s7
        generalize w7.alloc (.cells #[.int .i64 k7, .slice a7 n7 c7, .slice b7 m7 d7] 26) = V at *
        go_wp2
        go_loopg [6] nl (fun gg i wx => ∃ (jj : Nat), jj ≤ nl ∧ nl - jj ≤ gg ∧ i = .int .i64 (jj : Int) ∧ Hid (Boxed wx g8 (.int .i64 k7) (.slice a7 n7 c7) (.slice b7 m7 d7)) ∧ Hid (Below V.heap.size V wx))
        case atStart => exact ⟨0, Nat.zero_le _, Nat.le_refl _, rfl, XV, Lib.hid (Below.refl _ _)⟩
        case round =>
          obtain ⟨jj, hjj, hgj, rfl, XW, HW⟩ := hrel
          obtain ⟨x0, x1, x2⟩ := XW.out.cells
          have gx := XW.out.lt
          by_cases hlj : jj < nl
          · obtain ⟨g9, o9, rfl, -, k9, a9, n9, c9, b9, m9, d9, ⟨t0, t1, t2⟩, L9⟩ := (IV.out.on HW.out) jj hlj
            have hljj : (0 : Int) ≤ (jj : Int) ∧ (jj : Int) < (nl : Int) := by omega
            have t9 := cell_lt t0
            have Y0 : wr.drew.cell? ⟨g9, o9 + jj * 3, none⟩ = some (.int .i64 k9) ∧ wr.drew.cell? ⟨g9, o9 + jj * 3 + 1, none⟩ = some (.slice a9 n9 c9) ∧ wr.drew.cell? ⟨g9, o9 + jj * 3 + 2, none⟩ = some (.slice b9 m9 d9) ∧ wr.drew.cell? ⟨g8, 0, none⟩ = some (.int .i64 k7) ∧ wr.drew.cell? ⟨g8, 1, none⟩ = some (.slice a7 n7 c7) ∧ wr.drew.cell? ⟨g8, 2, none⟩ = some (.slice b7 m7 d7) := ⟨t0, t1, t2, x0, x1, x2⟩
            have CF := Lib.hid (show ∀ X, Below wr.heap.size wr X → Calls Try.prog 10 #[TV k9 a9 n9 c9 b9 m9 d9, TV k7 a7 n7 c7 b7 m7 d7] X (Ret (.bool true) X) from fun X hb => conf_at (lt jj) (allT lt nl) true (AU.out jj hlj) k9 a9 n9 c9 b9 m9 d9 k7 a7 n7 c7 b7 m7 d7 X (L9.on hb) ((LV.out.on HW.out).on hb))
            clear L9
            go_wp2
            go_region_held3 (fun W => W.cell? ⟨g9, o9 + jj * 3, none⟩ = some (.int .i64 k9) ∧ W.cell? ⟨g9, o9 + jj * 3 + 1, none⟩ = some (.slice a9 n9 c9) ∧ W.cell? ⟨g9, o9 + jj * 3 + 2, none⟩ = some (.slice b9 m9 d9) ∧ W.cell? ⟨g8, 0, none⟩ = some (.int .i64 k7) ∧ W.cell? ⟨g8, 1, none⟩ = some (.slice a7 n7 c7) ∧ W.cell? ⟨g8, 2, none⟩ = some (.slice b7 m7 d7))
              (first | (simp [go_sem]; done) | (repeat' (first | (with_reducible assumption) | (with_reducible exact Y0) | (with_reducible refine kj6 ?_ (by with_reducible assumption)) | (with_reducible refine kj6d ?_) | (with_reducible refine kj6n (by with_reducible assumption) _ ?_ ?_) | (with_reducible refine kj6a ?_ _) | (with_reducible refine kj6s ?_ ?_ ?_ _) | (show _ ≠ _; (try dsimp only); omega) | (show _ < _; (try dsimp only); (try simp only [World.size_alloc, World.size_drew]); omega))))
              (first
                | (go_at_call 10; (with_reducible refine (CF.out _ ?_).mono ?_); (· (repeat' (first | (with_reducible assumption) | (with_reducible exact Below.refl _ _) | (with_reducible refine Below.drew ?_) | (with_reducible refine ballD1 ?_ _) | (with_reducible refine Below.set1 ?_ _ _ ?_ _) | (show _ ≤ _; (try simp only [World.size_alloc, World.size_drew]); omega)))); rintro e w9 ⟨rfl, hb9⟩))
            have XW2 := Lib.hid (XW.out.below (bundrew hb9))
            have HW2 := Lib.hid (bstep (Below.drew HW.out) hb9)
            clear hb9 CF XW HW Y0 t0 t1 t2 x0 x1 x2
            go_wp2
            go_roundg (nl - (jj + 1))
            case measure => omega
            case rel => exact ⟨jj + 1, by omega, Nat.le_refl _, by go_num, XW2, HW2⟩
          · obtain rfl : jj = nl := by omega
            have KM := Lib.hid (show Calls Try.prog 16 #[TV k7 a7 n7 c7 b7 m7 d7] wr (Ret (.bool true) wr) from kmay_at (allT lt jj) AO.out k7 a7 n7 c7 b7 m7 d7 wr (LV.out.on HW.out))
            by_cases h0 : jj = 0
            · subst h0
              obtain rfl : k7 = 1 := ek.symm
              go_wp2_with (go_at_call 16; (with_reducible refine KM.out.mono ?_); rintro e w9 ⟨rfl, hb9⟩; obtain ⟨v0, v1, v2⟩ := (XW.out.below hb9).cells)
              go_ret
              exact ⟨rfl, bstep (bstep B7.out HW.out) hb9⟩
            · have n4 : (0 : Int) < (jj : Int) := by omega
              go_wp2_with (go_at_call 16; (with_reducible refine KM.out.mono ?_); rintro e w9 ⟨rfl, hb9⟩; obtain ⟨v0, v1, v2⟩ := (XW.out.below hb9).cells)
              go_ret
              exact ⟨rfl, bstep (bstep B7.out HW.out) hb9⟩
end Go.Proofs.Ytielmfchbgajnaa

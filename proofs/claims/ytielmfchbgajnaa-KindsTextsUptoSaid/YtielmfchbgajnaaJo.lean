/-
  A function's type made: slices.Grow, slices.Concat of two, FuncOf.
-/
import Derived.Test.YtielmfchbgajnaaJn
import Derived.Lib.AppendZeros
import Derived.Deep.DeepAppendRoom
namespace Go.Proofs.Ytielmfchbgajnaa
open Go.RowKit

theorem w64n (n : Nat) (h : n ≤ 9223372036854775807) : wrap64 (n : Int) = (n : Int) := by unfold wrap64; omega

set_option linter.unusedSimpArgs false in
set_option linter.unusedVariables false in
set_option maxRecDepth 100000 in
set_option maxHeartbeats 2000000 in
/-- slices.Grow of no slice. -/
theorem grow_walk (w : World) (n : Nat) (h0 : 0 < n) (hf : n ≤ 2513169434843) :
    Calls Try.prog 60 #[.slice none 0 0, .int .i64 (n : Int)] w fun e w' => ∃ G, e = .returned (.slice (some ⟨w.heap.size, 0, none⟩) 0 G) ∧ (n ≤ G ∧ G ≤ maxLen) ∧ w'.ownsRow w.heap.size 26 3 (.slice (some ⟨w.heap.size, 0, none⟩) 0 G) 0 [] ∧ Below w.heap.size w w' := by
  obtain ⟨i26, hi26, hz26, hs26, hb26⟩ := info_parts info26
  have happ := Lib.run_append_nil_zeros (P := Try.prog) w 23 3 23 26 i26 _ .i64 .i64 Try.underlying23 Try.underlying3 hi26 hz26 n h0 (by omega) (by omega) (by rw [hb26]; omega)
  generalize hcap : grownCap w n 0 26 = G at happ
  have hG : n ≤ G := by rw [← hcap]; exact grownCap_ge w _ 0 _
  have hG' : G ≤ maxLen := by rw [← hcap]; exact grownCap_le_maxLen w _ 0 _ (by unfold maxLen; omega)
  have hG63 : (G : Int) ≤ 9223372036854775807 := by unfold maxLen at hG'; omega
  generalize hZ : (Builtin.zeroCells (Value.agg #[.int .i64 0, .slice none 0 0, .slice none 0 0]).cells n ++ Builtin.zeroCells (Value.agg #[.int .i64 0, .slice none 0 0, .slice none 0 0]).cells (G - n)) = Z at happ
  have hZs : Z.size = G * 3 := by rw [← hZ, Array.size_append, size_zeroCells, size_zeroCells]; show n * 3 + (G - n) * 3 = G * 3; omega
  have HG := Lib.hid (And.intro hG hG')
  have HZ := Lib.hid hZs
  have n0 : ¬ ((n : Int) < 0) := by omega
  have n1 : (n : Int) > 0 := by omega
  have e1 : wrap64 ((n : Int) - 0) = (n : Int) := by unfold wrap64; omega
  have e2 : wrap64 (n : Int) = (n : Int) := by unfold wrap64; omega
  have happ' : (Builtin.append_ #[23, 3] 23 #[.slice none 0 0, .int .i64 (wrap64 (n : Int))]).run Try.prog w = .ok (.slice (some ⟨w.heap.size, 0, none⟩) n G) (w.drew.alloc (.cells Z 26)) := by rw [e2]; exact happ
  clear hcap hG hG' hZ hZs h0 hf hi26 hz26 hs26 hb26 happ
  go_enter Try.func60, Try.ntmps60
  go_wp2_with (at_builtin; go_loud (refine Lib.wpList_append_run _ rfl _ _ _ _ rfl _ _ rfl rfl _ _ happ' ?_))
  go_ret
  refine ⟨G, rfl, HG.out, ⟨rfl, .inr ⟨w.heap.size, G, Z, rfl, Nat.le_refl _, heap_alloc_new w _, Nat.zero_le _, HG.out.2, HZ.out, rfl⟩⟩, ?_⟩
  exact ⟨rfl, rfl, rfl, by simp, fun k hk => Below.heap_alloc w _ k hk⟩
theorem cell_blk {w : World} {p : Addr} {u : Value} (h : w.cell? p = some u) : p.block < w.heap.size := by
  rcases Nat.lt_or_ge p.block w.heap.size with q | q
  · exact q
  · have e : w.heap[p.block]? = none := by simp [q]
    simp [World.cell?, e] at h
theorem ItemsAt.news {S : Nat → Prop} {w : World} {g o n : Nat} {it : Nat → T} (h : ItemsAt S w (some ⟨g, o, none⟩) n it) : ∃ zs : List Value, zs.length = n * 3 ∧ (∀ j u, zs[j]? = some u → w.cell? ((⟨g, o, none⟩ : Addr).add j) = some u) ∧ (∀ u ∈ zs, u.oneCell' = true) ∧ Part S w zs n it := by
  have cell : ∀ i, i < n → ∃ k1 a1 n1 c1 b1 m1 d1, Cell3 w g (o + i * 3) k1 a1 n1 c1 b1 m1 d1 ∧ Lies S w (TV k1 a1 n1 c1 b1 m1 d1) (it i) := fun i hi => by
    obtain ⟨g', o', e, -, k1, a1, n1, c1, b1, m1, d1, q, l⟩ := h i hi
    injection e with e
    injection e with e1 e2
    subst e1 e2
    exact ⟨k1, a1, n1, c1, b1, m1, d1, q, l⟩
  have get : ∀ j, j < n * 3 → ((List.range (n * 3)).map fun j => (w.cell? ⟨g, o + j, none⟩).getD (.bool false))[j]? = some ((w.cell? ⟨g, o + j, none⟩).getD (.bool false)) := fun j hj => by simp [hj]
  have one : ∀ j, j < n * 3 → ∃ u, w.cell? ⟨g, o + j, none⟩ = some u ∧ u.oneCell' = true := fun j hj => by
    obtain ⟨k1, a1, n1, c1, b1, m1, d1, q, -⟩ := cell (j / 3) (by omega)
    have r : j % 3 = 0 ∨ j % 3 = 1 ∨ j % 3 = 2 := by omega
    rcases r with r | r | r
    · exact ⟨_, by rw [show o + j = o + j / 3 * 3 by omega]; exact q.c0, rfl⟩
    · exact ⟨_, by rw [show o + j = o + j / 3 * 3 + 1 by omega]; exact q.c1, rfl⟩
    · exact ⟨_, by rw [show o + j = o + j / 3 * 3 + 2 by omega]; exact q.c2, rfl⟩
  refine ⟨(List.range (n * 3)).map fun j => (w.cell? ⟨g, o + j, none⟩).getD (.bool false), by simp, fun j u hu => ?_, fun u hu => ?_, fun i hi => ?_⟩
  · have hj : j < n * 3 := by
      have := (List.getElem?_eq_some_iff.1 hu).1
      simpa using this
    rw [get j hj] at hu
    injection hu with hu
    obtain ⟨u', e, -⟩ := one j hj
    rw [e] at hu
    subst hu
    rw [show (⟨g, o, none⟩ : Addr).add j = ⟨g, o + j, none⟩ from by unfold Addr.add; split <;> simp_all]
    exact e
  · obtain ⟨j, hj, rfl⟩ := List.mem_map.1 hu
    obtain ⟨u', e, f⟩ := one j (List.mem_range.1 hj)
    rw [e]
    exact f
  · obtain ⟨k1, a1, n1, c1, b1, m1, d1, q, l⟩ := cell i hi
    refine ⟨k1, a1, n1, c1, b1, m1, d1, ?_, ?_, ?_, l⟩
    · rw [get _ (by omega), q.c0]; rfl
    · rw [get _ (by omega), ← Nat.add_assoc, q.c1]; rfl
    · rw [get _ (by omega), ← Nat.add_assoc, q.c2]; rfl
/-- Two rows, one behind the other. -/
theorem Part.app {S : Nat → Prop} {w : World} {xs ys : List Value} {n m : Nat} {it jt : Nat → T} (h : Part S w xs n it) (hx : xs.length = n * 3) (k : Part S w ys m jt) : Part S w (xs ++ ys) (n + m) (fun i => if i < n then it i else jt (i - n)) := by
  intro j hj
  by_cases q : j < n
  · obtain ⟨k1, a1, n1, c1, b1, m1, d1, e0, e1, e2, l⟩ := h j q
    refine ⟨k1, a1, n1, c1, b1, m1, d1, ?_, ?_, ?_, ?_⟩
    · rw [List.getElem?_append_left (by omega)]; exact e0
    · rw [List.getElem?_append_left (by omega)]; exact e1
    · rw [List.getElem?_append_left (by omega)]; exact e2
    · show Lies S w _ (if j < n then it j else jt (j - n))
      rw [if_pos q]; exact l
  · obtain ⟨k1, a1, n1, c1, b1, m1, d1, e0, e1, e2, l⟩ := k (j - n) (by omega)
    refine ⟨k1, a1, n1, c1, b1, m1, d1, ?_, ?_, ?_, ?_⟩
    · rw [List.getElem?_append_right (by omega), show j * 3 - xs.length = (j - n) * 3 by omega]; exact e0
    · rw [List.getElem?_append_right (by omega), show j * 3 + 1 - xs.length = (j - n) * 3 + 1 by omega]; exact e1
    · rw [List.getElem?_append_right (by omega), show j * 3 + 2 - xs.length = (j - n) * 3 + 2 by omega]; exact e2
    · show Lies S w _ (if j < n then it j else jt (j - n))
      rw [if_neg q]; exact l
theorem Part.on {S : Nat → Prop} {w w' : World} {xs : List Value} {n : Nat} {it : Nat → T} (h : Part S w xs n it) (hb : Below w.heap.size w w') : Part S w' xs n it := fun j hj => by
  obtain ⟨k1, a1, n1, c1, b1, m1, d1, e0, e1, e2, l⟩ := h j hj
  exact ⟨k1, a1, n1, c1, b1, m1, d1, e0, e1, e2, l.on hb⟩
set_option linter.unusedSimpArgs false in
set_option linter.unusedVariables false in
set_option maxRecDepth 100000 in
set_option maxHeartbeats 4000000 in
/-- slices.Concat of two. -/
theorem concat_walk (S : Nat → Prop) (w : World) (r : Nat) (g1 o1 n1 c1 g2 o2 n2 c2 : Nat) (it jt : Nat → T) (hr0 : w.cell? ⟨r, 0, none⟩ = some (.slice (some ⟨g1, o1, none⟩) n1 c1)) (hr1 : w.cell? ⟨r, 1, none⟩ = some (.slice (some ⟨g2, o2, none⟩) n2 c2)) (i1 : ItemsAt S w (some ⟨g1, o1, none⟩) n1 it) (i2 : ItemsAt S w (some ⟨g2, o2, none⟩) n2 jt) (h1 : 0 < n1) (hn : n1 + n2 ≤ 2513169434843) :
    Calls Try.prog 44 #[.slice (some ⟨r, 0, none⟩) 2 2] w fun e w' => ∃ (g c : Nat), e = .returned (.slice (some ⟨g, 0, none⟩) (n1 + n2) c) ∧ ItemsAt (fun g => w.heap.size ≤ g ∨ S g) w' (some ⟨g, 0, none⟩) (n1 + n2) (fun i => if i < n1 then it i else jt (i - n1)) ∧ (n1 + n2 ≤ c ∧ c ≤ maxLen) ∧ Below w.heap.size w w' := by
  obtain ⟨i26, hi26, hz26, hs26, hb26⟩ := info_parts info26
  obtain ⟨zs, zl, zc, z1, zp⟩ := i1.news
  obtain ⟨ys, yl, yc, y1, yp⟩ := i2.news
  obtain ⟨N, hN⟩ : ∃ N, N = n1 + n2 := ⟨_, rfl⟩
  rw [← hN]
  have HR := Lib.hid (And.intro hr0 hr1)
  have HZ := Lib.hid (And.intro zl (And.intro zc z1))
  have HY := Lib.hid (And.intro yl (And.intro yc y1))
  have HP := Lib.hid (zp.app zl yp)
  have HN := Lib.hid (And.intro hN hn)
  have rw0 := cell_lt hr0
  have b1 : ¬ ((n1 : Int) < 0) := by omega
  have b2 : ¬ ((N : Int) < 0) := by omega
  have GR := Lib.hid (fun W : World => grow_walk W N (by omega) (by omega))
  have a3 : wrap64 (n1 : Int) = (n1 : Int) := w64n _ (by omega)
  have a2 : wrap64 ((n1 : Int) + (n2 : Int)) = (N : Int) := by
    have e : (n1 : Int) + (n2 : Int) = (N : Int) := by omega
    rw [e]
    exact w64n _ (by omega)
  have HI := Lib.hid (And.intro hi26 hs26)
  clear zl zc z1 zp yl yc y1 yp hN hn hz26 hb26 i1 i2 hi26 hs26
  go_enter Try.func44, Try.ntmps44
  go_wp2
  go_loopg [3, 11] 2 (fun gg s i wr => wr = w ∧ ((i = .int .i64 0 ∧ s = .int .i64 0 ∧ 2 ≤ gg) ∨ (i = .int .i64 1 ∧ s = .int .i64 (n1 : Int) ∧ 1 ≤ gg) ∨ (i = .int .i64 2 ∧ s = .int .i64 (N : Int))))
  case atStart => exact ⟨rfl, .inl ⟨rfl, rfl, Nat.le_refl _⟩⟩
  case round =>
    obtain ⟨rfl, hrel⟩ := hrel
    rcases hrel with ⟨rfl, rfl, hg⟩ | ⟨rfl, rfl, hg⟩ | ⟨rfl, rfl⟩
    · go_wp2
      go_roundg 1
      case measure => omega
      case rel => exact ⟨rfl, .inr (.inl ⟨rfl, by rw [a3], Nat.le_refl _⟩)⟩
    · go_wp2
      go_roundg 0
      case measure => omega
      case rel => exact ⟨rfl, .inr (.inr ⟨rfl, by rw [a2]⟩)⟩
    · clear hr0 hr1
      go_wp2_with (go_at_call 60; (with_reducible refine (GR.out _).mono ?_); rintro e w1 ⟨G, rfl, hG, OW, hb1⟩; have HG := Lib.hid hG; have OW0 := Lib.hid OW; have HB0 := Lib.hid hb1; clear hG OW hb1)
      obtain ⟨wo, rfl⟩ : ∃ wo : World, wo = wr := ⟨_, rfl⟩
      go_loopg [6, 27] 2 (fun gg v i wt => Hid (Below wo.heap.size wo wt) ∧ ((i = .int .i64 0 ∧ v = .slice (some ⟨wo.heap.size, 0, none⟩) 0 G ∧ Hid (wt.ownsRow wo.heap.size 26 3 (.slice (some ⟨wo.heap.size, 0, none⟩) 0 G) 0 []) ∧ 2 ≤ gg) ∨ (i = .int .i64 1 ∧ v = .slice (some ⟨wo.heap.size, 0, none⟩) n1 G ∧ Hid (wt.ownsRow wo.heap.size 26 3 (.slice (some ⟨wo.heap.size, 0, none⟩) n1 G) n1 zs) ∧ 1 ≤ gg) ∨ (i = .int .i64 2 ∧ v = .slice (some ⟨wo.heap.size, 0, none⟩) N G ∧ Hid (wt.ownsRow wo.heap.size 26 3 (.slice (some ⟨wo.heap.size, 0, none⟩) N G) N (zs ++ ys)))))
      case atStart => exact ⟨HB0, .inl ⟨rfl, rfl, OW0, Nat.le_refl _⟩⟩
      case round =>
        obtain ⟨HB, hrel⟩ := hrel
        have hc0 := (HB.out.cell (p := ⟨r, 0, none⟩) rw0).trans HR.out.1
        have hc1 := (HB.out.cell (p := ⟨r, 1, none⟩) rw0).trans HR.out.2
        clear OW0 HB0
        rcases hrel with ⟨rfl, rfl, OW, hg⟩ | ⟨rfl, rfl, OW, hg⟩ | ⟨rfl, rfl, OW⟩
        · have NW := Lib.hid (show ∀ j u, zs[j]? = some u → wr.cell? ((⟨g1, o1, none⟩ : Addr).add j) = some u from fun j u hu => by
            have q := HZ.out.2.1 j u hu
            exact (HB.out.cell (cell_blk q)).trans q)
          go_wp2_with (at_builtin; refine wpList_append_own_spare _ rfl (.tmp 31) (.tmp 32) _ rfl wo.heap.size 26 i26 3 Try.underlying23 HI.out.1 HI.out.2 wo.heap.size 0 G [] rfl OW.out ⟨g1, o1, none⟩ n1 c1 zs rfl HZ.out.1 NW.out HZ.out.2.2 (by have := HG.out; have := HN.out; omega) ?_; intro w2 OW2 GR2; have OW3 := Lib.hid OW2; have HB2 := Lib.hid (Below.grown HB.out GR2 HB.out.size (fun k hk => by injection hk with hk; omega)); clear OW2 GR2)
          go_wp2
          go_roundg 1
          case measure => omega
          case rel =>
            have q := OW3.out
            rw [Nat.zero_add, List.nil_append] at q
            exact ⟨HB2, .inr (.inl ⟨rfl, by first | rfl | rw [Nat.zero_add], Lib.hid q, Nat.le_refl _⟩)⟩
        · have NW := Lib.hid (show ∀ j u, ys[j]? = some u → wr.cell? ((⟨g2, o2, none⟩ : Addr).add j) = some u from fun j u hu => by
            have q := HY.out.2.1 j u hu
            exact (HB.out.cell (cell_blk q)).trans q)
          go_wp2_with (at_builtin; refine wpList_append_own_spare _ rfl (.tmp 31) (.tmp 32) _ rfl wo.heap.size 26 i26 3 Try.underlying23 HI.out.1 HI.out.2 wo.heap.size n1 G zs rfl OW.out ⟨g2, o2, none⟩ n2 c2 ys rfl HY.out.1 NW.out HY.out.2.2 (by have := HG.out; have := HN.out; omega) ?_; intro w2 OW2 GR2; have OW3 := Lib.hid OW2; have HB2 := Lib.hid (Below.grown HB.out GR2 HB.out.size (fun k hk => by injection hk with hk; omega)); clear OW2 GR2)
          go_wp2
          go_roundg 0
          case measure => omega
          case rel =>
            have q := OW3.out
            rw [← HN.out.1] at q
            exact ⟨HB2, .inr (.inr ⟨rfl, by rw [← HN.out.1], Lib.hid q⟩)⟩
        · go_wp2
          go_ret
          have PP : Part S wo (zs ++ ys) N (fun i => if i < n1 then it i else jt (i - n1)) := by rw [HN.out.1]; exact HP.out
          exact ⟨wo.heap.size, G, rfl, ((PP.on HB.out).wide (S' := fun g => wo.heap.size ≤ g ∨ S g) (fun g s => .inr s)).items OW.out (.inl (Nat.le_refl _)), HG.out, HB.out⟩
end Go.Proofs.Ytielmfchbgajnaa

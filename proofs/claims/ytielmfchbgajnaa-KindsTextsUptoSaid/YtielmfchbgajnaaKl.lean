/-
  The law's left and Great (layer 13): some number comes out.
-/
import Derived.Test.YtielmfchbgajnaaKq
namespace Go.Proofs.Ytielmfchbgajnaa
open Go.RowKit Go.Shelf
/-- left: what is left of some count is a number from -1 on. -/
def LeftOk (t : T) : Prop := ∀ (S : Nat → Prop) (w : World) (k : Int) (a : Option Addr) (n c : Nat) (b : Option Addr) (m d : Nat) (x : Int), 0 ≤ x → x ≤ 20000 → Lies S w (TV k a n c b m d) t →
  Calls Try.prog 46 #[TV k a n c b m d, .int .i64 x] w fun e w' => ∃ r : Int, -1 ≤ r ∧ r ≤ 20000 ∧ e = .returned (.int .i64 r) ∧ Below w.heap.size w w'
set_option linter.unusedSimpArgs false in
set_option linter.unusedVariables false in
set_option maxRecDepth 100000 in
set_option maxHeartbeats 4000000 in
theorem left_step (k : Int) (n : Nat) (it : Nat → T) (m : Nat) (nm : Nat → ByteArray) (ih : ∀ i, i < n → LeftOk (it i)) (S : Nat → Prop) (w : World) (a : Option Addr) (c : Nat) (b : Option Addr) (d : Nat) (x : Int) (hx0 : 0 ≤ x) (hx1 : x ≤ 20000) (h : Lies S w (TV k a n c b m d) (.mk k n it m nm)) :
    Calls Try.prog 46 #[TV k a n c b m d, .int .i64 x] w fun e w' => ∃ r : Int, -1 ≤ r ∧ r ≤ 20000 ∧ e = .returned (.int .i64 r) ∧ Below w.heap.size w w' := by
  obtain ⟨FW, hc, hd, hk, -, -⟩ := h.few
  have NB : (n : Int) ≤ 9223372036854775806 := by have := FW.1; omega
  have HL := Lib.hid h
  have HC := Lib.hid (And.intro hc hd)
  have IH := Lib.hid ih
  clear h hc hd hk ih FW
  obtain ⟨x1, hx⟩ : ∃ x1, x1 = x - 1 := ⟨_, rfl⟩
  have e1 : wrap64 (x - 1) = x1 := by unfold wrap64; omega
  have e1' : IntKind.i64.wrap (x - 1) = x1 := by rw [IntKind.wrap_i64]; omega
  have q0 : -1 ≤ x1 := by omega
  have q1 : x1 ≤ 20000 := by omega
  clear hx0 hx1 hx
  go_enter Try.func46, Try.ntmps46
  go_wp2
  go_loopg [1, 5] n (fun gg y i wr => ∃ (kk : Nat) (yy : Int), kk ≤ n ∧ n - kk ≤ gg ∧ i = .int .i64 (kk : Int) ∧ y = .int .i64 yy ∧ -1 ≤ yy ∧ yy ≤ 20000 ∧ Hid (Boxed wr w.heap.size (.int .i64 k) (.slice a n c) (.slice b m d)) ∧ Hid (Below w.heap.size w wr))
  case atStart => exact ⟨0, x1, Nat.zero_le _, Nat.le_refl _, rfl, by first | rfl | simp [*], q0, q1, Lib.hid (Boxed.new w _ _ _), Lib.hid ((Below.refl _ _).alloc (Nat.le_refl _) _)⟩
  case round =>
    obtain ⟨kk, yy, hkk, hg, rfl, rfl, y0, y1, BX, HB⟩ := hrel
    obtain ⟨x0, x1, x2⟩ := BX.out.cells
    have gx := BX.out.lt
    by_cases hlt : kk < n
    · have hlti : (0 : Int) ≤ (kk : Int) ∧ (kk : Int) < (n : Int) := by omega
      by_cases hy : 0 ≤ yy
      · obtain ⟨g3, o3, rfl, k3, a3, n3, c3, b3, m3, d3, t0, t1, t2, tg, L3⟩ := (HL.out.on HB.out).item kk hlt
        have le0 := HB.out.size
        have CP := Lib.hid (IH.out kk hlt S wr k3 a3 n3 c3 b3 m3 d3 yy hy y1 L3)
        clear L3
        go_wp2_with (go_at_call 46; (with_reducible refine (CP.out).mono ?_); rintro e w5 ⟨rr, r0, r1, rfl, hb5⟩)
        have BX5 := Lib.hid (BX.out.below hb5)
        have HB5 := Lib.hid (bstep HB.out hb5)
        clear x0 x1 x2 t0 t1 t2 hb5 CP
        go_roundg (n - (kk + 1))
        case measure => omega
        case rel => exact ⟨kk + 1, rr, by omega, Nat.le_refl _, by go_num, rfl, r0, r1, BX5, HB5⟩
      · go_wp2
        go_ret
        exact ⟨yy, y0, y1, rfl, HB.out⟩
    · have hnl : ¬ (kk : Int) < (n : Int) := by omega
      go_wp2
      go_ret
      exact ⟨yy, y0, y1, rfl, HB.out⟩
theorem left_any : ∀ t, LeftOk t := by
  intro t
  induction t with
  | z => intro S w k a n c b m d x _ _ h; cases h
  | mk k n it m nm ih =>
    intro S w k' a n' c b m' d x h0 h1 h
    obtain rfl : k = k' := h.kk
    obtain rfl : n = n' := h.nn
    obtain rfl : m = m' := h.mm
    exact left_step k n it m nm (fun i _ => ih i) S w a c b d x h0 h1 h
/-- Yes or no. -/
def YesNo (w : World) (e : Ending) (w' : World) : Prop := ∃ v : Bool, e = .returned (.bool v) ∧ Below w.heap.size w w'
set_option maxRecDepth 100000 in
set_option maxHeartbeats 4000000 in
/-- Great: yes or no. -/
theorem great_any (t : T) (S : Nat → Prop) (w : World) (k : Int) (a : Option Addr) (n c : Nat) (b : Option Addr) (m d : Nat) (h : Lies S w (TV k a n c b m d) t) :
    Calls Try.prog 27 #[TV k a n c b m d] w (YesNo w) := by
  have B0 : Below w.heap.size w (w.alloc (.cells #[.int .i64 k, .slice a n c, .slice b m d] 26)) := (Below.refl _ _).alloc (Nat.le_refl _) _
  have CP := Lib.hid (left_any t S _ k a n c b m d 20000 (by omega) (by omega) (h.on B0))
  have HB := Lib.hid B0
  clear h B0
  go_enter Try.func27, Try.ntmps27
  go_wp2_with (go_at_call 46; (with_reducible refine (CP.out).mono ?_); rintro e w5 ⟨rr, r0, r1, rfl, hb5⟩)
  have HB5 := bstep HB.out hb5
  go_wp2
  go_ret
  exact ⟨decide (rr < 0), rfl, HB5⟩
end Go.Proofs.Ytielmfchbgajnaa

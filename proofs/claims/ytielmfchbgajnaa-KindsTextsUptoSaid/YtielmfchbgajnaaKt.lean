/-
  The law's text (layer 13): a type's text by strings put together.
-/
import Derived.Test.YtielmfchbgajnaaKl
namespace Go.Proofs.Ytielmfchbgajnaa
open Go.RowKit Go.Shelf
/-- The law's text of a type that may be. -/
def LTextFor (t : T) : Prop := ∀ (S : Nat → Prop) (w : World) (k : Int) (a : Option Addr) (n c : Nat) (b : Option Addr) (m d : Nat), room t + 64 ≤ 140737488355328 → Lies S w (TV k a n c b m d) t → Calls Try.prog 32 #[TV k a n c b m d] w (Ret (.string ⟨(textL t).toArray⟩) w)
set_option linter.unusedSimpArgs false in
set_option linter.unusedVariables false in
set_option maxRecDepth 100000 in
set_option maxHeartbeats 4000000 in
theorem ltext_ctx (n : Nat) (it : Nat → T) (nm : Nat → ByteArray) (ih : ∀ i, i < n → LTextFor (it i)) (S : Nat → Prop) (w : World) (a : Option Addr) (c : Nat) (b : Option Addr) (d : Nat) (hl : room (.mk 11 n it n nm) + 64 ≤ 140737488355328) (h : Lies S w (TV 11 a n c b n d) (.mk 11 n it n nm)) :
    Calls Try.prog 32 #[TV 11 a n c b n d] w (Ret (.string ⟨(textL (.mk 11 n it n nm)).toArray⟩) w) := by
  obtain ⟨FW, hc, hd, hk, -, -⟩ := h.few
  have NB : (n : Int) ≤ 9223372036854775806 := by have := FW.1; omega
  have HL := Lib.hid h
  have HC := Lib.hid (And.intro hc hd)
  have IH := Lib.hid ih
  have HR := Lib.hid hl
  clear h hc hd hk ih FW hl
  go_enter Try.func32, Try.ntmps32
  go_wp2
  go_loopg [3, 5] n (fun gg s i wr => ∃ (kk : Nat), kk ≤ n ∧ n - kk ≤ gg ∧ s = .string ⟨(seqL (ctxF it nm) kk).toArray⟩ ∧ i = .int .i64 (kk : Int) ∧ Hid (Boxed wr w.heap.size (.int .i64 11) (.slice a n c) (.slice b n d)) ∧ Hid (Below w.heap.size w wr))
  case atStart => exact ⟨0, Nat.zero_le _, Nat.le_refl _, rfl, rfl, Lib.hid (Boxed.new w _ _ _), Lib.hid ((Below.refl _ _).alloc (Nat.le_refl _) _)⟩
  case round =>
    obtain ⟨kk, hkk, hg, rfl, rfl, BX, HB⟩ := hrel
    obtain ⟨x0, x1, x2⟩ := BX.out.cells
    have gx := BX.out.lt
    by_cases hlt : kk < n
    · obtain ⟨g3, o3, rfl, k3, a3, n3, c3, b3, m3, d3, t0, t1, t2, tg, L3⟩ := (HL.out.on HB.out).item kk hlt
      obtain ⟨gN, oN, rfl, nc, ng, sh⟩ := (HL.out.on HB.out).name kk hlt
      have hlti : (0 : Int) ≤ (kk : Int) ∧ (kk : Int) < (n : Int) := by omega
      have le0 := HB.out.size
      have r1 := ctx_room1 11 n it n nm (by decide) kk (by omega)
      have r2 := textL_le (it kk)
      have r3 := quoteL_le (nm kk)
      have r4 := HR.out
      have CQ := Lib.hid (lquote_walk (nm kk) wr (by omega))
      have CT := Lib.hid (fun W (hW : Below wr.heap.size wr W) => IH.out kk hlt S W k3 a3 n3 c3 b3 m3 d3 (by omega) (L3.on hW))
      have NX : seqL (ctxF it nm) (kk + 1) = seqL (ctxF it nm) kk ++ (if 0 < kk then [44, 32] else []) ++ ctxF it nm kk := rfl
      have hxx : ctxF it nm kk = quoteL (nm kk) ++ [58, 32] ++ textL (it kk) := rfl
      rw [hxx] at NX
      have NX2 := Lib.hid NX
      change wr.cell? _ = some (.string (nm kk)) at nc
      have TT := Lib.hid (fun W (hW : Below wr.heap.size wr W) => And.intro (cell_below t0 hW) (And.intro (cell_below t1 hW) (cell_below t2 hW)))
      clear hxx NX L3 sh
      generalize seqL (ctxF it nm) kk = A at *
      generalize quoteL (nm kk) = Q at *
      generalize textL (it kk) = X at *
      generalize nm kk = nk at *
      have z : A.length + Q.length + X.length + 8 ≤ 140737488355328 := by omega
      clear r1 r2 r3 r4
      rcases Nat.eq_zero_or_pos kk with hz | hz
      · have hz0 : ¬ (0 : Int) < (kk : Int) := by omega
        have HZ := Lib.hid hz
        clear hz
        go_wp2_with (first
          | (go_at_call 31; (with_reducible refine (CQ.out).mono ?_); rintro e w5 ⟨rfl, hb5⟩; obtain ⟨y0, y1, y2⟩ := (BX.out.below hb5).cells; obtain ⟨s0, s1, s2⟩ := TT.out w5 hb5; have le5 := hb5.size)
          | (go_at_call 32; (with_reducible refine (CT.out w5 hb5).mono ?_); rintro e w6 ⟨rfl, hb6⟩))
        have hb7 := hb5.trans (hb6.mono hb5.size)
        have BX5 := Lib.hid (BX.out.below hb7)
        have HB5 := Lib.hid (bstep HB.out hb7)
        clear x0 x1 x2 y0 y1 y2 s0 s1 s2 t0 t1 t2 hb5 hb6 hb7 CT CQ TT nc
        go_roundg (n - (kk + 1))
        case measure => omega
        case rel =>
          refine ⟨kk + 1, by omega, Nat.le_refl _, ?_, by go_num, BX5, HB5⟩
          refine congrArg Value.string ?_
          rw [NX2.out, if_neg (by have := HZ.out; omega : ¬ 0 < kk), show (⟨#[58, 32]⟩ : ByteArray) = ⟨[58, 32].toArray⟩ from rfl]; simp only [strl_append, List.append_assoc, List.nil_append, List.append_nil]
      · have hz0 : (0 : Int) < (kk : Int) := by omega
        go_wp2_with (first
          | (go_at_call 31; (with_reducible refine (CQ.out).mono ?_); rintro e w5 ⟨rfl, hb5⟩; obtain ⟨y0, y1, y2⟩ := (BX.out.below hb5).cells; obtain ⟨s0, s1, s2⟩ := TT.out w5 hb5; have le5 := hb5.size)
          | (go_at_call 32; (with_reducible refine (CT.out w5 hb5).mono ?_); rintro e w6 ⟨rfl, hb6⟩))
        have hb7 := hb5.trans (hb6.mono hb5.size)
        have BX5 := Lib.hid (BX.out.below hb7)
        have HB5 := Lib.hid (bstep HB.out hb7)
        clear x0 x1 x2 y0 y1 y2 s0 s1 s2 t0 t1 t2 hb5 hb6 hb7 CT CQ TT nc
        go_roundg (n - (kk + 1))
        case measure => omega
        case rel =>
          refine ⟨kk + 1, by omega, Nat.le_refl _, ?_, by go_num, BX5, HB5⟩
          refine congrArg Value.string ?_
          rw [NX2.out, if_pos hz, show (⟨#[44, 32]⟩ : ByteArray) = ⟨[44, 32].toArray⟩ from rfl, show (⟨#[58, 32]⟩ : ByteArray) = ⟨[58, 32].toArray⟩ from rfl]; simp only [strl_append, List.append_assoc]
    · obtain rfl : kk = n := by omega
      have r1 := ctx_room 11 kk it kk nm (by decide) kk (by omega)
      have r4 := HR.out
      have YS : textL (.mk 11 kk it kk nm) = litCtx ++ seqL (ctxF it nm) kk ++ [62] := by
        show litCtx ++ seqL (ctxF it nm) (min kk kk) ++ [62] = _
        rw [Nat.min_self]
      have RES := Lib.hid (show (⟨#[99, 111, 110, 116, 101, 120, 116, 60]⟩ : ByteArray) ++ ⟨(seqL (ctxF it nm) kk).toArray⟩ ++ ⟨#[62]⟩ = ⟨(textL (.mk 11 kk it kk nm)).toArray⟩ from by
        rw [YS, show (⟨#[99, 111, 110, 116, 101, 120, 116, 60]⟩ : ByteArray) = ⟨litCtx.toArray⟩ from rfl, show (⟨#[62]⟩ : ByteArray) = ⟨[62].toArray⟩ from rfl, strl_append, strl_append])
      have z : (seqL (ctxF it nm) kk).length + 60 ≤ 140737488355328 := by omega
      clear r1 r4 YS
      generalize seqL (ctxF it nm) kk = A at *
      generalize textL (.mk 11 kk it kk nm) = XX at *
      go_wp2
      go_ret
      exact ⟨congrArg (fun z => Ending.returned (.string z)) RES.out, HB.out⟩
end Go.Proofs.Ytielmfchbgajnaa

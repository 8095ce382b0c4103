/-
  write of contexts and functions (layer 13), and so of any type.
-/
import Derived.Test.YtielmfchbgajnaaJw
namespace Go.Proofs.Ytielmfchbgajnaa
open Go.RowKit Go.Shelf

def comma (i : Nat) : List UInt8 := if 0 < i then [44, 32] else []
theorem comma_le (i : Nat) : (comma i).length ≤ 2 := by unfold comma; split <;> simp
set_option linter.unusedSimpArgs false in
set_option linter.unusedVariables false in
set_option maxRecDepth 100000 in
set_option maxHeartbeats 1000000 in
theorem comma_walk (B p : Nat) (acc : List UInt8) (i : Nat) (w : World) (h : Lib.IsBuilderF BT BE B p (Lib.byteCells acc) w) (hlen : acc.length + 2 ≤ 140737488355328) (hB : B ≤ w.heap.size) :
    Calls Try.prog 65 #[.pointer (some ⟨p, 0, none⟩), .int .i64 (i : Int)] w (Wrote B p (acc ++ comma i) w) := by
  rcases Nat.eq_zero_or_pos i with rfl | hi
  · have HH := Lib.hid h
    rw [show comma 0 = [] from rfl, List.append_nil]
    clear h hlen
    go_enter Try.func65, Try.ntmps65
    go_wp2
    go_end0
    exact ⟨rfl, HH.out, Below.refl _ _, Lib.OthersKept.refl _ _ _⟩
  · have h0 : (0 : Int) < (i : Int) := by omega
    have W1 := Lib.hid (ws_any B p acc ⟨#[44, 32]⟩ w h (by show acc.length + 2 ≤ _; omega) hB)
    rw [show comma i = [44, 32] from if_pos hi]
    clear h hlen
    go_enter Try.func65, Try.ntmps65
    go_wp2_with (go_at_call 55; (with_reducible refine W1.out.mono ?_); rintro e w1 ⟨rfl, h1, b1, q1⟩)
    go_end0
    exact ⟨rfl, h1, b1, q1⟩
/-- What stands for a context's name and type. -/
def ctxF (it : Nat → T) (nm : Nat → ByteArray) (i : Nat) : List UInt8 := quoteL (nm i) ++ [58, 32] ++ textL (it i)
theorem ctx_room (k : Int) (n : Nat) (it : Nat → T) (m : Nat) (nm : Nat → ByteArray) (hk : k ≠ 0) (j : Nat) (hj : j ≤ min m n) : 80 + (seqL (ctxF it nm) j).length ≤ room (.mk k n it m nm) := by
  have h1 := seqL_le (ctxF it nm) (fun i => (room (it i) + 4) + (5 * (nm i).size)) j (fun i _ => by
    have := quoteL_le (nm i)
    have := textL_le (it i)
    unfold ctxF
    simp only [List.length_append]
    have : ([58, 32] : List UInt8).length = 2 := rfl
    omega)
  have h2 : sumN (fun i => (room (it i) + 4) + (5 * (nm i).size) + 2) j ≤ sumN (fun i => (room (it i) + 8) + (5 * (nm i).size + 8)) j := sumN_le _ _ _ (fun i _ => by omega)
  have h5 : sumN (fun i => (room (it i) + 8) + (5 * (nm i).size + 8)) j = sumN (fun i => room (it i) + 8) j + sumN (fun i => 5 * (nm i).size + 8) j := sumN_add (fun i => room (it i) + 8) (fun i => 5 * (nm i).size + 8) j
  have h3 := sumN_up (fun i => room (it i) + 8) n j (by omega)
  have h4 := sumN_up (fun i => 5 * (nm i).size + 8) m j (by omega)
  show _ ≤ (if k = 0 then 40 else 80) + sumN (fun i => room (it i) + 8) n + sumN (fun i => 5 * (nm i).size + 8) m
  rw [if_neg hk]
  omega
/-- .. and how much one more takes. -/
theorem ctx_room1 (k : Int) (n : Nat) (it : Nat → T) (m : Nat) (nm : Nat → ByteArray) (hk : k ≠ 0) (j : Nat) (hj : j < min m n) : 80 + (seqL (ctxF it nm) j).length + (room (it j) + 8) + (5 * (nm j).size + 8) ≤ room (.mk k n it m nm) := by
  have h1 := seqL_le (ctxF it nm) (fun i => (room (it i) + 4) + (5 * (nm i).size)) j (fun i _ => by
    have := quoteL_le (nm i)
    have := textL_le (it i)
    unfold ctxF
    simp only [List.length_append]
    have : ([58, 32] : List UInt8).length = 2 := rfl
    omega)
  have h2 : sumN (fun i => (room (it i) + 4) + (5 * (nm i).size) + 2) j ≤ sumN (fun i => (room (it i) + 8) + (5 * (nm i).size + 8)) j := sumN_le _ _ _ (fun i _ => by omega)
  have h5 : sumN (fun i => (room (it i) + 8) + (5 * (nm i).size + 8)) (j + 1) = sumN (fun i => room (it i) + 8) (j + 1) + sumN (fun i => 5 * (nm i).size + 8) (j + 1) := sumN_add (fun i => room (it i) + 8) (fun i => 5 * (nm i).size + 8) (j + 1)
  have h6 : sumN (fun i => (room (it i) + 8) + (5 * (nm i).size + 8)) (j + 1) = sumN (fun i => (room (it i) + 8) + (5 * (nm i).size + 8)) j + ((room (it j) + 8) + (5 * (nm j).size + 8)) := rfl
  have h3 := sumN_up (fun i => room (it i) + 8) n (j + 1) (by omega)
  have h4 := sumN_up (fun i => 5 * (nm i).size + 8) m (j + 1) (by omega)
  show _ ≤ (if k = 0 then 40 else 80) + sumN (fun i => room (it i) + 8) n + sumN (fun i => 5 * (nm i).size + 8) m
  rw [if_neg hk]
  omega
set_option linter.unusedSimpArgs false in
set_option linter.unusedVariables false in
set_option maxRecDepth 100000 in
set_option maxHeartbeats 8000000 in
theorem writeContext_walk (n : Nat) (it : Nat → T) (m : Nat) (nm : Nat → ByteArray) (HW : ∀ i, i < n → WritesFor (it i)) (S : Nat → Prop) (w : World) (a : Option Addr) (c : Nat) (b : Option Addr) (d : Nat) (B p : Nat) (acc : List UInt8) (h : Lies S w (TV 11 a n c b m d) (.mk 11 n it m nm)) (hS : ∀ g, S g → g < B) (hb : Lib.IsBuilderF BT BE B p (Lib.byteCells acc) w) (hB : B ≤ w.heap.size) (hl : acc.length + room (.mk 11 n it m nm) + 64 ≤ 140737488355328) :
    Calls Try.prog 56 #[.pointer (some ⟨p, 0, none⟩), TV 11 a n c b m d] w (Wrote B p (acc ++ textL (.mk 11 n it m nm)) w) := by
  have ht : textL (.mk 11 n it m nm) = litCtx ++ seqL (ctxF it nm) (min m n) ++ [62] := rfl
  obtain ⟨r, hr⟩ : ∃ r, r = min m n := ⟨_, rfl⟩
  have hrn : r ≤ n ∧ r ≤ m := by omega
  have RM := Lib.hid (fun j (hj : j ≤ r) => ctx_room 11 n it m nm (by decide) j (by omega))
  have RM1 := Lib.hid (fun j (hj : j < r) => ctx_room1 11 n it m nm (by decide) j (by omega))
  obtain ⟨FW, hc, hd, -, -, -⟩ := h.few
  have NB : (r : Int) ≤ 9223372036854775806 := by have := FW.1; omega
  have HC := Lib.hid (And.intro hc hd)
  have HI := Lib.hid h.items
  have HN := Lib.hid h.names
  have lc : litCtx.length = 8 := rfl
  have EW := Lib.hid (fun X (l : Lies S X (TV 11 a n c b m d) (.mk 11 n it m nm)) => entries_walk 11 a n c b m d _ S X l)
  have HL := Lib.hid h
  have HK := Lib.hid HW
  unfold WritesFor at HK
  have HS := Lib.hid hS
  have HLL := Lib.hid hl
  rw [ht, ← hr]
  rw [← hr] at EW
  have BA : Below B w (w.alloc (.cells #[.int .i64 11, .slice a n c, .slice b m d] 26)) := (Below.refl _ _).alloc hB _
  have b0 := hb.alloc (.cells #[.int .i64 11, .slice a n c, .slice b m d] 26)
  have CX := Lib.hid (fun (W : World) (h1 : Lib.IsBuilderF BT BE B p (Lib.byteCells acc) W) (h2 : B ≤ W.heap.size) => ws_any B p acc ⟨#[99, 111, 110, 116, 101, 120, 116, 60]⟩ W h1 (by show acc.length + 8 ≤ _; omega) h2)
  clear h hc hd FW HW hS hl ht
  go_enter Try.func56, Try.ntmps56
  go_wp2_with (first
    | (go_at_call 38; (with_reducible refine (EW.out _ (HL.out.on ?_)).mono ?_); (· (repeat' (first | (with_reducible assumption) | (with_reducible exact Below.refl _ _) | (with_reducible refine Below.drew ?_) | (with_reducible refine ballD1 ?_ _) | (with_reducible refine Below.set1 ?_ _ _ ?_ _) | (show _ ≤ _; (try simp only [World.size_alloc, World.size_drew]); omega)))); rintro e w1 ⟨rfl, hb1⟩; have s1 := hb1.size)
    | (go_at_call 55; (with_reducible refine (CX.out _ (builder_under b0 hb1) (by simp only [World.size_alloc] at s1; omega)).mono ?_); rintro e w2 ⟨rfl, h2, bb2, q2⟩))
  have K2 := Lib.hid (((Lib.OthersKept.refl BE (some p) w).alloc (.cells #[.int .i64 11, .slice a n c, .slice b m d] 26)).trans ((okept_below hb1).trans q2))
  have BB2 := Lib.hid (show Below B w w2 from (BA.trans (hb1.mono (by simp only [World.size_alloc]; omega))).trans bb2)
  have H2 := Lib.hid (show Lib.IsBuilderF BT BE B p (Lib.byteCells (acc ++ litCtx ++ seqL (ctxF it nm) 0)) w2 from by rw [show seqL (ctxF it nm) 0 = [] from rfl, List.append_nil]; exact h2)
  clear hb1 bb2 q2 h2 b0 BA s1 EW CX hb
  go_loopg [17] r (fun gg i wr => ∃ (kk : Nat), kk ≤ r ∧ r - kk ≤ gg ∧ i = .int .i64 (kk : Int) ∧ Hid (Lib.IsBuilderF BT BE B p (Lib.byteCells (acc ++ litCtx ++ seqL (ctxF it nm) kk)) wr) ∧ Hid (Below B w wr) ∧ Hid (Lib.OthersKept BE (some p) w wr))
  case atStart => exact ⟨0, Nat.zero_le _, Nat.le_refl _, rfl, H2, BB2, K2⟩
  case round =>
    clear H2 BB2 K2
    obtain ⟨kk, hkk, hg, rfl, HB, BW, KW⟩ := hrel
    have sw := BW.out.size
    by_cases hlt : kk < r
    · obtain ⟨gN, oN, rfl, sN, nc, -⟩ := HN.out kk (by omega)
      obtain ⟨g4, o4, rfl, s4, k4, a4, n4, c4, b4, m4, d4, ⟨t0, t1, t2⟩, L4⟩ := HI.out kk (by omega)
      have gN' := HS.out gN sN
      have g4' := HS.out g4 s4
      have hlti : (0 : Int) ≤ (kk : Int) ∧ (kk : Int) < (r : Int) := by omega
      have hltn : kk < n := by omega
      have ncr : wr.cell? ⟨gN, oN + kk, none⟩ = some (.string (nm kk)) := cell_at nc BW.out gN'
      have R1 := RM1.out kk hlt
      have HLo := HLL.out
      have Q1 := quoteL_le (nm kk)
      have Q2 := comma_le kk
      have SH : (5 * (nm kk).size) ≤ 140737488355328 := by omega
      have A1 := Lib.hid (comma_walk B p (acc ++ litCtx ++ seqL (ctxF it nm) kk) kk wr HB.out (by simp only [List.length_append]; omega) (by omega))
      have A2 := Lib.hid (fun W (h1 : Lib.IsBuilderF BT BE B p (Lib.byteCells (acc ++ litCtx ++ seqL (ctxF it nm) kk ++ comma kk)) W) (h2 : B ≤ W.heap.size) => writeQuoted_walk B p _ (nm kk) W h1 (by simp only [List.length_append]; omega) h2)
      have A3 := Lib.hid (fun W (h1 : Lib.IsBuilderF BT BE B p (Lib.byteCells (acc ++ litCtx ++ seqL (ctxF it nm) kk ++ comma kk ++ quoteL (nm kk))) W) (h2 : B ≤ W.heap.size) => ws_any B p _ ⟨#[58, 32]⟩ W h1 (by simp only [List.length_append]; show _ + 2 ≤ _; omega) h2)
      have A4 := Lib.hid (fun W (l : Lies S W (TV k4 a4 n4 c4 b4 m4 d4) (it kk)) (h1 : Lib.IsBuilderF BT BE B p (Lib.byteCells (acc ++ litCtx ++ seqL (ctxF it nm) kk ++ comma kk ++ quoteL (nm kk) ++ [58, 32])) W) (h2 : B ≤ W.heap.size) => HK.out kk hltn S W k4 a4 n4 c4 b4 m4 d4 B p _ l HS.out h1 h2 (by simp only [List.length_append]; have : ([58, 32] : List UInt8).length = 2 := rfl; omega))
      have L5 := Lib.hid L4
      clear R1 HLo Q1 Q2 SH L4 nc
      go_wp2_with (first
        | (go_at_call 65; (with_reducible refine (A1.out).mono ?_); rintro e w5 ⟨rfl, h5, b5, q5⟩; have s5 := b5.size)
        | (go_at_call 47; (with_reducible refine (A2.out _ h5 (by omega)).mono ?_); rintro e w6 ⟨rfl, h6, b6, q6⟩; have s6 := b6.size)
        | (go_at_call 55; (with_reducible refine (A3.out _ h6 (by omega)).mono ?_); rintro e w7 ⟨rfl, h7, b7, q7⟩; have s7 := b7.size; have B7 := Lib.hid (((BW.out.trans b5).trans b6).trans b7); have v0 := cell_at t0 B7.out g4'; have v1 := cell_at t1 B7.out g4'; have v2 := cell_at t2 B7.out g4')
        | (go_at_call 36; (with_reducible refine (A4.out _ (L5.out.under HS.out B7.out) h7 (by omega)).mono ?_); rintro e w8 ⟨rfl, h8, b8, q8⟩))
      have H8 := Lib.hid (show Lib.IsBuilderF BT BE B p (Lib.byteCells (acc ++ litCtx ++ seqL (ctxF it nm) (kk + 1))) w8 from by
        have e : seqL (ctxF it nm) (kk + 1) = seqL (ctxF it nm) kk ++ comma kk ++ (quoteL (nm kk) ++ [58, 32] ++ textL (it kk)) := rfl
        rw [e]
        simpa only [List.append_assoc] using h8)
      have B8 := Lib.hid (B7.out.trans b8)
      have K8 := Lib.hid ((((KW.out.trans q5).trans q6).trans q7).trans q8)
      clear h5 h6 h7 h8 b5 b6 b7 b8 q5 q6 q7 q8 HB BW KW B7 A1 A2 A3 A4 L5 v0 v1 v2 ncr t0 t1 t2 s5 s6 s7
      go_roundg (r - (kk + 1))
      case measure => omega
      case rel => exact ⟨kk + 1, by omega, Nat.le_refl _, by go_num, H8, B8, K8⟩
    · obtain rfl : kk = r := by omega
      have HLo := HLL.out
      have RR := RM.out kk (Nat.le_refl _)
      have A5 := Lib.hid (ws_any B p _ ⟨#[62]⟩ wr HB.out (by simp only [List.length_append]; show _ + 1 ≤ _; omega) (by omega))
      clear HLo RR
      go_wp2_with (go_at_call 55; (with_reducible refine (A5.out).mono ?_); rintro e w8 ⟨rfl, h8, b8, q8⟩)
      go_end0
      refine ⟨rfl, ?_, BW.out.trans b8, KW.out.trans q8⟩
      rw [← List.append_assoc, ← List.append_assoc]
      exact h8
theorem Lies.under2 {S : Nat → Prop} {w w1 W : World} {v : Value} {t : T} {B : Nat} (h : Lies S w1 v t) (hS : ∀ g, S g → g < B) (b1 : Below B w w1) (b2 : Below B w W) : Lies S W v t := h.turned fun g s _ => (b2.block g (hS g s)).trans (b1.block g (hS g s)).symm
theorem fun_room1 (n : Nat) (it : Nat → T) (m : Nat) (nm : Nat → ByteArray) (j : Nat) (hj : j < n) : 80 + (seqL (fun i => textL (it i)) j).length + (room (it j) + 8) ≤ room (.mk 13 n it m nm) := by
  have h1 := seqL_le (fun i => textL (it i)) (fun i => room (it i)) j (fun i _ => textL_le (it i))
  have h2 := sumN_le (fun i => room (it i) + 2) (fun i => room (it i) + 8) j (fun i _ => by omega)
  have h6 : sumN (fun i => room (it i) + 8) (j + 1) = sumN (fun i => room (it i) + 8) j + (room (it j) + 8) := rfl
  have h3 := sumN_up (fun i => room (it i) + 8) n (j + 1) (by omega)
  show _ ≤ 80 + sumN (fun i => room (it i) + 8) n + sumN (fun i => 5 * (nm i).size + 8) m
  omega
theorem fun_room (n : Nat) (it : Nat → T) (m : Nat) (nm : Nat → ByteArray) : 14 + (seqL (fun i => textL (it i)) (n - 1)).length + room (T.gives (.mk 13 n it m nm)) ≤ room (.mk 13 n it m nm) := by
  show 14 + (seqL (fun i => textL (it i)) (n - 1)).length + room (if n = 0 then T.zero else it (n - 1)) ≤ _
  by_cases h : n = 0
  · subst h
    rw [if_pos rfl]
    show 14 + 0 + (40 + 0 + 0) ≤ 80 + 0 + sumN (fun i => 5 * (nm i).size + 8) m
    omega
  · rw [if_neg h]
    have := fun_room1 n it m nm (n - 1) (by omega)
    omega
theorem textL_fun (n : Nat) (it : Nat → T) (m : Nat) (nm : Nat → ByteArray) : textL (.mk 13 n it m nm) = litFun ++ seqL (fun i => textL (it i)) (n - 1) ++ litGives ++ textL (T.gives (.mk 13 n it m nm)) := by
  show litFun ++ seqL (fun i => textL (it i)) (n - 1) ++ litGives ++ (if n = 0 then [] else textL (it (n - 1))) = litFun ++ seqL (fun i => textL (it i)) (n - 1) ++ litGives ++ textL (if n = 0 then T.zero else it (n - 1))
  split
  · rw [text_zero]
  · rfl
set_option linter.unusedSimpArgs false in
set_option linter.unusedVariables false in
set_option maxRecDepth 100000 in
set_option maxHeartbeats 8000000 in
theorem writeFunction_walk (n : Nat) (it : Nat → T) (m : Nat) (nm : Nat → ByteArray) (HW : ∀ i, i < n → WritesFor (it i)) (HG : WritesFor (T.gives (.mk 13 n it m nm))) (S : Nat → Prop) (w : World) (a : Option Addr) (c : Nat) (b : Option Addr) (d : Nat) (B p : Nat) (acc : List UInt8) (h : Lies S w (TV 13 a n c b m d) (.mk 13 n it m nm)) (hS : ∀ g, S g → g < B) (hb : Lib.IsBuilderF BT BE B p (Lib.byteCells acc) w) (hB : B ≤ w.heap.size) (hl : acc.length + room (.mk 13 n it m nm) + 64 ≤ 140737488355328) :
    Calls Try.prog 57 #[.pointer (some ⟨p, 0, none⟩), TV 13 a n c b m d] w (Wrote B p (acc ++ textL (.mk 13 n it m nm)) w) := by
  obtain ⟨r, hr⟩ : ∃ r, r = n - 1 := ⟨_, rfl⟩
  have RM1 := Lib.hid (fun j (hj : j < r) => fun_room1 n it m nm j (by omega))
  have RM := Lib.hid (fun_room n it m nm)
  obtain ⟨FW, hc, hd, -, -, -⟩ := h.few
  have NB : (r : Int) ≤ 9223372036854775806 := by have := FW.1; omega
  have HC := Lib.hid (And.intro hc hd)
  have HI := Lib.hid h.items
  have lc : litFun.length = 9 := rfl
  have lg : litGives.length = 5 := rfl
  have PW := Lib.hid (fun X (l : Lies S X (TV 13 a n c b m d) (.mk 13 n it m nm)) => parts_walk 13 a n c b m d _ S X l)
  have HL := Lib.hid h
  have HK := Lib.hid HW
  have HGG := Lib.hid HG
  unfold WritesFor at HK HGG
  have HS := Lib.hid hS
  have HLL := Lib.hid hl
  have hp := builder_lt hb
  rw [textL_fun, ← hr]
  rw [← hr] at PW RM
  generalize T.gives (.mk 13 n it m nm) = G at *
  have hrn : r ≤ n := by omega
  have HR := Lib.hid hr
  have BA : Below B w (w.alloc (.cells #[.int .i64 13, .slice a n c, .slice b m d] 26)) := (Below.refl _ _).alloc hB _
  have b0 := hb.alloc (.cells #[.int .i64 13, .slice a n c, .slice b m d] 26)
  have CX := Lib.hid (fun (W : World) (h1 : Lib.IsBuilderF BT BE B p (Lib.byteCells acc) W) (h2 : B ≤ W.heap.size) => ws_any B p acc ⟨#[102, 117, 110, 99, 116, 105, 111, 110, 60]⟩ W h1 (by show acc.length + 9 ≤ _; omega) h2)
  clear h hc hd FW HW HG hS hl hr
  go_enter Try.func57, Try.ntmps57
  go_wp2_with (first
    | (go_at_call 63; (with_reducible refine (PW.out _ (HL.out.on ?_)).mono ?_); (· (repeat' (first | (with_reducible assumption) | (with_reducible exact Below.refl _ _) | (with_reducible refine Below.drew ?_) | (with_reducible refine ballD1 ?_ _) | (with_reducible refine Below.set1 ?_ _ _ ?_ _) | (show _ ≤ _; (try simp only [World.size_alloc, World.size_drew]); omega)))); rintro e w1 ⟨a0, c0, k1, a1, n1, c1, b1, m1, d1, rfl, ha, L1, hb1⟩; have s1 := hb1.size; (simp only [World.size_alloc] at s1))
    | (go_at_call 55; (with_reducible refine (CX.out _ ((builder_under b0 hb1).alloc _) (by simp only [World.size_alloc]; omega)).mono ?_); rintro e w2 ⟨rfl, h2, bb2, q2⟩))
  have HA := Lib.hid ha
  have BW1 := Lib.hid (show Below B w w1 from BA.trans (hb1.mono (by simp only [World.size_alloc]; omega)))
  have K2 := Lib.hid ((((Lib.OthersKept.refl BE (some p) w).alloc (.cells #[.int .i64 13, .slice a n c, .slice b m d] 26)).trans ((okept_below hb1).alloc (.cells #[.int .i64 k1, .slice a1 n1 c1, .slice b1 m1 d1] 26))).trans q2)
  have BB2 := Lib.hid (show Below B w w2 from (BW1.out.alloc (by omega) (.cells #[.int .i64 k1, .slice a1 n1 c1, .slice b1 m1 d1] 26)).trans bb2)
  have X2 := Lib.hid ((Boxed.new w1 (.int .i64 k1) (.slice a1 n1 c1) (.slice b1 m1 d1)).kept q2 (fun e => by omega))
  have H2 := Lib.hid (show Lib.IsBuilderF BT BE B p (Lib.byteCells (acc ++ litFun ++ seqL (fun i => textL (it i)) 0)) w2 from by rw [show seqL (fun i => textL (it i)) 0 = [] from rfl, List.append_nil]; exact h2)
  have L1h := Lib.hid L1
  obtain ⟨g5, hg5⟩ : ∃ g, g = w1.heap.size := ⟨_, rfl⟩
  rw [← hg5] at X2 ⊢
  have h5p : g5 ≠ p := by omega
  have hpB : p < g5 := by omega
  clear hb1 bb2 q2 h2 b0 BA s1 PW CX hb ha L1 hg5
  go_loopg [17] r (fun gg i wr => ∃ (kk : Nat), kk ≤ r ∧ r - kk ≤ gg ∧ i = .int .i64 (kk : Int) ∧ Hid (Lib.IsBuilderF BT BE B p (Lib.byteCells (acc ++ litFun ++ seqL (fun i => textL (it i)) kk)) wr) ∧ Hid (Below B w wr) ∧ Hid (Lib.OthersKept BE (some p) w wr) ∧ Hid (Boxed wr g5 (.int .i64 k1) (.slice a1 n1 c1) (.slice b1 m1 d1)))
  case atStart => exact ⟨0, Nat.zero_le _, Nat.le_refl _, rfl, H2, BB2, K2, X2⟩
  case round =>
    clear H2 BB2 K2 X2
    obtain ⟨kk, hkk, hg, rfl, HB, BW, KW, XW⟩ := hrel
    have sw := BW.out.size
    have gx5 := XW.out.lt
    by_cases hlt : kk < r
    · have hltn : kk < n := by omega
      obtain ⟨rfl, rfl⟩ := HA.out (by omega)
      obtain ⟨g4, o4, rfl, s4, k4, a4, n4, c4, b4, m4, d4, ⟨t0, t1, t2⟩, L4⟩ := HI.out kk hltn
      have g4' := HS.out g4 s4
      have hlti : (0 : Int) ≤ (kk : Int) ∧ (kk : Int) < (r : Int) := by omega
      have v0 := cell_at t0 BW.out g4'
      have v1 := cell_at t1 BW.out g4'
      have v2 := cell_at t2 BW.out g4'
      have R1 := RM1.out kk hlt
      have HLo := HLL.out
      have Q2 := comma_le kk
      have A1 := Lib.hid (fun W (h1 : Lib.IsBuilderF BT BE B p (Lib.byteCells (acc ++ litFun ++ seqL (fun i => textL (it i)) kk)) W) (h2 : B ≤ W.heap.size) => comma_walk B p _ kk W h1 (by simp only [List.length_append]; omega) h2)
      have A4 := Lib.hid (fun W (l : Lies S W (TV k4 a4 n4 c4 b4 m4 d4) (it kk)) (h1 : Lib.IsBuilderF BT BE B p (Lib.byteCells (acc ++ litFun ++ seqL (fun i => textL (it i)) kk ++ comma kk)) W) (h2 : B ≤ W.heap.size) => HK.out kk hltn S W k4 a4 n4 c4 b4 m4 d4 B p _ l HS.out h1 h2 (by simp only [List.length_append]; omega))
      have L5 := Lib.hid L4
      have BA5 := Lib.hid (show Below B w (wr.alloc (.cells #[.int .i64 k4, .slice a4 n4 c4, .slice b4 m4 d4] 26)) from BW.out.alloc (by omega) _)
      have KA5 := Lib.hid (KW.out.alloc (.cells #[.int .i64 k4, .slice a4 n4 c4, .slice b4 m4 d4] 26))
      have XA5 := Lib.hid (XW.out.below ((Below.refl _ _).alloc (Nat.le_refl _) (.cells #[.int .i64 k4, .slice a4 n4 c4, .slice b4 m4 d4] 26)))
      have HA5 := Lib.hid (HB.out.alloc (.cells #[.int .i64 k4, .slice a4 n4 c4, .slice b4 m4 d4] 26))
      have XN5 := Lib.hid (Boxed.new wr (.int .i64 k4) (.slice a4 n4 c4) (.slice b4 m4 d4))
      have hpr : wr.heap.size ≠ p := by omega
      clear R1 HLo Q2 L4 t0 t1 t2
      go_wp2_with (first
        | (go_at_call 65; (with_reducible refine (A1.out _ HA5.out (by simp only [World.size_alloc]; omega)).mono ?_); rintro e w5 ⟨rfl, h5, b5, q5⟩; have s5 := b5.size; (simp only [World.size_alloc] at s5); obtain ⟨x0, x1, x2⟩ := (XN5.out.kept q5 hpr).cells; have B7 := Lib.hid (BA5.out.trans b5))
        | (go_at_call 36; (with_reducible refine (A4.out _ (L5.out.under HS.out B7.out) h5 (by omega)).mono ?_); rintro e w8 ⟨rfl, h8, b8, q8⟩))
      have H8 := Lib.hid (show Lib.IsBuilderF BT BE B p (Lib.byteCells (acc ++ litFun ++ seqL (fun i => textL (it i)) (kk + 1))) w8 from by
        have e : seqL (fun i => textL (it i)) (kk + 1) = seqL (fun i => textL (it i)) kk ++ comma kk ++ textL (it kk) := rfl
        rw [e]
        simpa only [List.append_assoc] using h8)
      have B8 := Lib.hid (B7.out.trans b8)
      have K8 := Lib.hid ((KA5.out.trans q5).trans q8)
      have X8 := Lib.hid ((XA5.out.kept q5 h5p).kept q8 h5p)
      clear h5 h8 b5 b8 q5 q8 HB BW KW B7 A1 A4 L5 v0 v1 v2 x0 x1 x2 s5 BA5 KA5 XA5 HA5 XN5 XW
      go_roundg (r - (kk + 1))
      case measure => omega
      case rel => exact ⟨kk + 1, by omega, Nat.le_refl _, by go_num, H8, B8, K8, X8⟩
    · obtain rfl : kk = r := by omega
      have HLo := HLL.out
      have RR := RM.out
      have A5 := Lib.hid (ws_any B p _ ⟨#[62, 32, 45, 62, 32]⟩ wr HB.out (by simp only [List.length_append]; show _ + 5 ≤ _; omega) (by omega))
      have A6 := Lib.hid (fun W (l : Lies S W (TV k1 a1 n1 c1 b1 m1 d1) G) (h1 : Lib.IsBuilderF BT BE B p (Lib.byteCells (acc ++ litFun ++ seqL (fun i => textL (it i)) kk ++ litGives)) W) (h2 : B ≤ W.heap.size) => HGG.out S W k1 a1 n1 c1 b1 m1 d1 B p _ l HS.out h1 h2 (by simp only [List.length_append]; omega))
      clear HLo RR
      go_wp2_with (first
        | (go_at_call 55; (with_reducible refine (A5.out).mono ?_); rintro e w8 ⟨rfl, h8, b8, q8⟩; have s8 := b8.size; obtain ⟨x0, x1, x2⟩ := (XW.out.kept q8 h5p).cells; have h8' : Lib.IsBuilderF BT BE B p (Lib.byteCells (acc ++ litFun ++ seqL (fun i => textL (it i)) kk ++ litGives)) w8 := h8; have B8 := Lib.hid (BW.out.trans b8))
        | (go_at_call 36; (with_reducible refine (A6.out _ (Lies.under2 L1h.out HS.out BW1.out B8.out) h8' (by omega)).mono ?_); rintro e w9 ⟨rfl, h9, b9, q9⟩))
      go_end0
      refine ⟨rfl, ?_, B8.out.trans b9, (KW.out.trans q8).trans q9⟩
      simpa only [List.append_assoc] using h9
end Go.Proofs.Ytielmfchbgajnaa

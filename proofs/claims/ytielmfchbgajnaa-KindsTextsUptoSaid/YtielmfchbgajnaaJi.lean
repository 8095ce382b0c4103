/-
  Types held against one another: contexts.
-/
import Derived.Test.YtielmfchbgajnaaJh
import Derived.Test.YtielmfchbgajnaaJr
import Derived.Deep.CutBlock
namespace Go.Proofs.Ytielmfchbgajnaa
open Go.RowKit

/-- Where the loop over a context's names stands. -/
def CtxSt (t u : T) (S : Nat → Prop) (w : World) (r2 C : Nat) (V0 : World) (kk : Nat) (p q : Value) (wr : World) : Prop :=
  ∃ (x y : Bool) (L : List (ByteArray × T)) (xs : List Value) (ai bi : Option Addr) (ci di : Nat), p = .bool x ∧ q = .bool y ∧ Hid ((x, y, L) = ctxV (fun i => vd (t.it i)) t.nm u r2 kk) ∧
    wr.cell? ⟨C, 1, none⟩ = some (.slice ai L.length ci) ∧ wr.cell? ⟨C, 2, none⟩ = some (.slice bi L.length di) ∧
    Hid (Inv (Sx S w (w.heap.size + 1 + 1 + 1)) C V0 ai L.length ci xs bi L.length di (L.map fun p => .string p.1) L wr) ∧ Hid (∀ p ∈ L, Short p.1)
def CtxRel (t u : T) (S : Nat → Prop) (w : World) (r1 r2 C : Nat) (V0 : World) (gg : Nat) (p q i : Value) (wr : World) : Prop :=
  ∃ kk : Nat, kk ≤ r1 ∧ r1 - kk ≤ gg ∧ i = .int .i64 (kk : Int) ∧ CtxSt t u S w r2 C V0 kk p q wr
theorem ctxV_no {rec : Nat → T → V} {nm : Nat → ByteArray} {b : T} {nb i : Nat} {x y : Bool} {L : List (ByteArray × T)} (h : hasN b.nm (nm i) nb = false) (e : (x, y, L) = ctxV rec nm b nb i) : (x, false, L) = ctxV rec nm b nb (i + 1) := by
  unfold ctxV
  rw [h, ← e]
  rfl
theorem ctxV_yes {rec : Nat → T → V} {nm : Nat → ByteArray} {b : T} {nb i : Nat} {x y : Bool} {L : List (ByteArray × T)} {v : V} (h : hasN b.nm (nm i) nb = true) (hv : v = rec i (b.it (lastN b.nm (nm i) nb))) (e : (x, y, L) = ctxV rec nm b nb i) : (x && v.there, y && v.back, L ++ [(nm i, v.join)]) = ctxV rec nm b nb (i + 1) := by
  unfold ctxV
  rw [h, ← e, hv]
  rfl
theorem cell_at {V W : World} {N g o : Nat} {v : Value} (h : V.cell? ⟨g, o, none⟩ = some v) (hb : Below N V W) (hg : g < N) : W.cell? ⟨g, o, none⟩ = some v := (hb.cell (p := ⟨g, o, none⟩) hg).trans h
theorem Two.at {V W : World} {N g : Nat} {k : Int} {a : Option Addr} {n c : Nat} {b : Option Addr} {m d : Nat} {k' : Int} {a' : Option Addr} {n' c' : Nat} {b' : Option Addr} {m' d' : Nat} (h : Two V g k a n c b m d k' a' n' c' b' m' d') (hb : Below N V W) (hg : g + 1 < N) : Two W g k a n c b m d k' a' n' c' b' m' d' :=
  ⟨cell_at h.1 hb (by omega), cell_at h.2.1 hb (by omega), cell_at h.2.2.1 hb (by omega), cell_at h.2.2.2.1 hb (by omega), cell_at h.2.2.2.2.1 hb (by omega), cell_at h.2.2.2.2.2 hb (by omega)⟩
theorem Fresh.at {V W : World} {N g : Nat} (h : Fresh V g) (hb : Below N V W) (hg : g < N) : Fresh W g :=
  ⟨cell_at h.1 hb hg, cell_at h.2.1 hb hg, cell_at h.2.2.1 hb hg, cell_at h.2.2.2.1 hb hg, cell_at h.2.2.2.2.1 hb hg, fun i => (hb.frozen (p := ⟨g, i, none⟩) hg).trans (h.2.2.2.2.2 i)⟩
theorem PlacesIn.turned {V W : World} {B r : Nat} {nm : Nat → ByteArray} (h : PlacesIn V B r nm) (e : W.heap[B]? = V.heap[B]?) : PlacesIn W B r nm := by
  obtain ⟨es, clock, hb, q⟩ := h
  exact ⟨es, clock, e.trans hb, q⟩
theorem PlacesIn.lt {V : World} {B r : Nat} {nm : Nat → ByteArray} (h : PlacesIn V B r nm) : B < V.heap.size := by
  obtain ⟨es, clock, hb, q⟩ := h
  exact (Array.getElem?_eq_some_iff.1 hb).1
set_option linter.unusedSimpArgs false in
set_option linter.unusedVariables false in
set_option maxRecDepth 100000 in
set_option maxHeartbeats 4000000 in
theorem hold_ctx (t u : T) (KI : Kids t) (S : Nat → Prop) (w : World) (k : Int) (a : Option Addr) (n c : Nat) (b : Option Addr) (m d : Nat) (k' : Int) (a' : Option Addr) (n' c' : Nat) (b' : Option Addr) (m' d' : Nat) (h : Lies S w (TV k a n c b m d) t) (h' : Lies S w (TV k' a' n' c' b' m' d') u) :
    Calls Try.prog 51 #[TV k a n c b m d, TV k' a' n' c' b' m' d'] w (RetV (Sn S w) (judgeV t u ((ctxV (fun i => vd (t.it i)) t.nm u (min m' n') (min m n)).1 && min m' n' == (ctxV (fun i => vd (t.it i)) t.nm u (min m' n') (min m n)).2.2.length) (ctxV (fun i => vd (t.it i)) t.nm u (min m' n') (min m n)).2.1 (ctxT (ctxV (fun i => vd (t.it i)) t.nm u (min m' n') (min m n)).2.2)) w) := by
  obtain ⟨F1, F2, -, I1, -, -⟩ := h.few
  obtain ⟨F1', F2', -, I1', -, -⟩ := h'.few
  have H1 := Lib.hid h.sb
  have H2 := Lib.hid h'.sb
  have NM := h.mm
  have NN := h.nn
  obtain ⟨r1, hr1⟩ : ∃ r, r = min m n := ⟨_, rfl⟩
  obtain ⟨r2, hr2⟩ : ∃ r, r = min m' n' := ⟨_, rfl⟩
  have RB := Lib.hid (show r1 ≤ 2513169434843 from by have := F1.1; omega)
  have HR := Lib.hid (show r1 ≤ m ∧ r1 ≤ n ∧ r2 ≤ m' ∧ r2 ≤ n' from by omega)
  have FW := Lib.hid (show Few 0 r2 from ⟨Nat.zero_le _, by have := F1'.2; omega⟩)
  have HK := Lib.hid (show ∀ i, i < r1 → HoldsFor (t.it i) from fun i hi => KI i (by rw [NN]; omega))
  unfold HoldsFor at HK
  rw [← hr1, ← hr2]
  have E1 := Lib.hid (fun (S' : Nat → Prop) W (e : Lies S' W (TV k a n c b m d) t) => hr1 ▸ entries_walk k a n c b m d t S' W e)
  have E2 := Lib.hid (fun (S' : Nat → Prop) W (e : Lies S' W (TV k' a' n' c' b' m' d') u) => hr2 ▸ entries_walk k' a' n' c' b' m' d' u S' W e)
  have RW := Lib.hid (h'.row1)
  clear hr1 hr2 h h' F1 F2 F1' F2' I1 I1' KI NM NN
  go_enter Try.func51, Try.ntmps51
  go_wp2_with (first
    | (go_at_call 38; (with_reducible refine (E1.out _ _ (H1.out.on ?_)).mono ?_); (· (repeat' (first | (with_reducible assumption) | (with_reducible exact Below.refl _ _) | (with_reducible refine Below.drew ?_) | (with_reducible refine ballD1 ?_ _) | (with_reducible refine Below.set1 ?_ _ _ ?_ _) | (show _ ≤ _; (try simp only [World.size_alloc, World.size_drew]); omega)))); rintro e w1 ⟨rfl, hb1⟩; have sz1 := hb1.size; (try simp only [World.size_alloc, World.size_drew] at sz1); obtain ⟨hc1, hf1⟩ := bcell (hb1); have z1_0 : w.heap.size < w1.heap.size := (by omega); have z1_1 : w.heap.size + 1 < w1.heap.size := (by omega); have z1_2 : w.heap.size + 1 + 1 < w1.heap.size := (by omega))
    | (go_at_call 38; (with_reducible refine (E2.out _ _ (H2.out.on ?_)).mono ?_); (· (repeat' (first | (with_reducible assumption) | (with_reducible exact Below.refl _ _) | (with_reducible refine Below.drew ?_) | (with_reducible refine ballD1 ?_ _) | (with_reducible refine Below.set1 ?_ _ _ ?_ _) | (show _ ≤ _; (try simp only [World.size_alloc, World.size_drew]); omega) | (refine bstep ?_ hb1)))); rintro e w2 ⟨rfl, hb2⟩; have sz2 := hb2.size; (try simp only [World.size_alloc, World.size_drew] at sz2); obtain ⟨hc2, hf2⟩ := bcell (hb2); have z2_0 : w.heap.size < w2.heap.size := (by omega); have z2_1 : w.heap.size + 1 < w2.heap.size := (by omega); have z2_2 : w.heap.size + 1 + 1 < w2.heap.size := (by omega))
    | (go_at_call 58; (with_reducible refine (places_walk b' r2 d' u.nm _ FW.out ?_).mono ?_); (· exact (RW.out.less HR.out.2.2.1).on (by (repeat' (first | (with_reducible assumption) | (with_reducible exact Below.refl _ _) | (with_reducible refine Below.drew ?_) | (with_reducible refine ballD1 ?_ _) | (with_reducible refine Below.set1 ?_ _ _ ?_ _) | (show _ ≤ _; (try simp only [World.size_alloc, World.size_drew]); omega) | (refine bstep ?_ hb2) | (refine bstep ?_ hb1))))); rintro e wp ⟨rfl, hm, hb3⟩; have sz3 := hb3.size; (try simp only [World.size_alloc, World.size_drew] at sz3); obtain ⟨hc3, hf3⟩ := bcell (hb3); have z3_0 : w.heap.size < wp.heap.size := (by omega); have z3_1 : w.heap.size + 1 < wp.heap.size := (by omega); have z3_2 : w.heap.size + 1 + 1 < wp.heap.size := (by omega)))
  have HB : Below w.heap.size w ((wp.alloc (.cells #[.int .i64 11, .slice none 0 0, .slice none 0 0] 26))) := (by (repeat' (first | (with_reducible assumption) | (with_reducible exact Below.refl _ _) | (with_reducible refine Below.drew ?_) | (with_reducible refine ballD1 ?_ _) | (with_reducible refine Below.set1 ?_ _ _ ?_ _) | (show _ ≤ _; (try simp only [World.size_alloc, World.size_drew]); omega) | (refine bstep ?_ hb3) | (refine bstep ?_ hb2) | (refine bstep ?_ hb1))))
  have TW : Two ((wp.alloc (.cells #[.int .i64 11, .slice none 0 0, .slice none 0 0] 26))) w.heap.size k a n c b m d k' a' n' c' b' m' d' := Two.on (Two.start (w := w) (z := .cells #[.bool false, .bool false, .int .i64 0, .slice none 0 0, .slice none 0 0] 46) (x := 26) (y := 26)) (by (repeat' (first | (with_reducible assumption) | (with_reducible exact Below.refl _ _) | (with_reducible refine Below.drew ?_) | (with_reducible refine ballD1 ?_ _) | (with_reducible refine Below.set1 ?_ _ _ ?_ _) | (show _ ≤ _; (try simp only [World.size_alloc, World.size_drew]); omega) | (refine bstep ?_ hb3) | (refine bstep ?_ hb2) | (refine bstep ?_ hb1))))
  have FR : Fresh ((wp.alloc (.cells #[.int .i64 11, .slice none 0 0, .slice none 0 0] 26))) (w.heap.size + 1 + 1) := Fresh.on (Fresh.start (w := w) (x := .cells #[.int .i64 k, .slice a n c, .slice b m d] 26) (y := .cells #[.int .i64 k', .slice a' n' c', .slice b' m' d'] 26) (n := 46)) (by (repeat' (first | (with_reducible assumption) | (with_reducible exact Below.refl _ _) | (with_reducible refine Below.drew ?_) | (with_reducible refine ballD1 ?_ _) | (with_reducible refine Below.set1 ?_ _ _ ?_ _) | (show _ ≤ _; (try simp only [World.size_alloc, World.size_drew]); omega) | (refine bstep ?_ hb3) | (refine bstep ?_ hb2) | (refine bstep ?_ hb1))))
  have PM : PlacesIn (wp.alloc (.cells #[.int .i64 11, .slice none 0 0, .slice none 0 0] 26)) w2.heap.size r2 u.nm := hm.turned ((Below.refl wp.heap.size wp).alloc (Nat.le_refl _) _ |>.block _ hm.lt)
  have IV : Inv (Sx S w (w.heap.size + 1 + 1 + 1)) wp.heap.size (wp.alloc (.cells #[.int .i64 11, .slice none 0 0, .slice none 0 0] 26)) none 0 0 [] none 0 0 [] [] (wp.alloc (.cells #[.int .i64 11, .slice none 0 0, .slice none 0 0] 26)) := ⟨Below.refl _ _, by simp, by simp [go_sem], fun i => by simp [go_sem], World.ownsRow_nil _ _ _ _, World.ownsRow_nil _ _ _ _, fun _ e => (by cases e), .nil⟩
  have c1 : (wp.alloc (.cells #[.int .i64 11, .slice none 0 0, .slice none 0 0] 26)).cell? ⟨wp.heap.size, 1, none⟩ = some (.slice none 0 0) := by simp [go_sem]
  have c2 : (wp.alloc (.cells #[.int .i64 11, .slice none 0 0, .slice none 0 0] 26)).cell? ⟨wp.heap.size, 2, none⟩ = some (.slice none 0 0) := by simp [go_sem]
  have ML := hm.lt
  have MH : w.heap.size ≤ w2.heap.size := by omega
  have NC : w.heap.size + 1 + 1 < wp.heap.size := z3_2
  clear E1 E2 hc1 hf1 hc2 hf2 hb1 hb2 hc3 hf3 hb3 hm sz1 sz2 sz3 z1_0 z1_1 z1_2 z2_0 z2_1 z2_2 z3_0 z3_1 z3_2 RW FW
  generalize (wp.alloc (.cells #[.int .i64 11, .slice none 0 0, .slice none 0 0] 26)) = V0 at *
  generalize w2.heap.size = M at *
  generalize wp.heap.size = C at *
  go_loopg [11, 12, 33] r1 (fun gg p q i wr => CtxRel t u S w r1 r2 C V0 gg p q i wr)
  case atStart => exact ⟨0, Nat.zero_le _, Nat.le_refl _, rfl, true, true, [], [], none, none, 0, 0, rfl, rfl, Lib.hid rfl, c1, c2, Lib.hid IV, Lib.hid (fun _ h => (by cases h))⟩
  case round =>
    have C0 := IV.hc
    clear IV c1 c2
    obtain ⟨kk, hkk, hg, rfl, x, y, L, xs, ai, bi, ci, di, rfl, rfl, STT, c1, c2, IV, SH⟩ := hrel
    have BV := IV.out.bc
    have BW : Below w.heap.size w wr := HB.trans (BV.mono (by omega))
    by_cases hlt : kk < r1
    · have hlti : (0 : Int) ≤ (kk : Int) ∧ (kk : Int) < (r1 : Int) := by omega
      go_upto_block 1 with fail
      go_cut [11, 12] (fun p q W => CtxSt t u S w r2 C V0 (kk + 1) p q W)
      case first =>
        obtain ⟨gN, oN, rfl, nc, ng, sh⟩ := H1.out.name kk (by have := HR.out; omega)
        replace nc := cell_below nc BW
        have ng' := Nat.lt_of_lt_of_le ng BW.size
        obtain ⟨s, hs⟩ : ∃ s, s = t.nm kk := ⟨_, rfl⟩
        rw [← hs] at nc
        have hkey : keyOf Try.prog 9 (.string s) = some (key s) := by rw [hs]; exact short_key sh
        have PW : PlacesIn wr M r2 u.nm := PM.turned (BV.block M ML)
        have HS := Lib.hid (And.intro hs sh)
        have CL := IV.out.lt
        have leW := BW.size
        clear hs sh hg hkk ng TW FR
        cases hh : hasN u.nm s r2
        · go_wp2_with (first | (at_lookup; refine wpList_lookup_own_ok_int _ rfl _ _ 71 rfl 9 3 .i64 keyed9 Try.underlying71 Try.underlying3 (zero3 _) M r2 _ rfl PW _ _ rfl hkey ?_; intro cI hat hwf; rw [placesD_has, hh]) | go_in)
          go_meet
          case rel => exact ⟨x, false, L, xs, ai, bi, ci, di, rfl, rfl, Lib.hid (ctxV_no (by rw [← HS.out.1]; exact hh) STT.out), c1, c2, IV, SH⟩
        · obtain ⟨jl, jn⟩ := lastN_spec u.nm s r2 hh
          obtain ⟨j, hj⟩ : ∃ j, j = lastN u.nm s r2 := ⟨_, rfl⟩
          rw [← hj] at jl jn
          obtain ⟨g3, o3, rfl, k3, a3, n3, c3, b3, m3, d3, t0, t1, t2, tg, L3⟩ := H1.out.item kk (by have := HR.out; omega)
          obtain ⟨g4, o4, rfl, k4, a4, n4, c4, b4, m4, d4, u0, u1, u2, ug, L4⟩ := H2.out.item j (by have := HR.out; omega)
          replace t0 := cell_below t0 BW
          replace t1 := cell_below t1 BW
          replace t2 := cell_below t2 BW
          replace u0 := cell_below u0 BW
          replace u1 := cell_below u1 BW
          replace u2 := cell_below u2 BW
          have tg' := Nat.lt_of_lt_of_le tg BW.size
          have ug' := Nat.lt_of_lt_of_le ug BW.size
          replace L3 := L3.on BW
          replace L4 := L4.on BW
          have HJ := HK.out kk hlt
          have jli : (0 : Int) ≤ (j : Int) ∧ (j : Int) < (r2 : Int) := by omega
          have JJ := Lib.hid (And.intro hj jn)
          have hat2 := Lib.hid (show ∀ cI : Int, (placesD u.nm r2).atKey (key s) (.lit (.int .i64 0)) = .lit (.int .i64 cI) → cI = (j : Int) from fun cI e => by
            rw [placesD_at, ← hj] at e
            injection e with e
            injection e with _ e
            exact e.symm)
          clear hj jn tg ug
          go_wp2_with (first | (at_lookup; refine wpList_lookup_own_ok_int _ rfl _ _ 71 rfl 9 3 .i64 keyed9 Try.underlying71 Try.underlying3 (zero3 _) M r2 _ rfl PW _ _ rfl hkey ?_; intro cI hat hwf; rw [placesD_has, hh]; obtain rfl := hat2.out cI hat; clear hat hwf hat2) | go_in)
          have HB1 := Lib.hid BW
          have T0 : (wr.drew).cell? ⟨g3, o3 + kk * 3, none⟩ = some (.int .i64 k3) ∧ (wr.drew).cell? ⟨g3, o3 + kk * 3 + 1, none⟩ = some (.slice a3 n3 c3) ∧ (wr.drew).cell? ⟨g3, o3 + kk * 3 + 2, none⟩ = some (.slice b3 m3 d3) ∧ (wr.drew).cell? ⟨g4, o4 + j * 3, none⟩ = some (.int .i64 k4) ∧ (wr.drew).cell? ⟨g4, o4 + j * 3 + 1, none⟩ = some (.slice a4 n4 c4) ∧ (wr.drew).cell? ⟨g4, o4 + j * 3 + 2, none⟩ = some (.slice b4 m4 d4) := ⟨t0, t1, t2, u0, u1, u2⟩
          have T1 : ((wr.alloc (.cells #[.bool false, .bool false, .int .i64 0, .slice none 0 0, .slice none 0 0] 46)).drew).cell? ⟨g3, o3 + kk * 3, none⟩ = some (.int .i64 k3) ∧ ((wr.alloc (.cells #[.bool false, .bool false, .int .i64 0, .slice none 0 0, .slice none 0 0] 46)).drew).cell? ⟨g3, o3 + kk * 3 + 1, none⟩ = some (.slice a3 n3 c3) ∧ ((wr.alloc (.cells #[.bool false, .bool false, .int .i64 0, .slice none 0 0, .slice none 0 0] 46)).drew).cell? ⟨g3, o3 + kk * 3 + 2, none⟩ = some (.slice b3 m3 d3) ∧ ((wr.alloc (.cells #[.bool false, .bool false, .int .i64 0, .slice none 0 0, .slice none 0 0] 46)).drew).cell? ⟨g4, o4 + j * 3, none⟩ = some (.int .i64 k4) ∧ ((wr.alloc (.cells #[.bool false, .bool false, .int .i64 0, .slice none 0 0, .slice none 0 0] 46)).drew).cell? ⟨g4, o4 + j * 3 + 1, none⟩ = some (.slice a4 n4 c4) ∧ ((wr.alloc (.cells #[.bool false, .bool false, .int .i64 0, .slice none 0 0, .slice none 0 0] 46)).drew).cell? ⟨g4, o4 + j * 3 + 2, none⟩ = some (.slice b4 m4 d4) := keep33a T0 _
          go_cut [17] (fun p W => ∃ (g : Nat) (k5 : Int) (a5 : Option Addr) (n5 c5 : Nat) (b5 : Option Addr) (m5 d5 : Nat), p = .pointer (some ⟨g, 0, none⟩) ∧ wr.heap.size ≤ g ∧ Ver W g (vd (t.it kk) (u.it j)).there (vd (t.it kk) (u.it j)).back k5 a5 n5 c5 b5 m5 d5 ∧ Lies (SJ (Sx S w (w.heap.size + 1 + 1 + 1)) C ai bi) W (TV k5 a5 n5 c5 b5 m5 d5) (vd (t.it kk) (u.it j)).join ∧ Below wr.heap.size wr W)
          case first =>
            go_region_held3 (fun w' => w'.cell? ⟨g3, o3 + kk * 3, none⟩ = some (.int .i64 k3) ∧ w'.cell? ⟨g3, o3 + kk * 3 + 1, none⟩ = some (.slice a3 n3 c3) ∧ w'.cell? ⟨g3, o3 + kk * 3 + 2, none⟩ = some (.slice b3 m3 d3) ∧ w'.cell? ⟨g4, o4 + j * 3, none⟩ = some (.int .i64 k4) ∧ w'.cell? ⟨g4, o4 + j * 3 + 1, none⟩ = some (.slice a4 n4 c4) ∧ w'.cell? ⟨g4, o4 + j * 3 + 2, none⟩ = some (.slice b4 m4 d4))
              (first | (simp [go_sem]; done) | (repeat' (first | (with_reducible assumption) | (with_reducible exact T0) | (with_reducible exact T1) | (with_reducible refine keep33 ?_ (by with_reducible assumption)) | (with_reducible refine keep33d ?_) | (with_reducible refine keep33n (by with_reducible assumption) _ ?_ ?_) | (with_reducible refine keep33a ?_ _) | (with_reducible refine keep33s ?_ ?_ ?_ _) | (show _ ≠ _; (try dsimp only); omega) | (show _ < _; (try dsimp only); (try simp only [World.size_alloc, World.size_drew]); omega))))
              (first
                | (go_at_call 34; (with_reducible refine (HJ _ _ _ _ _ _ _ _ _ _ _ _ _ _ _ _ _ (Lies.on L3 ?_) (Lies.on L4 ?_)).mono ?_); (· (repeat' (first | (with_reducible assumption) | (with_reducible exact Below.refl _ _) | (with_reducible refine Below.drew ?_) | (with_reducible refine ballD1 ?_ _) | (with_reducible refine Below.set1 ?_ _ _ ?_ _) | (show _ ≤ _; (try simp only [World.size_alloc, World.size_drew]); omega)))); (· (repeat' (first | (with_reducible assumption) | (with_reducible exact Below.refl _ _) | (with_reducible refine Below.drew ?_) | (with_reducible refine ballD1 ?_ _) | (with_reducible refine Below.set1 ?_ _ _ ?_ _) | (show _ ≤ _; (try simp only [World.size_alloc, World.size_drew]); omega)))); rintro e w5 ⟨k5, a5, n5, c5, b5, m5, d5, rfl, L5, hb5⟩; have sz5 := hb5.size; (try simp only [World.size_alloc, World.size_drew] at sz5); obtain ⟨hc5, hf5⟩ := bcell (hb5); (try (refine (fun (y5_0 : wr.heap.size < w5.heap.size) => ?_) ?_; rotate_left; (· omega)))))
            all_goals
              go_wp2_with fail
              go_meet
              case rel =>
                refine ⟨_, k5, a5, n5, c5, b5, m5, d5, rfl, (by omega), ?_, ?_, ?_⟩
                · refine ⟨?_, ?_, ?_, ?_, ?_⟩ <;> simp [go_sem, *]
                · apply IV.out.join (by omega) ?_ (by omega)
                  · repeat' (first | (with_reducible exact L5) | (with_reducible refine Lies.alloc ?_ _) | (with_reducible refine Lies.set ?_ _ _ _ ?_))
                    all_goals (apply not_sn <;> (try simp only [World.size_alloc, World.size_drew]) <;> omega)
                  · (try simp only [World.size_alloc, World.size_drew]); omega
                · (repeat' (first | (with_reducible assumption) | (with_reducible exact Below.refl _ _) | (with_reducible refine Below.drew ?_) | (with_reducible refine ballD1 ?_ _) | (with_reducible refine Below.set1 ?_ _ _ ?_ _) | (show _ ≤ _; (try simp only [World.size_alloc, World.size_drew]); omega) | (refine bstep ?_ hb5)))
          case rest =>
            clear t0 t1 t2 u0 u1 u2 tg' ug' L3 L4 HJ nc ng' PW hkey T0 T1 leW
            obtain ⟨g, k5, a5, n5, c5, b5, m5, d5, rfl, gl, ⟨x0, x1, x2, x3, x4⟩, L5, BC⟩ := hcut
            have IV2 := Lib.hid (IV.out.below BC)
            replace c1 := cell_below c1 BC
            replace c2 := cell_below c2 BC
            have ST2 := Lib.hid (show (x && (vd (t.it kk) (u.it j)).there, y && (vd (t.it kk) (u.it j)).back, L ++ [(s, (vd (t.it kk) (u.it j)).join)]) = ctxV (fun i => vd (t.it i)) t.nm u r2 (kk + 1) from by
              have := ctxV_yes (v := (vd (t.it kk) (u.it j))) (by rw [← HS.out.1]; exact hh) (by rw [← HS.out.1, ← JJ.out.1]) STT.out
              rw [← HS.out.1] at this
              exact this)
            have LL := Lib.hid (show L.length ≤ kk from by
              have e : L.length = (ctxV (fun i => vd (t.it i)) t.nm u r2 kk).2.2.length := congrArg (fun z => z.2.2.length) STT.out
              have := ctxV_len (fun i => vd (t.it i)) t.nm u r2 kk
              omega)
            have gC := IV.out.lt
            have gI := Lib.hid (fun i (e : blk ai = some i) => IV.out.blkI e)
            have gN' := Lib.hid (fun i (e : blk bi = some i) => IV.out.blkN e)
            generalize (vd (t.it kk) (u.it j)) = v at *
            obtain ⟨vt, vb, vj⟩ := v
            clear IV STT PM BW HB1 BV hh BC
            go_wp2_with fail
            go_cut [11, 12] (fun p q W => p = .bool (x && vt) ∧ q = .bool (y && vb) ∧ W = wc.drew)
            case first =>
              cases x <;> cases y
              all_goals
                go_region
                go_wp2_with fail
                go_meet
                case rel => exact ⟨rfl, rfl, rfl⟩
            case rest =>
              obtain ⟨rfl, rfl, hW⟩ := hcut
              have U0 : wc.cell? ⟨C, 1, none⟩ = some (.slice ai L.length ci) ∧ wc.cell? ⟨C, 2, none⟩ = some (.slice bi L.length di) ∧ wc.cell? ⟨g, 2, none⟩ = some (.int .i64 k5) ∧ wc.cell? ⟨g, 3, none⟩ = some (.slice a5 n5 c5) ∧ wc.cell? ⟨g, 4, none⟩ = some (.slice b5 m5 d5) := by rw [hW]; exact ⟨c1, c2, x2, x3, x4⟩
              have IV3 : Inv (Sx S w (w.heap.size + 1 + 1 + 1)) C V0 ai L.length ci xs bi L.length di (L.map fun p => .string p.1) L wc := by rw [hW]; exact IV2.out.drew
              have L6 : Lies (SJ (Sx S w (w.heap.size + 1 + 1 + 1)) C ai bi) wc (TV k5 a5 n5 c5 b5 m5 d5) vj := by rw [hW]; exact L5.drew
              have nC1 : some C ≠ (Value.slice ai L.length ci).ownBlock := by rw [own_blk]; intro e; have := gI.out C e.symm; omega
              have nC2 : some C ≠ (Value.slice bi L.length di).ownBlock := by rw [own_blk]; intro e; have := gN'.out C e.symm; omega
              have ng1 : some g ≠ (Value.slice ai L.length ci).ownBlock := by rw [own_blk]; intro e; have := gI.out g e.symm; omega
              have ng2 : some g ≠ (Value.slice bi L.length di).ownBlock := by rw [own_blk]; intro e; have := gN'.out g e.symm; omega
              have gw := cell_lt U0.2.2.1
              have gc := IV3.lt
              have nB0 : some wc.heap.size ≠ (Value.slice bi L.length di).ownBlock := by rw [own_blk]; intro e; have := (IV3.blkN e.symm).2; omega
              have nB1 : some (wc.heap.size + 1) ≠ (Value.slice bi L.length di).ownBlock := by rw [own_blk]; intro e; have := (IV3.blkN e.symm).2; omega
              have B1 := Lib.hid (show L.length + 1 ≤ maxLen from by have := LL.out; have := RB.out; unfold maxLen; omega)
              have B2 := Lib.hid (show (L.length + 1) * 16 ≤ 140737488355328 from by have := LL.out; have := RB.out; omega)
              have B3 := Lib.hid (show (L.length + 1) * 56 ≤ 140737488355328 from by have := LL.out; have := RB.out; omega)
              have fz := IV3.fz
              obtain ⟨i9, hi9, hz9, hs9, hb9⟩ := info_parts info9
              obtain ⟨i26, hi26, hz26, hs26, hb26⟩ := info_parts info26
              clear c1 c2 x0 x1 x2 x3 x4 L5 IV2 hW
              go_wp2_with fail
              refine wp_region_noPanic ?_
              have SVa : wc.drew.cell? ⟨C, 1, none⟩ = some (.slice ai L.length ci) ∧ wc.drew.cell? ⟨C, 2, none⟩ = some (.slice bi L.length di) ∧ wc.drew.cell? ⟨g, 2, none⟩ = some (.int .i64 k5) ∧ wc.drew.cell? ⟨g, 3, none⟩ = some (.slice a5 n5 c5) ∧ wc.drew.cell? ⟨g, 4, none⟩ = some (.slice b5 m5 d5) := U0
              have IVVa : Inv (Sx S w (w.heap.size + 1 + 1 + 1)) C V0 ai L.length ci xs bi L.length di (L.map fun p => .string p.1) L wc.drew := IV3.drew
              have LJVa : Lies (SJ (Sx S w (w.heap.size + 1 + 1 + 1)) C ai bi) wc.drew (TV k5 a5 n5 c5 b5 m5 d5) vj := L6.drew
              refine run_start (g := 12) (S := fun w' => w'.cell? ⟨C, 1, none⟩ = some (.slice ai L.length ci) ∧ w'.cell? ⟨C, 2, none⟩ = some (.slice bi L.length di) ∧ w'.cell? ⟨g, 2, none⟩ = some (.int .i64 k5) ∧ w'.cell? ⟨g, 3, none⟩ = some (.slice a5 n5 c5) ∧ w'.cell? ⟨g, 4, none⟩ = some (.slice b5 m5 d5)) (by kernel_rfl) ?_
              clear U0 IV3 L6 nB0 nB1 gw gc fz
              generalize wc.drew = Va at *
              refine run_take (i := 0) (oi := { dst := some 65, op := Go.Op.fieldAddr 26 (Go.Operand.tmp 10) 2, type := 0, pos := "conforms.go:59", after := #[], guard := none }) (v := ?_) rfl (by kernel_rfl) (by kernel_rfl) (by kernel_rfl) (need_one (i := 0) (g := 12) (by kernel_rfl)) (by kernel_rfl) (by kernel_rfl) (fun _ _ _ h => h) (Or.inl ⟨by rfl, ?_⟩) SVa ?_
              rotate_left
              · intro w hSw
                try dsimp only at hSw
                go_simp
                try with_reducible rfl
              try simp only [Act.put, List.setIfInBounds_toArray, List.set_cons_zero, List.set_cons_succ]
              refine run_take (i := 1) (oi := { dst := some 66, op := Go.Op.load 24 (Go.Operand.tmp 65), type := 24, pos := "conforms.go:59", after := #[{ on := 0, ground := Go.Ground.data }], guard := none }) (v := ?_) rfl (by kernel_rfl) (by kernel_rfl) (by kernel_rfl) (need_one (i := 1) (g := 12) (by kernel_rfl)) (by kernel_rfl) (by kernel_rfl) (fun _ _ _ h => h) (Or.inl ⟨by rfl, ?_⟩) SVa ?_
              rotate_left
              · intro w hSw
                try dsimp only at hSw
                go_simp
                try with_reducible rfl
              try simp only [Act.put, List.setIfInBounds_toArray, List.set_cons_zero, List.set_cons_succ]
              refine run_take (i := 2) (oi := { dst := some 67, op := Go.Op.move (Go.Operand.tmp 14), type := 9, pos := "conforms.go:59", after := #[], guard := none }) (v := ?_) rfl (by kernel_rfl) (by kernel_rfl) (by kernel_rfl) (need_one (i := 2) (g := 12) (by kernel_rfl)) (by kernel_rfl) (by kernel_rfl) (fun _ _ _ h => h) (Or.inl ⟨by rfl, ?_⟩) SVa ?_
              rotate_left
              · intro w hSw
                try dsimp only at hSw
                go_simp
                try with_reducible rfl
              try simp only [Act.put, List.setIfInBounds_toArray, List.set_cons_zero, List.set_cons_succ]
              refine run_take (i := 5) (oi := { dst := some 70, op := Go.Op.fieldAddr 26 (Go.Operand.tmp 10) 1, type := 0, pos := "conforms.go:59", after := #[], guard := none }) (v := ?_) rfl (by kernel_rfl) (by kernel_rfl) (by kernel_rfl) (need_one (i := 5) (g := 12) (by kernel_rfl)) (by kernel_rfl) (by kernel_rfl) (fun _ _ _ h => h) (Or.inl ⟨by rfl, ?_⟩) SVa ?_
              rotate_left
              · intro w hSw
                try dsimp only at hSw
                go_simp
                try with_reducible rfl
              try simp only [Act.put, List.setIfInBounds_toArray, List.set_cons_zero, List.set_cons_succ]
              refine run_take (i := 6) (oi := { dst := some 71, op := Go.Op.load 23 (Go.Operand.tmp 70), type := 23, pos := "conforms.go:59", after := #[{ on := 5, ground := Go.Ground.data }], guard := none }) (v := ?_) rfl (by kernel_rfl) (by kernel_rfl) (by kernel_rfl) (need_one (i := 6) (g := 12) (by kernel_rfl)) (by kernel_rfl) (by kernel_rfl) (fun _ _ _ h => h) (Or.inl ⟨by rfl, ?_⟩) SVa ?_
              rotate_left
              · intro w hSw
                try dsimp only at hSw
                go_simp
                try with_reducible rfl
              try simp only [Act.put, List.setIfInBounds_toArray, List.set_cons_zero, List.set_cons_succ]
              refine run_take (i := 7) (oi := { dst := some 72, op := Go.Op.fieldAddr 46 (Go.Operand.tmp 17) 2, type := 0, pos := "conforms.go:59", after := #[], guard := none }) (v := ?_) rfl (by kernel_rfl) (by kernel_rfl) (by kernel_rfl) ((((need_one (i := 7) (g := 8) (by kernel_rfl)).step (g := 9) (by kernel_rfl)).step (g := 10) (by kernel_rfl)).step (g := 12) (by kernel_rfl)) (by kernel_rfl) (by kernel_rfl) (fun _ _ _ h => h) (Or.inl ⟨by rfl, ?_⟩) SVa ?_
              rotate_left
              · intro w hSw
                try dsimp only at hSw
                go_simp
                try with_reducible rfl
              try simp only [Act.put, List.setIfInBounds_toArray, List.set_cons_zero, List.set_cons_succ]
              refine run_take (i := 8) (oi := { dst := some 73, op := Go.Op.load 26 (Go.Operand.tmp 72), type := 26, pos := "conforms.go:59", after := #[{ on := 7, ground := Go.Ground.data }], guard := none }) (v := ?_) rfl (by kernel_rfl) (by kernel_rfl) (by kernel_rfl) (((need_one (i := 8) (g := 9) (by kernel_rfl)).step (g := 10) (by kernel_rfl)).step (g := 12) (by kernel_rfl)) (by kernel_rfl) (by kernel_rfl) (fun _ _ _ h => h) (Or.inl ⟨by rfl, ?_⟩) SVa ?_
              rotate_left
              · intro w hSw
                try dsimp only at hSw
                go_simp
                try with_reducible rfl
              try simp only [Act.put, List.setIfInBounds_toArray, List.set_cons_zero, List.set_cons_succ]
              refine run_ready (rs := [3, 9]) (by kernel_rfl) (by simp) ?_
              refine RunAll.cons (o := { dst := some 68, op := Go.Op.buildSlice 24 1 #[(0, Go.Operand.tmp 67)], type := 24, pos := "conforms.go:59", after := #[{ on := 2, ground := Go.Ground.data }], guard := none }) rfl (fun K hK => ?_) (RunAll.cons (o := { dst := some 74, op := Go.Op.buildSlice 23 1 #[(0, Go.Operand.tmp 73)], type := 23, pos := "conforms.go:59", after := #[{ on := 8, ground := Go.Ground.data }], guard := none }) rfl (fun K hK => ?_) RunAll.nil)
              · go_simp
                have IVV1 := IVVa.alloc (Obj.cells #[.string s] 9)
                have LJV1 := LJVa.alloc (Obj.cells #[.string s] 9)
                have SV1 := keep23a SVa (Obj.cells #[.string s] 9)
                have CXV1 : (Va.alloc (Obj.cells #[.string s] 9)).cell? ⟨Va.heap.size, 0, none⟩ = some (.string s) := by simp [go_sem]
                have leV1 : C < (Va.alloc (Obj.cells #[.string s] 9)).heap.size := IVV1.lt
                refine hK.out _ _ (fun _ => SV1) ?_
                clear hK K IVVa LJVa SVa
                try simp only [Act.put, List.setIfInBounds_toArray, List.set_cons_zero, List.set_cons_succ]
                obtain ⟨X, hX⟩ : ∃ X, X = Va.heap.size := ⟨_, rfl⟩
                rw [← hX] at CXV1 ⊢
                clear hX
                generalize Va.alloc (Obj.cells #[.string s] 9) = V1 at *
                refine run_ready (rs := [4, 9]) (by kernel_rfl) (by simp) ?_
                refine RunAll.cons (o := { dst := some 69, op := Go.Op.call { callee := Go.Callee.builtin Go.Builtin.append, args := #[Go.Operand.tmp 66, Go.Operand.tmp 68], argTypes := #[24, 24] }, type := 24, pos := "conforms.go:59", after := #[{ on := 1, ground := Go.Ground.data }, { on := 3, ground := Go.Ground.data }], guard := none }) rfl (fun K hK => ?_) (RunAll.cons (o := { dst := some 74, op := Go.Op.buildSlice 23 1 #[(0, Go.Operand.tmp 73)], type := 23, pos := "conforms.go:59", after := #[{ on := 8, ground := Go.Ground.data }], guard := none }) rfl (fun K hK => ?_) RunAll.nil)
                · refine step_append_lies V1 rfl (.tmp 66) (.tmp 68) 24 rfl (C + 1) 9 i9 _ 1 16 Try.underlying24 hi9 hz9 hs9 hb9 rfl (by decide) (.slice bi L.length di) L.length (L.map fun p => .string p.1) rfl IVV1.on ⟨X, 0, none⟩ 1 1 [.string s] rfl rfl (news1 CXV1) (oc1 s) (by decide) B1.out B2.out (Nat.succ_le_of_lt IVV1.lt) _ rfl ?_
                  intro g7 cap7 V2 hown hgrow hat hlt
                  have IVV2 := Inv.appN (S := Sx S w (w.heap.size + 1 + 1 + 1)) (C := C) (V0 := V0) (ai := ai) (n := L.length) (ci := ci) (xs := xs) (bi := bi) (m := L.length) (di := di) (ys := L.map fun p => .string p.1) (L := L) IVV1 hown hgrow hat
                  have LJV2 := Inv.farN (S := Sx S w (w.heap.size + 1 + 1 + 1)) (C := C) (V0 := V0) (ai := ai) (n := L.length) (ci := ci) (xs := xs) (bi := bi) (m := L.length) (di := di) (ys := L.map fun p => .string p.1) (L := L) IVV1 hgrow hat LJV1
                  have SV2 := keep23g SV1 hgrow nC2 ng2
                  refine hK.out _ _ (fun _ => SV2) ?_
                  clear hK K hown hgrow hat hlt IVV1 LJV1 SV1
                  try simp only [Act.put, List.setIfInBounds_toArray, List.set_cons_zero, List.set_cons_succ]
                  refine run_take (i := 11) (oi := { dst := some 76, op := Go.Op.fieldAddr 26 (Go.Operand.tmp 10) 2, type := 0, pos := "conforms.go:59", after := #[{ on := 0, ground := Go.Ground.phase }, { on := 1, ground := Go.Ground.phase }, { on := 2, ground := Go.Ground.phase }, { on := 3, ground := Go.Ground.phase }, { on := 4, ground := Go.Ground.phase }, { on := 5, ground := Go.Ground.phase }, { on := 6, ground := Go.Ground.phase }, { on := 7, ground := Go.Ground.textOnly Go.Departure.lateStores }, { on := 8, ground := Go.Ground.textOnly Go.Departure.lateStores }, { on := 9, ground := Go.Ground.textOnly Go.Departure.lateStores }, { on := 10, ground := Go.Ground.textOnly Go.Departure.lateStoresUnsure }], guard := none }) (v := ?_) rfl (by kernel_rfl) (by kernel_rfl) (by kernel_rfl) (need_one (i := 11) (g := 12) (by kernel_rfl)) (by kernel_rfl) (by kernel_rfl) (fun _ _ _ h => h) (Or.inl ⟨by rfl, ?_⟩) SV2 ?_
                  rotate_left
                  · intro w hSw
                    try dsimp only at hSw
                    go_simp
                    try with_reducible rfl
                  try simp only [Act.put, List.setIfInBounds_toArray, List.set_cons_zero, List.set_cons_succ]
                  refine run_ready (rs := [9]) (by kernel_rfl) (by simp) ?_
                  refine RunAll.cons (o := { dst := some 74, op := Go.Op.buildSlice 23 1 #[(0, Go.Operand.tmp 73)], type := 23, pos := "conforms.go:59", after := #[{ on := 8, ground := Go.Ground.data }], guard := none }) rfl (fun K hK => ?_) RunAll.nil
                  go_simp
                  have IVV3 := IVV2.alloc (Obj.cells #[.int .i64 k5, .slice a5 n5 c5, .slice b5 m5 d5] 26)
                  have LJV3 := LJV2.alloc (Obj.cells #[.int .i64 k5, .slice a5 n5 c5, .slice b5 m5 d5] 26)
                  have SV3 := keep23a SV2 (Obj.cells #[.int .i64 k5, .slice a5 n5 c5, .slice b5 m5 d5] 26)
                  have CY0V3 : (V2.alloc (Obj.cells #[.int .i64 k5, .slice a5 n5 c5, .slice b5 m5 d5] 26)).cell? ⟨V2.heap.size, 0, none⟩ = some (.int .i64 k5) := by simp [go_sem]
                  have CY1V3 : (V2.alloc (Obj.cells #[.int .i64 k5, .slice a5 n5 c5, .slice b5 m5 d5] 26)).cell? ⟨V2.heap.size, 1, none⟩ = some (.slice a5 n5 c5) := by simp [go_sem]
                  have CY2V3 : (V2.alloc (Obj.cells #[.int .i64 k5, .slice a5 n5 c5, .slice b5 m5 d5] 26)).cell? ⟨V2.heap.size, 2, none⟩ = some (.slice b5 m5 d5) := by simp [go_sem]
                  have leV3 : C < (V2.alloc (Obj.cells #[.int .i64 k5, .slice a5 n5 c5, .slice b5 m5 d5] 26)).heap.size := IVV3.lt
                  refine hK.out _ _ (fun _ => SV3) ?_
                  clear hK K IVV2 LJV2 SV2
                  try simp only [Act.put, List.setIfInBounds_toArray, List.set_cons_zero, List.set_cons_succ]
                  obtain ⟨Y, hY⟩ : ∃ Y, Y = V2.heap.size := ⟨_, rfl⟩
                  rw [← hY] at CY0V3 CY1V3 CY2V3 ⊢
                  clear hY
                  generalize V2.alloc (Obj.cells #[.int .i64 k5, .slice a5 n5 c5, .slice b5 m5 d5] 26) = V3 at *
                  refine run_ready (rs := [10]) (by kernel_rfl) (by simp) ?_
                  refine RunAll.cons (o := { dst := some 75, op := Go.Op.call { callee := Go.Callee.builtin Go.Builtin.append, args := #[Go.Operand.tmp 71, Go.Operand.tmp 74], argTypes := #[23, 23] }, type := 23, pos := "conforms.go:59", after := #[{ on := 6, ground := Go.Ground.data }, { on := 9, ground := Go.Ground.data }, { on := 4, ground := Go.Ground.chain }], guard := none }) rfl (fun K hK => ?_) RunAll.nil
                  refine step_append_lies V3 rfl (.tmp 71) (.tmp 74) 23 rfl (C + 1) 26 i26 _ 3 56 Try.underlying23 hi26 hz26 hs26 hb26 rfl (by decide) (.slice ai L.length ci) L.length xs rfl IVV3.oi ⟨Y, 0, none⟩ 1 1 [.int .i64 k5, .slice a5 n5 c5, .slice b5 m5 d5] rfl rfl (news3 CY0V3 CY1V3 CY2V3) (oc3 k5 a5 n5 c5 b5 m5 d5) (by decide) B1.out B3.out (Nat.succ_le_of_lt IVV3.lt) _ rfl ?_
                  intro g8 cap8 V4 hown hgrow hat hlt
                  have IVV4 := Inv.appI (s := s) (t := vj) (S := Sx S w (w.heap.size + 1 + 1 + 1)) (C := C) (V0 := V0) (ai := ai) (n := L.length) (ci := ci) (xs := xs) (bi := some ⟨g7, 0, none⟩) (m := L.length + 1) (di := cap7) (ys := (L.map fun p => .string p.1) ++ [.string s]) (L := L) IVV3 hown hgrow hat LJV3
                  have SV4 := keep23g SV3 hgrow nC1 ng1
                  refine hK.out _ _ (fun _ => SV4) ?_
                  clear hK K hown hgrow hat hlt IVV3 LJV3 SV3 CY0V3 CY1V3 CY2V3
                  try simp only [Act.put, List.setIfInBounds_toArray, List.set_cons_zero, List.set_cons_succ]
                  refine run_ready (rs := [12]) (by kernel_rfl) (by simp) ?_
                  refine RunAll.cons (o := { dst := none, op := Go.Op.store 24 (Go.Operand.tmp 76) (Go.Operand.tmp 69), type := 0, pos := "conforms.go:59", after := #[{ on := 11, ground := Go.Ground.data }, { on := 4, ground := Go.Ground.data }, { on := 10, ground := Go.Ground.chain }, { on := 0, ground := Go.Ground.phase }, { on := 1, ground := Go.Ground.phase }, { on := 2, ground := Go.Ground.phase }, { on := 3, ground := Go.Ground.phase }, { on := 4, ground := Go.Ground.phase }, { on := 5, ground := Go.Ground.phase }, { on := 6, ground := Go.Ground.phase }, { on := 7, ground := Go.Ground.textOnly Go.Departure.lateStores }, { on := 8, ground := Go.Ground.textOnly Go.Departure.lateStores }, { on := 9, ground := Go.Ground.textOnly Go.Departure.lateStores }, { on := 10, ground := Go.Ground.textOnly Go.Departure.lateStoresUnsure }], guard := none }) rfl (fun K hK => ?_) RunAll.nil
                  obtain ⟨e1, e2, -⟩ := SV4
                  have ef := IVV4.fz
                  go_simp
                  refine hK.out _ _ (fun h => absurd h (by decide)) ?_
                  clear hK K
                  try simp only [Act.put, List.setIfInBounds_toArray, List.set_cons_zero, List.set_cons_succ]
                  refine run_ready (rs := [13]) (by kernel_rfl) (by simp) ?_
                  refine RunAll.cons (o := { dst := some 77, op := Go.Op.fieldAddr 26 (Go.Operand.tmp 10) 1, type := 0, pos := "conforms.go:59", after := #[{ on := 0, ground := Go.Ground.phase }, { on := 1, ground := Go.Ground.phase }, { on := 2, ground := Go.Ground.phase }, { on := 3, ground := Go.Ground.phase }, { on := 4, ground := Go.Ground.phase }, { on := 5, ground := Go.Ground.phase }, { on := 6, ground := Go.Ground.phase }, { on := 7, ground := Go.Ground.phase }, { on := 8, ground := Go.Ground.phase }, { on := 9, ground := Go.Ground.phase }, { on := 10, ground := Go.Ground.phase }, { on := 11, ground := Go.Ground.phase }, { on := 12, ground := Go.Ground.phase }], guard := none }) rfl (fun K hK => ?_) RunAll.nil
                  go_simp
                  refine hK.out _ _ (fun h => absurd h (by decide)) ?_
                  clear hK K
                  try simp only [Act.put, List.setIfInBounds_toArray, List.set_cons_zero, List.set_cons_succ]
                  refine run_ready (rs := [14]) (by kernel_rfl) (by simp) ?_
                  refine RunAll.cons (o := { dst := none, op := Go.Op.store 23 (Go.Operand.tmp 77) (Go.Operand.tmp 75), type := 0, pos := "conforms.go:59", after := #[{ on := 13, ground := Go.Ground.data }, { on := 10, ground := Go.Ground.data }, { on := 12, ground := Go.Ground.chain }, { on := 0, ground := Go.Ground.phase }, { on := 1, ground := Go.Ground.phase }, { on := 2, ground := Go.Ground.phase }, { on := 3, ground := Go.Ground.phase }, { on := 4, ground := Go.Ground.phase }, { on := 5, ground := Go.Ground.phase }, { on := 6, ground := Go.Ground.phase }, { on := 7, ground := Go.Ground.phase }, { on := 8, ground := Go.Ground.phase }, { on := 9, ground := Go.Ground.phase }, { on := 10, ground := Go.Ground.phase }, { on := 11, ground := Go.Ground.phase }, { on := 12, ground := Go.Ground.phase }], guard := none }) rfl (fun K hK => ?_) RunAll.nil
                  go_simp
                  refine hK.out _ _ (fun h => absurd h (by decide)) ?_
                  clear hK K
                  try simp only [Act.put, List.setIfInBounds_toArray, List.set_cons_zero, List.set_cons_succ]
                  refine run_done (by kernel_rfl) ?_ _
                  refine NoPanic.normal ?_
                  go_wp2_with fail
                  go_meet
                  case rel =>
                    have le : (L ++ [(s, vj)]).length = L.length + 1 := by simp
                    have IVz := (IVV4.setC 1 (.slice (some ⟨g7, 0, none⟩) (L.length + 1) cap7)).setC 0 (.slice (some ⟨g8, 0, none⟩) (L.length + 1) cap8)
                    refine ⟨_, _, L ++ [(s, vj)], xs ++ [.int .i64 k5, .slice a5 n5 c5, .slice b5 m5 d5], some ⟨g8, 0, none⟩, some ⟨g7, 0, none⟩, cap8, cap7, rfl, rfl, ST2, ?_, ?_, Lib.hid ?_, Lib.hid ?_⟩
                    · rw [le]; simp [go_sem, e1, e2]
                    · rw [le]; simp [go_sem, e1, e2]
                    · rw [le, List.map_append]; exact IVz
                    · intro p hp
                      rcases List.mem_append.1 hp with q | q
                      · exact SH.out p q
                      · rw [List.mem_singleton.1 q]
                        show Short s
                        rw [HS.out.1]
                        exact HS.out.2
                · go_simp
                  have IVV2 := IVV1.alloc (Obj.cells #[.int .i64 k5, .slice a5 n5 c5, .slice b5 m5 d5] 26)
                  have LJV2 := LJV1.alloc (Obj.cells #[.int .i64 k5, .slice a5 n5 c5, .slice b5 m5 d5] 26)
                  have SV2 := keep23a SV1 (Obj.cells #[.int .i64 k5, .slice a5 n5 c5, .slice b5 m5 d5] 26)
                  have CXV2 := cell_below CXV1 ((Below.refl _ _).alloc (Nat.le_refl _) (Obj.cells #[.int .i64 k5, .slice a5 n5 c5, .slice b5 m5 d5] 26))
                  have CY0V2 : (V1.alloc (Obj.cells #[.int .i64 k5, .slice a5 n5 c5, .slice b5 m5 d5] 26)).cell? ⟨V1.heap.size, 0, none⟩ = some (.int .i64 k5) := by simp [go_sem]
                  have CY1V2 : (V1.alloc (Obj.cells #[.int .i64 k5, .slice a5 n5 c5, .slice b5 m5 d5] 26)).cell? ⟨V1.heap.size, 1, none⟩ = some (.slice a5 n5 c5) := by simp [go_sem]
                  have CY2V2 : (V1.alloc (Obj.cells #[.int .i64 k5, .slice a5 n5 c5, .slice b5 m5 d5] 26)).cell? ⟨V1.heap.size, 2, none⟩ = some (.slice b5 m5 d5) := by simp [go_sem]
                  have nY : some V1.heap.size ≠ (Value.slice bi L.length di).ownBlock := by rw [own_blk]; intro e; have := (IVV1.blkN e.symm).2; omega
                  have leV2 : C < (V1.alloc (Obj.cells #[.int .i64 k5, .slice a5 n5 c5, .slice b5 m5 d5] 26)).heap.size := IVV2.lt
                  refine hK.out _ _ (fun _ => SV2) ?_
                  clear hK K IVV1 LJV1 SV1
                  try simp only [Act.put, List.setIfInBounds_toArray, List.set_cons_zero, List.set_cons_succ]
                  obtain ⟨Y, hY⟩ : ∃ Y, Y = V1.heap.size := ⟨_, rfl⟩
                  rw [← hY] at CY0V2 CY1V2 CY2V2 nY ⊢
                  clear hY
                  generalize V1.alloc (Obj.cells #[.int .i64 k5, .slice a5 n5 c5, .slice b5 m5 d5] 26) = V2 at *
                  refine run_ready (rs := [4]) (by kernel_rfl) (by simp) ?_
                  refine RunAll.cons (o := { dst := some 69, op := Go.Op.call { callee := Go.Callee.builtin Go.Builtin.append, args := #[Go.Operand.tmp 66, Go.Operand.tmp 68], argTypes := #[24, 24] }, type := 24, pos := "conforms.go:59", after := #[{ on := 1, ground := Go.Ground.data }, { on := 3, ground := Go.Ground.data }], guard := none }) rfl (fun K hK => ?_) RunAll.nil
                  refine step_append_lies V2 rfl (.tmp 66) (.tmp 68) 24 rfl (C + 1) 9 i9 _ 1 16 Try.underlying24 hi9 hz9 hs9 hb9 rfl (by decide) (.slice bi L.length di) L.length (L.map fun p => .string p.1) rfl IVV2.on ⟨X, 0, none⟩ 1 1 [.string s] rfl rfl (news1 CXV2) (oc1 s) (by decide) B1.out B2.out (Nat.succ_le_of_lt IVV2.lt) _ rfl ?_
                  intro g7 cap7 V3 hown hgrow hat hlt
                  have IVV3 := Inv.appN (S := Sx S w (w.heap.size + 1 + 1 + 1)) (C := C) (V0 := V0) (ai := ai) (n := L.length) (ci := ci) (xs := xs) (bi := bi) (m := L.length) (di := di) (ys := L.map fun p => .string p.1) (L := L) IVV2 hown hgrow hat
                  have LJV3 := Inv.farN (S := Sx S w (w.heap.size + 1 + 1 + 1)) (C := C) (V0 := V0) (ai := ai) (n := L.length) (ci := ci) (xs := xs) (bi := bi) (m := L.length) (di := di) (ys := L.map fun p => .string p.1) (L := L) IVV2 hgrow hat LJV2
                  have SV3 := keep23g SV2 hgrow nC2 ng2
                  have CY0V3 := (hgrow.cell_far ⟨Y, 0, none⟩ (cell_lt CY0V2) nY).trans CY0V2
                  have CY1V3 := (hgrow.cell_far ⟨Y, 1, none⟩ (cell_lt CY1V2) nY).trans CY1V2
                  have CY2V3 := (hgrow.cell_far ⟨Y, 2, none⟩ (cell_lt CY2V2) nY).trans CY2V2
                  refine hK.out _ _ (fun _ => SV3) ?_
                  clear hK K hown hgrow hat hlt IVV2 LJV2 SV2
                  try simp only [Act.put, List.setIfInBounds_toArray, List.set_cons_zero, List.set_cons_succ]
                  refine run_take (i := 11) (oi := { dst := some 76, op := Go.Op.fieldAddr 26 (Go.Operand.tmp 10) 2, type := 0, pos := "conforms.go:59", after := #[{ on := 0, ground := Go.Ground.phase }, { on := 1, ground := Go.Ground.phase }, { on := 2, ground := Go.Ground.phase }, { on := 3, ground := Go.Ground.phase }, { on := 4, ground := Go.Ground.phase }, { on := 5, ground := Go.Ground.phase }, { on := 6, ground := Go.Ground.phase }, { on := 7, ground := Go.Ground.textOnly Go.Departure.lateStores }, { on := 8, ground := Go.Ground.textOnly Go.Departure.lateStores }, { on := 9, ground := Go.Ground.textOnly Go.Departure.lateStores }, { on := 10, ground := Go.Ground.textOnly Go.Departure.lateStoresUnsure }], guard := none }) (v := ?_) rfl (by kernel_rfl) (by kernel_rfl) (by kernel_rfl) (need_one (i := 11) (g := 12) (by kernel_rfl)) (by kernel_rfl) (by kernel_rfl) (fun _ _ _ h => h) (Or.inl ⟨by rfl, ?_⟩) SV3 ?_
                  rotate_left
                  · intro w hSw
                    try dsimp only at hSw
                    go_simp
                    try with_reducible rfl
                  try simp only [Act.put, List.setIfInBounds_toArray, List.set_cons_zero, List.set_cons_succ]
                  refine run_ready (rs := [10]) (by kernel_rfl) (by simp) ?_
                  refine RunAll.cons (o := { dst := some 75, op := Go.Op.call { callee := Go.Callee.builtin Go.Builtin.append, args := #[Go.Operand.tmp 71, Go.Operand.tmp 74], argTypes := #[23, 23] }, type := 23, pos := "conforms.go:59", after := #[{ on := 6, ground := Go.Ground.data }, { on := 9, ground := Go.Ground.data }, { on := 4, ground := Go.Ground.chain }], guard := none }) rfl (fun K hK => ?_) RunAll.nil
                  refine step_append_lies V3 rfl (.tmp 71) (.tmp 74) 23 rfl (C + 1) 26 i26 _ 3 56 Try.underlying23 hi26 hz26 hs26 hb26 rfl (by decide) (.slice ai L.length ci) L.length xs rfl IVV3.oi ⟨Y, 0, none⟩ 1 1 [.int .i64 k5, .slice a5 n5 c5, .slice b5 m5 d5] rfl rfl (news3 CY0V3 CY1V3 CY2V3) (oc3 k5 a5 n5 c5 b5 m5 d5) (by decide) B1.out B3.out (Nat.succ_le_of_lt IVV3.lt) _ rfl ?_
                  intro g8 cap8 V4 hown hgrow hat hlt
                  have IVV4 := Inv.appI (s := s) (t := vj) (S := Sx S w (w.heap.size + 1 + 1 + 1)) (C := C) (V0 := V0) (ai := ai) (n := L.length) (ci := ci) (xs := xs) (bi := some ⟨g7, 0, none⟩) (m := L.length + 1) (di := cap7) (ys := (L.map fun p => .string p.1) ++ [.string s]) (L := L) IVV3 hown hgrow hat LJV3
                  have SV4 := keep23g SV3 hgrow nC1 ng1
                  refine hK.out _ _ (fun _ => SV4) ?_
                  clear hK K hown hgrow hat hlt IVV3 LJV3 SV3 CY0V3 CY1V3 CY2V3
                  try simp only [Act.put, List.setIfInBounds_toArray, List.set_cons_zero, List.set_cons_succ]
                  refine run_ready (rs := [12]) (by kernel_rfl) (by simp) ?_
                  refine RunAll.cons (o := { dst := none, op := Go.Op.store 24 (Go.Operand.tmp 76) (Go.Operand.tmp 69), type := 0, pos := "conforms.go:59", after := #[{ on := 11, ground := Go.Ground.data }, { on := 4, ground := Go.Ground.data }, { on := 10, ground := Go.Ground.chain }, { on := 0, ground := Go.Ground.phase }, { on := 1, ground := Go.Ground.phase }, { on := 2, ground := Go.Ground.phase }, { on := 3, ground := Go.Ground.phase }, { on := 4, ground := Go.Ground.phase }, { on := 5, ground := Go.Ground.phase }, { on := 6, ground := Go.Ground.phase }, { on := 7, ground := Go.Ground.textOnly Go.Departure.lateStores }, { on := 8, ground := Go.Ground.textOnly Go.Departure.lateStores }, { on := 9, ground := Go.Ground.textOnly Go.Departure.lateStores }, { on := 10, ground := Go.Ground.textOnly Go.Departure.lateStoresUnsure }], guard := none }) rfl (fun K hK => ?_) RunAll.nil
                  obtain ⟨e1, e2, -⟩ := SV4
                  have ef := IVV4.fz
                  go_simp
                  refine hK.out _ _ (fun h => absurd h (by decide)) ?_
                  clear hK K
                  try simp only [Act.put, List.setIfInBounds_toArray, List.set_cons_zero, List.set_cons_succ]
                  refine run_ready (rs := [13]) (by kernel_rfl) (by simp) ?_
                  refine RunAll.cons (o := { dst := some 77, op := Go.Op.fieldAddr 26 (Go.Operand.tmp 10) 1, type := 0, pos := "conforms.go:59", after := #[{ on := 0, ground := Go.Ground.phase }, { on := 1, ground := Go.Ground.phase }, { on := 2, ground := Go.Ground.phase }, { on := 3, ground := Go.Ground.phase }, { on := 4, ground := Go.Ground.phase }, { on := 5, ground := Go.Ground.phase }, { on := 6, ground := Go.Ground.phase }, { on := 7, ground := Go.Ground.phase }, { on := 8, ground := Go.Ground.phase }, { on := 9, ground := Go.Ground.phase }, { on := 10, ground := Go.Ground.phase }, { on := 11, ground := Go.Ground.phase }, { on := 12, ground := Go.Ground.phase }], guard := none }) rfl (fun K hK => ?_) RunAll.nil
                  go_simp
                  refine hK.out _ _ (fun h => absurd h (by decide)) ?_
                  clear hK K
                  try simp only [Act.put, List.setIfInBounds_toArray, List.set_cons_zero, List.set_cons_succ]
                  refine run_ready (rs := [14]) (by kernel_rfl) (by simp) ?_
                  refine RunAll.cons (o := { dst := none, op := Go.Op.store 23 (Go.Operand.tmp 77) (Go.Operand.tmp 75), type := 0, pos := "conforms.go:59", after := #[{ on := 13, ground := Go.Ground.data }, { on := 10, ground := Go.Ground.data }, { on := 12, ground := Go.Ground.chain }, { on := 0, ground := Go.Ground.phase }, { on := 1, ground := Go.Ground.phase }, { on := 2, ground := Go.Ground.phase }, { on := 3, ground := Go.Ground.phase }, { on := 4, ground := Go.Ground.phase }, { on := 5, ground := Go.Ground.phase }, { on := 6, ground := Go.Ground.phase }, { on := 7, ground := Go.Ground.phase }, { on := 8, ground := Go.Ground.phase }, { on := 9, ground := Go.Ground.phase }, { on := 10, ground := Go.Ground.phase }, { on := 11, ground := Go.Ground.phase }, { on := 12, ground := Go.Ground.phase }], guard := none }) rfl (fun K hK => ?_) RunAll.nil
                  go_simp
                  refine hK.out _ _ (fun h => absurd h (by decide)) ?_
                  clear hK K
                  try simp only [Act.put, List.setIfInBounds_toArray, List.set_cons_zero, List.set_cons_succ]
                  refine run_done (by kernel_rfl) ?_ _
                  refine NoPanic.normal ?_
                  go_wp2_with fail
                  go_meet
                  case rel =>
                    have le : (L ++ [(s, vj)]).length = L.length + 1 := by simp
                    have IVz := (IVV4.setC 1 (.slice (some ⟨g7, 0, none⟩) (L.length + 1) cap7)).setC 0 (.slice (some ⟨g8, 0, none⟩) (L.length + 1) cap8)
                    refine ⟨_, _, L ++ [(s, vj)], xs ++ [.int .i64 k5, .slice a5 n5 c5, .slice b5 m5 d5], some ⟨g8, 0, none⟩, some ⟨g7, 0, none⟩, cap8, cap7, rfl, rfl, ST2, ?_, ?_, Lib.hid ?_, Lib.hid ?_⟩
                    · rw [le]; simp [go_sem, e1, e2]
                    · rw [le]; simp [go_sem, e1, e2]
                    · rw [le, List.map_append]; exact IVz
                    · intro p hp
                      rcases List.mem_append.1 hp with q | q
                      · exact SH.out p q
                      · rw [List.mem_singleton.1 q]
                        show Short s
                        rw [HS.out.1]
                        exact HS.out.2
              · go_simp
                have IVV1 := IVVa.alloc (Obj.cells #[.int .i64 k5, .slice a5 n5 c5, .slice b5 m5 d5] 26)
                have LJV1 := LJVa.alloc (Obj.cells #[.int .i64 k5, .slice a5 n5 c5, .slice b5 m5 d5] 26)
                have SV1 := keep23a SVa (Obj.cells #[.int .i64 k5, .slice a5 n5 c5, .slice b5 m5 d5] 26)
                have CY0V1 : (Va.alloc (Obj.cells #[.int .i64 k5, .slice a5 n5 c5, .slice b5 m5 d5] 26)).cell? ⟨Va.heap.size, 0, none⟩ = some (.int .i64 k5) := by simp [go_sem]
                have CY1V1 : (Va.alloc (Obj.cells #[.int .i64 k5, .slice a5 n5 c5, .slice b5 m5 d5] 26)).cell? ⟨Va.heap.size, 1, none⟩ = some (.slice a5 n5 c5) := by simp [go_sem]
                have CY2V1 : (Va.alloc (Obj.cells #[.int .i64 k5, .slice a5 n5 c5, .slice b5 m5 d5] 26)).cell? ⟨Va.heap.size, 2, none⟩ = some (.slice b5 m5 d5) := by simp [go_sem]
                have nY : some Va.heap.size ≠ (Value.slice bi L.length di).ownBlock := by rw [own_blk]; intro e; have := (IVVa.blkN e.symm).2; omega
                have leV1 : C < (Va.alloc (Obj.cells #[.int .i64 k5, .slice a5 n5 c5, .slice b5 m5 d5] 26)).heap.size := IVV1.lt
                refine hK.out _ _ (fun _ => SV1) ?_
                clear hK K IVVa LJVa SVa
                try simp only [Act.put, List.setIfInBounds_toArray, List.set_cons_zero, List.set_cons_succ]
                obtain ⟨Y, hY⟩ : ∃ Y, Y = Va.heap.size := ⟨_, rfl⟩
                rw [← hY] at CY0V1 CY1V1 CY2V1 nY ⊢
                clear hY
                generalize Va.alloc (Obj.cells #[.int .i64 k5, .slice a5 n5 c5, .slice b5 m5 d5] 26) = V1 at *
                refine run_ready (rs := [3]) (by kernel_rfl) (by simp) ?_
                refine RunAll.cons (o := { dst := some 68, op := Go.Op.buildSlice 24 1 #[(0, Go.Operand.tmp 67)], type := 24, pos := "conforms.go:59", after := #[{ on := 2, ground := Go.Ground.data }], guard := none }) rfl (fun K hK => ?_) RunAll.nil
                go_simp
                have IVV2 := IVV1.alloc (Obj.cells #[.string s] 9)
                have LJV2 := LJV1.alloc (Obj.cells #[.string s] 9)
                have SV2 := keep23a SV1 (Obj.cells #[.string s] 9)
                have CY0V2 := cell_below CY0V1 ((Below.refl _ _).alloc (Nat.le_refl _) (Obj.cells #[.string s] 9))
                have CY1V2 := cell_below CY1V1 ((Below.refl _ _).alloc (Nat.le_refl _) (Obj.cells #[.string s] 9))
                have CY2V2 := cell_below CY2V1 ((Below.refl _ _).alloc (Nat.le_refl _) (Obj.cells #[.string s] 9))
                have CXV2 : (V1.alloc (Obj.cells #[.string s] 9)).cell? ⟨V1.heap.size, 0, none⟩ = some (.string s) := by simp [go_sem]
                have leV2 : C < (V1.alloc (Obj.cells #[.string s] 9)).heap.size := IVV2.lt
                refine hK.out _ _ (fun _ => SV2) ?_
                clear hK K IVV1 LJV1 SV1
                try simp only [Act.put, List.setIfInBounds_toArray, List.set_cons_zero, List.set_cons_succ]
                obtain ⟨X, hX⟩ : ∃ X, X = V1.heap.size := ⟨_, rfl⟩
                rw [← hX] at CXV2 ⊢
                clear hX
                generalize V1.alloc (Obj.cells #[.string s] 9) = V2 at *
                refine run_ready (rs := [4]) (by kernel_rfl) (by simp) ?_
                refine RunAll.cons (o := { dst := some 69, op := Go.Op.call { callee := Go.Callee.builtin Go.Builtin.append, args := #[Go.Operand.tmp 66, Go.Operand.tmp 68], argTypes := #[24, 24] }, type := 24, pos := "conforms.go:59", after := #[{ on := 1, ground := Go.Ground.data }, { on := 3, ground := Go.Ground.data }], guard := none }) rfl (fun K hK => ?_) RunAll.nil
                refine step_append_lies V2 rfl (.tmp 66) (.tmp 68) 24 rfl (C + 1) 9 i9 _ 1 16 Try.underlying24 hi9 hz9 hs9 hb9 rfl (by decide) (.slice bi L.length di) L.length (L.map fun p => .string p.1) rfl IVV2.on ⟨X, 0, none⟩ 1 1 [.string s] rfl rfl (news1 CXV2) (oc1 s) (by decide) B1.out B2.out (Nat.succ_le_of_lt IVV2.lt) _ rfl ?_
                intro g7 cap7 V3 hown hgrow hat hlt
                have IVV3 := Inv.appN (S := Sx S w (w.heap.size + 1 + 1 + 1)) (C := C) (V0 := V0) (ai := ai) (n := L.length) (ci := ci) (xs := xs) (bi := bi) (m := L.length) (di := di) (ys := L.map fun p => .string p.1) (L := L) IVV2 hown hgrow hat
                have LJV3 := Inv.farN (S := Sx S w (w.heap.size + 1 + 1 + 1)) (C := C) (V0 := V0) (ai := ai) (n := L.length) (ci := ci) (xs := xs) (bi := bi) (m := L.length) (di := di) (ys := L.map fun p => .string p.1) (L := L) IVV2 hgrow hat LJV2
                have SV3 := keep23g SV2 hgrow nC2 ng2
                have CY0V3 := (hgrow.cell_far ⟨Y, 0, none⟩ (cell_lt CY0V2) nY).trans CY0V2
                have CY1V3 := (hgrow.cell_far ⟨Y, 1, none⟩ (cell_lt CY1V2) nY).trans CY1V2
                have CY2V3 := (hgrow.cell_far ⟨Y, 2, none⟩ (cell_lt CY2V2) nY).trans CY2V2
                refine hK.out _ _ (fun _ => SV3) ?_
                clear hK K hown hgrow hat hlt IVV2 LJV2 SV2
                try simp only [Act.put, List.setIfInBounds_toArray, List.set_cons_zero, List.set_cons_succ]
                refine run_take (i := 11) (oi := { dst := some 76, op := Go.Op.fieldAddr 26 (Go.Operand.tmp 10) 2, type := 0, pos := "conforms.go:59", after := #[{ on := 0, ground := Go.Ground.phase }, { on := 1, ground := Go.Ground.phase }, { on := 2, ground := Go.Ground.phase }, { on := 3, ground := Go.Ground.phase }, { on := 4, ground := Go.Ground.phase }, { on := 5, ground := Go.Ground.phase }, { on := 6, ground := Go.Ground.phase }, { on := 7, ground := Go.Ground.textOnly Go.Departure.lateStores }, { on := 8, ground := Go.Ground.textOnly Go.Departure.lateStores }, { on := 9, ground := Go.Ground.textOnly Go.Departure.lateStores }, { on := 10, ground := Go.Ground.textOnly Go.Departure.lateStoresUnsure }], guard := none }) (v := ?_) rfl (by kernel_rfl) (by kernel_rfl) (by kernel_rfl) (need_one (i := 11) (g := 12) (by kernel_rfl)) (by kernel_rfl) (by kernel_rfl) (fun _ _ _ h => h) (Or.inl ⟨by rfl, ?_⟩) SV3 ?_
                rotate_left
                · intro w hSw
                  try dsimp only at hSw
                  go_simp
                  try with_reducible rfl
                try simp only [Act.put, List.setIfInBounds_toArray, List.set_cons_zero, List.set_cons_succ]
                refine run_ready (rs := [10]) (by kernel_rfl) (by simp) ?_
                refine RunAll.cons (o := { dst := some 75, op := Go.Op.call { callee := Go.Callee.builtin Go.Builtin.append, args := #[Go.Operand.tmp 71, Go.Operand.tmp 74], argTypes := #[23, 23] }, type := 23, pos := "conforms.go:59", after := #[{ on := 6, ground := Go.Ground.data }, { on := 9, ground := Go.Ground.data }, { on := 4, ground := Go.Ground.chain }], guard := none }) rfl (fun K hK => ?_) RunAll.nil
                refine step_append_lies V3 rfl (.tmp 71) (.tmp 74) 23 rfl (C + 1) 26 i26 _ 3 56 Try.underlying23 hi26 hz26 hs26 hb26 rfl (by decide) (.slice ai L.length ci) L.length xs rfl IVV3.oi ⟨Y, 0, none⟩ 1 1 [.int .i64 k5, .slice a5 n5 c5, .slice b5 m5 d5] rfl rfl (news3 CY0V3 CY1V3 CY2V3) (oc3 k5 a5 n5 c5 b5 m5 d5) (by decide) B1.out B3.out (Nat.succ_le_of_lt IVV3.lt) _ rfl ?_
                intro g8 cap8 V4 hown hgrow hat hlt
                have IVV4 := Inv.appI (s := s) (t := vj) (S := Sx S w (w.heap.size + 1 + 1 + 1)) (C := C) (V0 := V0) (ai := ai) (n := L.length) (ci := ci) (xs := xs) (bi := some ⟨g7, 0, none⟩) (m := L.length + 1) (di := cap7) (ys := (L.map fun p => .string p.1) ++ [.string s]) (L := L) IVV3 hown hgrow hat LJV3
                have SV4 := keep23g SV3 hgrow nC1 ng1
                refine hK.out _ _ (fun _ => SV4) ?_
                clear hK K hown hgrow hat hlt IVV3 LJV3 SV3 CY0V3 CY1V3 CY2V3
                try simp only [Act.put, List.setIfInBounds_toArray, List.set_cons_zero, List.set_cons_succ]
                refine run_ready (rs := [12]) (by kernel_rfl) (by simp) ?_
                refine RunAll.cons (o := { dst := none, op := Go.Op.store 24 (Go.Operand.tmp 76) (Go.Operand.tmp 69), type := 0, pos := "conforms.go:59", after := #[{ on := 11, ground := Go.Ground.data }, { on := 4, ground := Go.Ground.data }, { on := 10, ground := Go.Ground.chain }, { on := 0, ground := Go.Ground.phase }, { on := 1, ground := Go.Ground.phase }, { on := 2, ground := Go.Ground.phase }, { on := 3, ground := Go.Ground.phase }, { on := 4, ground := Go.Ground.phase }, { on := 5, ground := Go.Ground.phase }, { on := 6, ground := Go.Ground.phase }, { on := 7, ground := Go.Ground.textOnly Go.Departure.lateStores }, { on := 8, ground := Go.Ground.textOnly Go.Departure.lateStores }, { on := 9, ground := Go.Ground.textOnly Go.Departure.lateStores }, { on := 10, ground := Go.Ground.textOnly Go.Departure.lateStoresUnsure }], guard := none }) rfl (fun K hK => ?_) RunAll.nil
                obtain ⟨e1, e2, -⟩ := SV4
                have ef := IVV4.fz
                go_simp
                refine hK.out _ _ (fun h => absurd h (by decide)) ?_
                clear hK K
                try simp only [Act.put, List.setIfInBounds_toArray, List.set_cons_zero, List.set_cons_succ]
                refine run_ready (rs := [13]) (by kernel_rfl) (by simp) ?_
                refine RunAll.cons (o := { dst := some 77, op := Go.Op.fieldAddr 26 (Go.Operand.tmp 10) 1, type := 0, pos := "conforms.go:59", after := #[{ on := 0, ground := Go.Ground.phase }, { on := 1, ground := Go.Ground.phase }, { on := 2, ground := Go.Ground.phase }, { on := 3, ground := Go.Ground.phase }, { on := 4, ground := Go.Ground.phase }, { on := 5, ground := Go.Ground.phase }, { on := 6, ground := Go.Ground.phase }, { on := 7, ground := Go.Ground.phase }, { on := 8, ground := Go.Ground.phase }, { on := 9, ground := Go.Ground.phase }, { on := 10, ground := Go.Ground.phase }, { on := 11, ground := Go.Ground.phase }, { on := 12, ground := Go.Ground.phase }], guard := none }) rfl (fun K hK => ?_) RunAll.nil
                go_simp
                refine hK.out _ _ (fun h => absurd h (by decide)) ?_
                clear hK K
                try simp only [Act.put, List.setIfInBounds_toArray, List.set_cons_zero, List.set_cons_succ]
                refine run_ready (rs := [14]) (by kernel_rfl) (by simp) ?_
                refine RunAll.cons (o := { dst := none, op := Go.Op.store 23 (Go.Operand.tmp 77) (Go.Operand.tmp 75), type := 0, pos := "conforms.go:59", after := #[{ on := 13, ground := Go.Ground.data }, { on := 10, ground := Go.Ground.data }, { on := 12, ground := Go.Ground.chain }, { on := 0, ground := Go.Ground.phase }, { on := 1, ground := Go.Ground.phase }, { on := 2, ground := Go.Ground.phase }, { on := 3, ground := Go.Ground.phase }, { on := 4, ground := Go.Ground.phase }, { on := 5, ground := Go.Ground.phase }, { on := 6, ground := Go.Ground.phase }, { on := 7, ground := Go.Ground.phase }, { on := 8, ground := Go.Ground.phase }, { on := 9, ground := Go.Ground.phase }, { on := 10, ground := Go.Ground.phase }, { on := 11, ground := Go.Ground.phase }, { on := 12, ground := Go.Ground.phase }], guard := none }) rfl (fun K hK => ?_) RunAll.nil
                go_simp
                refine hK.out _ _ (fun h => absurd h (by decide)) ?_
                clear hK K
                try simp only [Act.put, List.setIfInBounds_toArray, List.set_cons_zero, List.set_cons_succ]
                refine run_done (by kernel_rfl) ?_ _
                refine NoPanic.normal ?_
                go_wp2_with fail
                go_meet
                case rel =>
                  have le : (L ++ [(s, vj)]).length = L.length + 1 := by simp
                  have IVz := (IVV4.setC 1 (.slice (some ⟨g7, 0, none⟩) (L.length + 1) cap7)).setC 0 (.slice (some ⟨g8, 0, none⟩) (L.length + 1) cap8)
                  refine ⟨_, _, L ++ [(s, vj)], xs ++ [.int .i64 k5, .slice a5 n5 c5, .slice b5 m5 d5], some ⟨g8, 0, none⟩, some ⟨g7, 0, none⟩, cap8, cap7, rfl, rfl, ST2, ?_, ?_, Lib.hid ?_, Lib.hid ?_⟩
                  · rw [le]; simp [go_sem, e1, e2]
                  · rw [le]; simp [go_sem, e1, e2]
                  · rw [le, List.map_append]; exact IVz
                  · intro p hp
                    rcases List.mem_append.1 hp with q | q
                    · exact SH.out p q
                    · rw [List.mem_singleton.1 q]
                      show Short s
                      rw [HS.out.1]
                      exact HS.out.2
      case rest =>
        have KB : (kk : Int) + 1 ≤ 9223372036854775807 := by have := RB.out; omega
        have HQ := Lib.hid hcut
        clear hcut
        go_wp2
        go_roundg (r1 - (kk + 1))
        case measure => omega
        case rel => exact ⟨kk + 1, by omega, Nat.le_refl _, by go_num, HQ.out⟩
    · have : kk = r1 := by omega
      subst this
      obtain ⟨y0, y1, y2, y3, y4, y5⟩ := TW.at BV (by omega)
      obtain ⟨q0, q1, q2, q3, q4, q5⟩ := FR.at BV NC
      have c0 := IV.out.c0
      have qs := cell_lt q0
      have CL := IV.out.lt
      have LC := Lib.hid (show Lies (Sx S w (w.heap.size + 1 + 1 + 1)) wr (TV 11 ai L.length ci bi L.length di) (ctxT L) from
        ctx_lies IV.out.oi IV.out.on (IV.out.rw.map fun _ _ l => l.wide fun _ _ s => s.1) SH.out (by
          have e := congrArg (fun z => z.2.2.length) STT.out
          have := ctxV_len (fun i => vd (t.it i)) t.nm u r2 kk
          have e' : L.length = (ctxV (fun i => vd (t.it i)) t.nm u r2 kk).2.2.length := e
          have := RB.out; constructor <;> omega) (fun g e => .inr (by have := (IV.out.blkI e).1; omega)) (fun g e => .inr (by have := (IV.out.blkN e).1; omega)))
      obtain ⟨l, hl⟩ : ∃ l, l = L.length := ⟨_, rfl⟩
      rw [← hl] at c1 c2 LC
      have HL := Lib.hid hl
      obtain ⟨z, hz⟩ : ∃ z, z = ((r2 : Int) == (l : Int)) := ⟨_, rfl⟩
      have HZ := Lib.hid (show z = (r2 == l) from by
        rw [hz]
        by_cases e : r2 = l
        · subst e; simp
        · rw [beq_eq_false_iff_ne.2 e, beq_eq_false_iff_ne.2 (by omega)])
      have hz' := hz.symm
      have HS := Lib.hid (And.intro STT IV)
      clear hg hkk hl hz STT IV SH hlt
      cases x
      · go_wp2_with (go_at_call 48; (with_reducible refine (judge_any (S := (Sx S w (w.heap.size + 1 + 1 + 1))) _ _ (Lies.sx (H1.out.on ?_)) (Lies.sx (H2.out.on ?_)) LC.out).mono ?_); (· (repeat' (first | (with_reducible assumption) | (with_reducible exact Below.refl _ _) | (with_reducible refine Below.drew ?_) | (with_reducible refine ballD1 ?_ _) | (with_reducible refine Below.set1 ?_ _ _ ?_ _) | (show _ ≤ _; (try simp only [World.size_alloc, World.size_drew]); omega)))); (· (repeat' (first | (with_reducible assumption) | (with_reducible exact Below.refl _ _) | (with_reducible refine Below.drew ?_) | (with_reducible refine ballD1 ?_ _) | (with_reducible refine Below.set1 ?_ _ _ ?_ _) | (show _ ≤ _; (try simp only [World.size_alloc, World.size_drew]); omega)))); rintro e w6 ⟨k6, a6, n6, c6, b6, m6, d6, rfl, L6, hb6⟩; have sz6 := hb6.size; (try simp only [World.size_alloc, World.size_drew] at sz6); obtain ⟨hc6, hf6⟩ := bcell (hb6); have z6_0 : w.heap.size + 1 + 1 < w6.heap.size := (by omega))
        have B6 := bstep BW hb6
        have e1 : ((ctxV (fun i => vd (t.it i)) t.nm u r2 kk).1 && r2 == (ctxV (fun i => vd (t.it i)) t.nm u r2 kk).2.2.length) = false := by rw [← HS.out.1.out]; exact rfl
        have e2 : (ctxV (fun i => vd (t.it i)) t.nm u r2 kk).2.1 = y := by rw [← HS.out.1.out]
        have e3 : (ctxV (fun i => vd (t.it i)) t.nm u r2 kk).2.2 = L := by rw [← HS.out.1.out]
        refine bodyPost_ret (v := VV (judgeV t u false y (ctxT L)).there (judgeV t u false y (ctxT L)).back k6 a6 n6 c6 b6 m6 d6) (by simp [results, Try.results51, go_sem, *]) rfl ⟨k6, a6, n6, c6, b6, m6, d6, ?_, ?_, ?_⟩
        · rw [e1, e2, e3]
        · rw [e1, e2, e3]
          refine Lies.out (N := w.heap.size + 1 + 1 + 1) ?_ (by omega)
          repeat' (first | (with_reducible exact L6) | (with_reducible refine Lies.set ?_ _ _ _ ?_))
          all_goals (apply not_sx <;> omega)
        · (repeat' (first | (with_reducible assumption) | (with_reducible exact Below.refl _ _) | (with_reducible refine Below.drew ?_) | (with_reducible refine ballD1 ?_ _) | (with_reducible refine Below.set1 ?_ _ _ ?_ _) | (show _ ≤ _; (try simp only [World.size_alloc, World.size_drew]); omega) | (with_reducible exact B6)))
      · go_wp2_with (go_at_call 48; (with_reducible refine (judge_any (S := (Sx S w (w.heap.size + 1 + 1 + 1))) _ _ (Lies.sx (H1.out.on ?_)) (Lies.sx (H2.out.on ?_)) LC.out).mono ?_); (· (repeat' (first | (with_reducible assumption) | (with_reducible exact Below.refl _ _) | (with_reducible refine Below.drew ?_) | (with_reducible refine ballD1 ?_ _) | (with_reducible refine Below.set1 ?_ _ _ ?_ _) | (show _ ≤ _; (try simp only [World.size_alloc, World.size_drew]); omega)))); (· (repeat' (first | (with_reducible assumption) | (with_reducible exact Below.refl _ _) | (with_reducible refine Below.drew ?_) | (with_reducible refine ballD1 ?_ _) | (with_reducible refine Below.set1 ?_ _ _ ?_ _) | (show _ ≤ _; (try simp only [World.size_alloc, World.size_drew]); omega)))); rintro e w6 ⟨k6, a6, n6, c6, b6, m6, d6, rfl, L6, hb6⟩; have sz6 := hb6.size; (try simp only [World.size_alloc, World.size_drew] at sz6); obtain ⟨hc6, hf6⟩ := bcell (hb6); have z6_0 : w.heap.size + 1 + 1 < w6.heap.size := (by omega))
        have B6 := bstep BW hb6
        have e1 : ((ctxV (fun i => vd (t.it i)) t.nm u r2 kk).1 && r2 == (ctxV (fun i => vd (t.it i)) t.nm u r2 kk).2.2.length) = z := by rw [← HS.out.1.out]; exact (by show (true && r2 == L.length) = z; rw [← HL.out, HZ.out]; rfl)
        have e2 : (ctxV (fun i => vd (t.it i)) t.nm u r2 kk).2.1 = y := by rw [← HS.out.1.out]
        have e3 : (ctxV (fun i => vd (t.it i)) t.nm u r2 kk).2.2 = L := by rw [← HS.out.1.out]
        refine bodyPost_ret (v := VV (judgeV t u z y (ctxT L)).there (judgeV t u z y (ctxT L)).back k6 a6 n6 c6 b6 m6 d6) (by simp [results, Try.results51, go_sem, *]) rfl ⟨k6, a6, n6, c6, b6, m6, d6, ?_, ?_, ?_⟩
        · rw [e1, e2, e3]
        · rw [e1, e2, e3]
          refine Lies.out (N := w.heap.size + 1 + 1 + 1) ?_ (by omega)
          repeat' (first | (with_reducible exact L6) | (with_reducible refine Lies.set ?_ _ _ _ ?_))
          all_goals (apply not_sx <;> omega)
        · (repeat' (first | (with_reducible assumption) | (with_reducible exact Below.refl _ _) | (with_reducible refine Below.drew ?_) | (with_reducible refine ballD1 ?_ _) | (with_reducible refine Below.set1 ?_ _ _ ?_ _) | (show _ ≤ _; (try simp only [World.size_alloc, World.size_drew]); omega) | (with_reducible exact B6)))
end Go.Proofs.Ytielmfchbgajnaa

/-
  Package lexical: a text cut at a sign, the numbers that a text has: each as a contract of its call.
-/
import Derived.Test.YthgondbiddncpaaDoorYb
import Derived.Test.YthgondbiddncpaaDoorYp
import Derived.Lib.OthersKept
import Derived.Deep.LoopGhost
import Derived.Lib.CutLaws
namespace Go.Proofs.YthgondbiddncpaaDoor
open Go.RowKit

/-! ### strings.Cut at one sign -/
theorem cut1_index (c : UInt8) : ∀ l : List UInt8, (Lib.indexByte l c = -1 ∧ cut1 c l = (l, [], false)) ∨ ∃ i : Nat, Lib.indexByte l c = (i : Int) ∧ i < l.length ∧ cut1 c l = (l.take i, l.drop (i + 1), true) := by
  intro l
  induction l with
  | nil => exact .inl ⟨rfl, rfl⟩
  | cons b t ih =>
    by_cases q : b = c
    · refine .inr ⟨0, ?_, by simp, ?_⟩
      · unfold Lib.indexByte; rw [if_pos (by simpa using q)]; rfl
      · unfold cut1; rw [if_pos q]; rfl
    · have qb : ¬ (b == c) = true := by simpa using q
      rcases ih with ⟨h1, h2⟩ | ⟨i, h1, h2, h3⟩
      · refine .inl ⟨?_, ?_⟩
        · unfold Lib.indexByte; rw [if_neg qb, h1]; rfl
        · unfold cut1; rw [if_neg q, h2]
      · refine .inr ⟨i + 1, ?_, by rw [List.length_cons]; omega, ?_⟩
        · unfold Lib.indexByte; rw [if_neg qb, h1, if_neg (by first | (simp; done) | (simp; omega))]; omega
        · unfold cut1; rw [if_neg q, h3]; rfl
theorem str_take (s : ByteArray) (i : Nat) : s.extract 0 i = ⟨(s.data.toList.take i).toArray⟩ := by
  apply ByteArray.ext
  rw [ByteArray.data_extract]
  apply Array.ext'
  simp
theorem str_drop (s : ByteArray) (i : Nat) : s.extract i s.size = ⟨(s.data.toList.drop i).toArray⟩ := by
  apply ByteArray.ext
  rw [ByteArray.data_extract]
  apply Array.ext'
  rw [Array.toList_extract, List.extract_eq_take_drop]
  show List.take (s.size - i) (List.drop i s.data.toList) = List.drop i s.data.toList
  rw [List.take_of_length_le]
  rw [List.length_drop]
  exact Nat.le_of_eq rfl
/-- What a cut answers. -/
abbrev Cv (c : UInt8) (s : ByteArray) : Value := .tuple #[.string ⟨(cut1 c s.data.toList).1.toArray⟩, .string ⟨(cut1 c s.data.toList).2.1.toArray⟩, .bool (cut1 c s.data.toList).2.2]
set_option maxRecDepth 100000 in
set_option maxHeartbeats 4000000 in
theorem cutIn_any (c : UInt8) (s : ByteArray) (hs : s.size ≤ 200000000000000) (w : World) : Calls Tryd.prog 66 #[.string s, .string ⟨#[c]⟩] w (Ret (Cv c s) w) := by
  have IX0 := Tryd.stringslite_Index_one s c
  rcases cut1_index c s.data.toList with ⟨h1, h2⟩ | ⟨i, h1, h2, h3⟩
  · unfold Cv
    rw [h2]
    rw [h1] at IX0
    have IX := Lib.hid IX0
    clear IX0 h1 h2
    go_enter Tryd.func66, Tryd.ntmps66
    go_wp2_with fail
    refine (IX.out _).mono ?_
    rintro e w1 ⟨rfl, rfl⟩
    clear IX
    go_wp2
    refine ret_via (v := .tuple #[.string s, .string ⟨#[]⟩, .bool false]) (fun _ => True) (fun VF _ => ?_) trivial rfl ⟨rfl, by go_grown⟩
    simp [results, Tryd.results66, go_sem, *]
  · unfold Cv
    rw [h3, ← str_take, ← str_drop]
    rw [h1] at IX0
    have IX := Lib.hid IX0
    have l1 : i < s.size := h2
    have t1 : decide (0 ≤ (i : Int)) = true := decide_eq_true (by omega)
    obtain ⟨j, hj⟩ : ∃ j, j = i + 1 := ⟨_, rfl⟩
    rw [← hj]
    have e1 : wrap64 ((i : Int) + 1) = (j : Int) := by unfold wrap64; omega
    have e1' : IntKind.i64.wrap ((i : Int) + 1) = (j : Int) := by rw [IntKind.wrap_i64]; omega
    have l2 : j ≤ s.size := by omega
    have l3 : i ≤ s.size := by omega
    have c1 : (0 : Int) ≤ ↑i := by omega
    have c2 : (↑i : Int) ≤ ↑s.size := by omega
    have c3 : (0 : Int) ≤ ↑j := by omega
    have c4 : (↑j : Int) ≤ ↑s.size := by omega
    clear IX0 h1 h2 h3 hs hj
    go_enter Tryd.func66, Tryd.ntmps66
    go_wp2_with fail
    refine (IX.out _).mono ?_
    rintro e w1 ⟨rfl, rfl⟩
    clear IX
    go_wp2
    go_region
    all_goals
      go_wp2
      refine ret_via (v := .tuple #[.string (s.extract 0 i), .string (s.extract j s.size), .bool true]) (fun _ => True) (fun VF _ => ?_) trivial rfl ⟨rfl, by go_grown⟩
      simp [results, Tryd.results66, go_sem, *]
set_option maxRecDepth 100000 in
set_option maxHeartbeats 4000000 in
theorem cutOne_any (c : UInt8) (s : ByteArray) (hs : s.size ≤ 200000000000000) (w : World) : Calls Tryd.prog 47 #[.string s, .string ⟨#[c]⟩] w (Ret (Cv c s) w) := by
  have IX0 := cutIn_any c s hs
  unfold Cv at *
  generalize (⟨(cut1 c s.data.toList).1.toArray⟩ : ByteArray) = A at *
  generalize (⟨(cut1 c s.data.toList).2.1.toArray⟩ : ByteArray) = B at *
  generalize (cut1 c s.data.toList).2.2 = b at *
  have IX := Lib.hid IX0
  clear IX0 hs
  go_enter Tryd.func47, Tryd.ntmps47
  go_wp2_with fail
  refine (IX.out _).mono ?_
  rintro e w1 ⟨rfl, hb⟩
  have HB : Below w.heap.size w w1 := bstep (by go_grown) hb
  clear hb IX
  go_wp2
  refine ret_via (v := .tuple #[.string A, .string B, .bool b]) (fun _ => True) (fun VF _ => ?_) trivial rfl ⟨rfl, HB⟩
  simp [results, Tryd.results47, go_sem, *]

/-! ### Digits, numbers -/
def isR (r : Int) : Bool := decide (48 ≤ r) && decide (r ≤ 57)
set_option maxRecDepth 100000 in
theorem digit_any (r : Int) (w : World) : Calls Tryd.prog 63 #[.int .i32 r] w (Ret (.bool (isR r)) w) := by
  unfold isR
  cases t1 : decide (48 ≤ r) <;> cases t2 : decide (r ≤ 57)
  all_goals
    go_enter Tryd.func63, Tryd.ntmps63
    go_wp2
    go_ret
    exact ⟨rfl, by go_grown⟩
/-- A block holds six numbers. -/
def HoldsA (W : World) (g : Nat) : Prop := (∀ i, i < 6 → ∃ c : Int, W.cell? ⟨g, i, none⟩ = some (.int .i64 c)) ∧ (∀ i, i < 6 → W.frozen? ⟨g, i, none⟩ = false) ∧ g < W.heap.size
theorem HoldsA.block {W W' : World} {g : Nat} (H : HoldsA W g) (hb : W'.heap[g]? = W.heap[g]?) (hs : W.heap.size ≤ W'.heap.size) : HoldsA W' g :=
  ⟨fun i hi => by obtain ⟨c, hc⟩ := H.1 i hi; exact ⟨c, (World.cell?_of_block (a := ⟨g, i, none⟩) hb).trans hc⟩, fun i hi => (World.frozen?_of_block (a := ⟨g, i, none⟩) hb).trans (H.2.1 i hi), Nat.lt_of_lt_of_le H.2.2 hs⟩
theorem HoldsA.below {W W' : World} {g : Nat} (H : HoldsA W g) (hb : Below W.heap.size W W') : HoldsA W' g := H.block (hb.block _ H.2.2) hb.size
theorem HoldsA.alloc {W : World} {g : Nat} (H : HoldsA W g) (x : Obj) : HoldsA (W.alloc x) g := H.below ((Below.refl _ _).alloc (Nat.le_refl _) x)
theorem HoldsA.iter {W : World} {g : Nat} (H : HoldsA W g) {k : Nat} (hk : g ≠ k) (s : ByteArray) (pos : Nat) : HoldsA (W.iterAt k s pos) g := H.block (Lib.iterAt_other W k g s pos hk) (by rw [Lib.iterAt_size]; exact Nat.le_refl _)
theorem HoldsA.far {W : World} {g : Nat} (H : HoldsA W g) {p : Addr} (hp : g ≠ p.block) (u : Value) : HoldsA (W.setCell p u) g := H.block (Below.heap_setCell W p u g hp) (by simp)
theorem HoldsA.put {W : World} {g : Nat} (H : HoldsA W g) {i : Nat} (hi : i < 6) (c : Int) : HoldsA (W.setCell ⟨g, i, none⟩ (.int .i64 c)) g := by
  refine ⟨fun j hj => ?_, fun j hj => ?_, by simpa using H.2.2⟩
  · obtain ⟨d, hd⟩ := H.1 j hj
    obtain ⟨e, he⟩ := H.1 i hi
    by_cases k : j = i
    · subst k
      exact ⟨c, by simp [go_sem, *]⟩
    · exact ⟨d, by simp [go_sem, *]⟩
  · have := H.2.1 j hj
    simp [go_sem, *]
theorem HoldsA.new {W : World} {g t : Nat} (hg : g = W.heap.size) : HoldsA (W.alloc (.cells #[.int .i64 0, .int .i64 0, .int .i64 0, .int .i64 0, .int .i64 0, .int .i64 0] t)) g := by
  subst hg
  refine ⟨fun i hi => ⟨0, ?_⟩, fun i hi => ?_, by simp⟩
  · rcases i with _ | _ | _ | _ | _ | _ | i <;> first | omega | simp [go_sem]
  · simp [go_sem]

/-- What numbers answers: six of them. -/
def NumV (e : Ending) : Prop := ∃ c0 c1 c2 c3 c4 c5 : Int, e = .returned (.agg #[.int .i64 c0, .int .i64 c1, .int .i64 c2, .int .i64 c3, .int .i64 c4, .int .i64 c5])
theorem HoldsA.open {W : World} {g : Nat} (H : HoldsA W g) : ∃ c0 c1 c2 c3 c4 c5 : Int, (W.cell? ⟨g, 0, none⟩ = some (.int .i64 c0) ∧ W.cell? ⟨g, 1, none⟩ = some (.int .i64 c1) ∧ W.cell? ⟨g, 2, none⟩ = some (.int .i64 c2) ∧ W.cell? ⟨g, 3, none⟩ = some (.int .i64 c3) ∧ W.cell? ⟨g, 4, none⟩ = some (.int .i64 c4) ∧ W.cell? ⟨g, 5, none⟩ = some (.int .i64 c5)) ∧ (W.frozen? ⟨g, 0, none⟩ = false ∧ W.frozen? ⟨g, 1, none⟩ = false ∧ W.frozen? ⟨g, 2, none⟩ = false ∧ W.frozen? ⟨g, 3, none⟩ = false ∧ W.frozen? ⟨g, 4, none⟩ = false ∧ W.frozen? ⟨g, 5, none⟩ = false) ∧ g < W.heap.size := by
  obtain ⟨c0, h0⟩ := H.1 0 (by decide)
  obtain ⟨c1, h1⟩ := H.1 1 (by decide)
  obtain ⟨c2, h2⟩ := H.1 2 (by decide)
  obtain ⟨c3, h3⟩ := H.1 3 (by decide)
  obtain ⟨c4, h4⟩ := H.1 4 (by decide)
  obtain ⟨c5, h5⟩ := H.1 5 (by decide)
  exact ⟨c0, c1, c2, c3, c4, c5, ⟨h0, h1, h2, h3, h4, h5⟩, ⟨H.2.1 0 (by decide), H.2.1 1 (by decide), H.2.1 2 (by decide), H.2.1 3 (by decide), H.2.1 4 (by decide), H.2.1 5 (by decide)⟩, H.2.2⟩
abbrev ArC : Obj := .cells #[.int .i64 0, .int .i64 0, .int .i64 0, .int .i64 0, .int .i64 0, .int .i64 0] 58
/-- The loop of numbers. -/
def NmRel (w : World) (s : ByteArray) (k : Nat) (av bv : Value) (W : World) : Prop :=
  ∃ (pos : Nat) (a : Int) (b : Bool), av = .int .i64 a ∧ bv = .bool b ∧ -1 ≤ a ∧ a ≤ 5 ∧ (b = true → 0 ≤ a) ∧ W.heap[w.heap.size + 1 + 1]? = some (.stringIter s pos) ∧ k = s.size - pos ∧ HoldsA W w.heap.size ∧ HoldsA W (w.heap.size + 1) ∧ Below w.heap.size w W
set_option linter.unusedSimpArgs false in
set_option maxRecDepth 100000 in
set_option maxHeartbeats 4000000 in
theorem numbers_any (s : ByteArray) (hs : s.size ≤ 200000000000000) (w : World) : Calls Tryd.prog 42 #[.string s] w fun e w' => NumV e ∧ Below w.heap.size w w' := by
  have HS := Lib.hid hs
  clear hs
  go_enter Tryd.func42, Tryd.ntmps42
  go_wp2
  go_loopg [4, 5] s.size (fun k a b W => NmRel w s k a b W)
  case atStart =>
    refine ⟨0, -1, false, rfl, rfl, by omega, by omega, fun h => (by cases h), ?_, by omega, ?_, ?_, ?_⟩
    · have := World.iter_heap ((w.alloc ArC).alloc ArC) s 0
      simpa using this
    · exact HoldsA.alloc (HoldsA.alloc (HoldsA.new rfl) _) _
    · exact HoldsA.alloc (HoldsA.new (by simp)) _
    · exact Below.alloc (((Below.refl _ w).alloc (Nat.le_refl _) _).alloc (by simp) _) (by simp; omega) _
  case round =>
    obtain ⟨pos, a, b, rfl, rfl, a1, a2, ab, hit, hp, A0, A1, HB⟩ := hrel
    have hsz : w.heap.size + 1 + 1 < wr.heap.size := (Array.getElem?_eq_some_iff.1 hit).1
    by_cases hlt : pos < s.size
    · obtain ⟨rv, p', hd1, hd2⟩ : ∃ rv p' : Nat, (Utf8.decode s pos).1 = rv ∧ pos + (Utf8.decode s pos).2 = p' := ⟨_, _, rfl, rfl⟩
      have hd3 : pos < p' := by
        by_cases ha : (s[pos]'hlt).toNat < 128
        · rw [decode_ascii s pos hlt ha] at hd2; omega
        · have := (decode_high s pos hlt (by omega)).2; omega
      have hnx : ∀ ty, (Instr.next (.pointer (some ⟨w.heap.size + 1 + 1, 0, none⟩)) true ty).run Tryd.prog wr = _ := fun ty => Lib.run_next_any_at wr (w.heap.size + 1 + 1) s pos ty hit hlt
      rw [hd1, hd2] at hnx
      have C0 := Lib.hid (A0.iter (k := w.heap.size + 1 + 1) (by omega) s p')
      have C1 := Lib.hid (A1.iter (k := w.heap.size + 1 + 1) (by omega) s p')
      have HB1 := Lib.below_iterAt HB (k := w.heap.size + 1 + 1) (by omega) s p'
      have hit2 := Lib.hid (Lib.iterAt_heap wr (w.heap.size + 1 + 1) s pos p' hit)
      have hsz1 : w.heap.size + 1 + 1 < (wr.iterAt (w.heap.size + 1 + 1) s p').heap.size := by rw [Lib.iterAt_size]; exact hsz
      have HP := Lib.hid (And.intro hlt (And.intro hp hd3))
      have HA := Lib.hid (And.intro a1 (And.intro a2 ab))
      obtain ⟨ri, hri⟩ : ∃ ri : Int, ri = (rv : Int) := ⟨_, rfl⟩
      rw [← hri] at hnx
      clear hd1 hd2 hit hlt A0 A1 HB hsz hp hd3 a1 a2 ab hri
      generalize wr.iterAt (w.heap.size + 1 + 1) s p' = W1 at *
      obtain ⟨dg, hdg⟩ : ∃ d : Bool, d = isR ri := ⟨_, rfl⟩
      have DG0 := digit_any ri
      rw [← hdg] at DG0
      have DG := Lib.hid DG0
      clear DG0 hdg
      go_wp2_with fail
      refine (DG.out _).mono ?_
      rintro e v1 ⟨rfl, hb⟩
      replace C0 := Lib.hid (C0.out.below hb)
      replace C1 := Lib.hid (C1.out.below hb)
      have hit3 := Lib.hid ((hb.block _ hsz1).trans hit2.out)
      replace HB1 := bstep HB1 hb
      clear DG hit2 hsz1 hb
      have STEP := Lib.hid (show ∀ (n : Nat) (X : Int), n < 6 → NmRel w s (s.size - p') (.int .i64 (n : Int)) (.bool true) (v1.setCell ⟨w.heap.size + 1, n, none⟩ (.int .i64 X)) from fun n X hn =>
        ⟨p', n, true, rfl, rfl, by omega, by omega, fun _ => by omega, (by rw [Below.heap_setCell _ _ _ _ (by show w.heap.size + 1 + 1 ≠ w.heap.size + 1; omega)]; exact hit3.out), rfl, C0.out.far (by show w.heap.size ≠ w.heap.size + 1; omega) _, C1.out.put hn X, HB1.setCell (by show w.heap.size ≤ w.heap.size + 1; omega) _⟩)
      cases dg
      · go_wp2
        go_roundg (s.size - p')
        case measure => have := HP.out; omega
        case rel => exact ⟨p', a, false, rfl, rfl, HA.out.1, HA.out.2.1, fun h => (by cases h), hit3.out, rfl, C0.out, C1.out, HB1⟩
      · cases b
        · obtain ⟨n, hn⟩ : ∃ n : Nat, (n : Int) = a + 1 := ⟨(a + 1).toNat, by have := HA.out; omega⟩
          have e1 : wrap64 (a + 1) = (n : Int) := by have := HA.out; unfold wrap64; omega
          have e1' : IntKind.i64.wrap (a + 1) = (n : Int) := by have := HA.out; rw [IntKind.wrap_i64]; omega
          by_cases q : n = 6
          · subst q
            have t1 : (((6 : Nat) : Int) == 6) = true := rfl
            obtain ⟨c0, c1, c2, c3, c4, c5, ⟨k0, k1, k2, k3, k4, k5⟩, -, kz⟩ := C1.out.open
            clear STEP HP hit3
            obtain ⟨d0, d1, d2, d3, d4, d5, ⟨l0, l1, l2, l3, l4, l5⟩, ⟨f0, f1, f2, f3, f4, f5⟩, lz⟩ := C0.out.open
            go_wp2
            refine ret_via (v := .agg #[.int .i64 c0, .int .i64 c1, .int .i64 c2, .int .i64 c3, .int .i64 c4, .int .i64 c5]) (fun V => V.cell? ⟨w.heap.size, 0, none⟩ = some (.int .i64 c0) ∧ V.cell? ⟨w.heap.size, 1, none⟩ = some (.int .i64 c1) ∧ V.cell? ⟨w.heap.size, 2, none⟩ = some (.int .i64 c2) ∧ V.cell? ⟨w.heap.size, 3, none⟩ = some (.int .i64 c3) ∧ V.cell? ⟨w.heap.size, 4, none⟩ = some (.int .i64 c4) ∧ V.cell? ⟨w.heap.size, 5, none⟩ = some (.int .i64 c5)) (fun VF hq => ?_) (by simp [go_sem, *]) rfl ⟨⟨c0, c1, c2, c3, c4, c5, rfl⟩, B6 HB1 (Nat.le_refl _) _ _ _ _ _ _⟩
            obtain ⟨q0, q1, q2, q3, q4, q5⟩ := hq
            simp [results, Tryd.results42, go_sem, q0, q1, q2, q3, q4, q5]
          · have n6 : n < 6 := by have := HA.out; omega
            have t1 : ((n : Int) == 6) = false := by rw [beq_eq_false_iff_ne]; omega
            have i1 : (0 : Int) ≤ (n : Int) := by omega
            have i2 : (n : Int) < 6 := by omega
            obtain ⟨c, hc⟩ := C1.out.1 n n6
            have hf := C1.out.2.1 n n6
            have hz := C1.out.2.2
            have ST := Lib.hid (STEP.out n)
            clear STEP HA hn q
            go_wp2
            go_roundg (s.size - p')
            case measure => have := HP.out; omega
            case rel => exact ST.out _ n6
        · obtain ⟨n, rfl⟩ : ∃ n : Nat, a = (n : Int) := ⟨a.toNat, by have := HA.out; have := HA.out.2.2 rfl; omega⟩
          have n6 : n < 6 := by have := HA.out; omega
          have t1 : ((n : Int) == 6) = false := by rw [beq_eq_false_iff_ne]; omega
          have i1 : (0 : Int) ≤ (n : Int) := by omega
          have i2 : (n : Int) < 6 := by omega
          obtain ⟨c, hc⟩ := C1.out.1 n n6
          have hf := C1.out.2.1 n n6
          have hz := C1.out.2.2
          have ST := Lib.hid (STEP.out n)
          clear STEP HA
          go_wp2
          go_roundg (s.size - p')
          case measure => have := HP.out; omega
          case rel => exact ST.out _ n6
    · have hnx : ∀ ty, (Instr.next (.pointer (some ⟨w.heap.size + 1 + 1, 0, none⟩)) true ty).run Tryd.prog wr = _ := fun ty => Lib.run_next_end_at wr (w.heap.size + 1 + 1) s pos ty hit hlt
      obtain ⟨c0, c1, c2, c3, c4, c5, ⟨k0, k1, k2, k3, k4, k5⟩, -, kz⟩ := A1.open
      clear hit hsz hp hlt ab a1 a2
      obtain ⟨d0, d1, d2, d3, d4, d5, ⟨l0, l1, l2, l3, l4, l5⟩, ⟨f0, f1, f2, f3, f4, f5⟩, lz⟩ := A0.open
      go_wp2
      refine ret_via (v := .agg #[.int .i64 c0, .int .i64 c1, .int .i64 c2, .int .i64 c3, .int .i64 c4, .int .i64 c5]) (fun V => V.cell? ⟨w.heap.size, 0, none⟩ = some (.int .i64 c0) ∧ V.cell? ⟨w.heap.size, 1, none⟩ = some (.int .i64 c1) ∧ V.cell? ⟨w.heap.size, 2, none⟩ = some (.int .i64 c2) ∧ V.cell? ⟨w.heap.size, 3, none⟩ = some (.int .i64 c3) ∧ V.cell? ⟨w.heap.size, 4, none⟩ = some (.int .i64 c4) ∧ V.cell? ⟨w.heap.size, 5, none⟩ = some (.int .i64 c5)) (fun VF hq => ?_) (by simp [go_sem, *]) rfl ⟨⟨c0, c1, c2, c3, c4, c5, rfl⟩, B6 HB (Nat.le_refl _) _ _ _ _ _ _⟩
      obtain ⟨q0, q1, q2, q3, q4, q5⟩ := hq
      simp [results, Tryd.results42, go_sem, q0, q1, q2, q3, q4, q5]
end Go.Proofs.YthgondbiddncpaaDoor

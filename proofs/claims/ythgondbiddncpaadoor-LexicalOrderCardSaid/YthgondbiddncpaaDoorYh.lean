/-
  The document's durations (begun, piece, ended, days, months of the statements), each as a contract of its call.
-/
import Derived.Test.YthgondbiddncpaaDoorYg
namespace Go.Proofs.YthgondbiddncpaaDoor
open Go.RowKit

theorem byte_of {s : ByteArray} {i : Nat} {c : UInt8} {r : List UInt8} (h : s.data.toList.drop i = c :: r) : ∃ hi : i < s.size, (s[i]'hi) = c := by
  have hi : i < s.data.toList.length := by
    rcases Nat.lt_or_ge i s.data.toList.length with k | k
    · exact k
    · rw [List.drop_eq_nil_of_le k] at h; cases h
  rw [List.drop_eq_getElem_cons hi] at h
  injection h with h1 h2
  exact ⟨hi, h1⟩
theorem none_of {s : ByteArray} {i : Nat} (h : s.data.toList.drop i = []) : ¬ i < s.size := by
  intro k
  have k' : i < s.data.toList.length := k
  rw [List.drop_eq_getElem_cons k'] at h
  cases h
theorem suf_piece (most : Nat) (u : Nat × Nat) (l : List UInt8) : (pieceU most u l).2.1 <:+ l := by
  rcases piece_eq most u l with ⟨c, r, h1, h2, h3, h4, h5⟩ | ⟨h1, h5⟩
  · rw [h5]
    refine ⟨digU l ++ [c], ?_⟩
    show digU l ++ [c] ++ r = l
    rw [List.append_assoc, List.singleton_append, ← h1, dig_res]
  · rw [h5]; exact List.suffix_refl l
/-- Where what is left of a text begins. -/
def posU (s : ByteArray) (r : List UInt8) : Nat := s.size - r.length
theorem pos_drop {s : ByteArray} {r : List UInt8} (h : r <:+ s.data.toList) : s.data.toList.drop (posU s r) = r := by
  have := (List.suffix_iff_eq_drop.1 h).symm
  exact this
theorem pos_le (s : ByteArray) (r : List UInt8) : posU s r ≤ s.size := Nat.sub_le _ _
theorem pos_of {s : ByteArray} {a : Nat} (h : a ≤ s.size) : posU s (s.data.toList.drop a) = a := by
  unfold posU
  rw [List.length_drop]
  show s.size - (s.size - a) = a
  omega
theorem pos_end {s : ByteArray} {r : List UInt8} (h : r <:+ s.data.toList) : posU s r = s.size ↔ r = [] := by
  have le : r.length ≤ s.size := h.length_le
  unfold posU
  constructor
  · intro k; exact List.length_eq_zero_iff.1 (by omega)
  · intro k; rw [k]; rfl
theorem dig_at {l : List UInt8} {j : Nat} (h : j < (digU l).length) : ∃ r, l.drop j = (digU l)[j] :: r := by
  have e := dig_res l
  refine ⟨(digU l).drop (j + 1) ++ resU l, ?_⟩
  conv => lhs; rw [← e]
  rw [List.drop_append_of_le_length (Nat.le_of_lt h), List.drop_eq_getElem_cons h]
  rfl
theorem dig_end (l : List UInt8) : l.drop (digU l).length = resU l := by
  conv => lhs; arg 2; rw [← dig_res l]
  rw [List.drop_append_of_le_length (Nat.le_refl _), List.drop_length, List.nil_append]
theorem val_snoc (n : Nat) (b : UInt8) : ∀ l : List UInt8, valU n (l ++ [b]) = valU n l * 10 + (b.toNat - 48) := by
  intro l
  induction l generalizing n with
  | nil => rfl
  | cons c t ih => exact ih _
theorem take_snoc {l : List UInt8} {j : Nat} (h : j < l.length) : l.take (j + 1) = l.take j ++ [l[j]] := List.take_succ_eq_append_getElem h
/-- What piece answers. -/
abbrev PcV (s : ByteArray) (p : Nat × List UInt8 × Bool) : Value := .tuple #[.int .i64 (p.1 : Int), .int .i64 ((posU s p.2.1 : Nat) : Int), .bool p.2.2]
def PcRel (w : World) (D : List UInt8) (a most gk : Nat) (v13 v14 : Value) (W : World) : Prop :=
  ∃ j i n : Nat, v13 = .int .i64 (i : Int) ∧ v14 = .int .i64 (n : Int) ∧ gk = most + 1 - j ∧ i = a + j ∧ j ≤ D.length ∧ j ≤ most + 1 ∧ Hid (n = valU 0 (D.take j)) ∧ Below w.heap.size w W
set_option linter.unusedSimpArgs false in
set_option linter.unusedVariables false in
set_option maxRecDepth 100000 in
set_option maxHeartbeats 8000000 in
theorem piece_any (s : ByteArray) (hs : s.size ≤ 200000000000000) (a : Nat) (ai : Int) (ha : ai = (a : Int)) (al : a ≤ s.size) (L z most : Nat) (Li zi mi : Int) (hL : Li = (L : Int)) (hz : zi = (z : Int)) (hm : mi = (most : Int)) (h15 : most ≤ 15) (hb : 10 ^ most * z ≤ 10 ^ 18) (w : World) :
    Calls Tryd.prog 54 #[.string s, .int .i64 ai, .int .u8 Li, .int .i64 zi, .int .i64 mi] w (Ret (PcV s (pieceU most (L, z) (s.data.toList.drop a))) w) := by
  have HS := Lib.hid (And.intro hs (And.intro ha (And.intro al (And.intro hL (And.intro hz (And.intro hm h15))))))
  have HBB := Lib.hid hb
  obtain ⟨R, hR⟩ : ∃ R, R = s.data.toList.drop a := ⟨_, rfl⟩
  rw [← hR]
  have HR := Lib.hid hR
  obtain ⟨D, hD⟩ : ∃ D, D = digU R := ⟨_, rfl⟩
  have HD := Lib.hid hD
  have FAIL := Lib.hid (show ∀ p, pieceU most (L, z) R = p → p = (0, R, false) → PcV s p = .tuple #[.int .i64 0, .int .i64 ai, .bool false] from fun p _ e => by
    rw [e]
    show Value.tuple #[.int .i64 ((0 : Nat) : Int), .int .i64 ((posU s R : Nat) : Int), .bool false] = _
    rw [hR, pos_of al, ha]
    rfl)
  clear hs ha al hL hz hm h15 hb hR hD
  go_enter Tryd.func54, Tryd.ntmps54
  go_wp2
  go_loopg [13, 14] (most + 1) (fun gk v13 v14 W => PcRel w D a most gk v13 v14 W)
  case atStart => exact ⟨0, a, 0, by rw [HS.out.2.1], rfl, by omega, by omega, Nat.zero_le _, by omega, Lib.hid (by rw [List.take_zero]; rfl), Below.refl _ _⟩
  case round =>
    obtain ⟨j, i, n, rfl, rfl, hg, hi, jd, jm, HN, HB⟩ := hrel
    have HG := Lib.hid (And.intro hg hi)
    have DROP := Lib.hid (show s.data.toList.drop i = R.drop j from by rw [HR.out, List.drop_drop, hi])
    have SZ := HS.out.1
    have M15 := HS.out.2.2.2.2.2.2
    obtain ⟨ji, hji⟩ : ∃ x : Int, x = (j : Int) := ⟨_, rfl⟩
    have HJ := Lib.hid hji
    have HA := HS.out.2.1
    have e1 : wrap64 ((i : Int) - ai) = ji := by unfold wrap64; omega
    have e2 : IntKind.i64.wrap ((i : Int) - ai) = ji := by clear e1; rw [IntKind.wrap_i64]; omega
    have HJM := Lib.hid (And.intro jd jm)
    clear SZ M15 HA hji hg hi jd jm
    by_cases q : j < D.length
    · have LT := Lib.hid q
      have DJ := dig_all R (D[j]) (by rw [← HD.out]; exact List.getElem_mem q)
      obtain ⟨r, hr⟩ : ∃ r, R.drop j = D[j] :: r := by have := HD.out; subst this; exact dig_at q
      obtain ⟨hi, hx0⟩ := byte_of (DROP.out.trans hr)
      obtain ⟨x, hx1⟩ : ∃ x : Nat, (s[i]'hi).toNat = x := ⟨_, rfl⟩
      have XC : D[j].toNat = x := by rw [← hx0]; exact hx1
      clear hx0
      obtain ⟨xi, hxi⟩ : ∃ y : Int, (x : Int) = y := ⟨_, rfl⟩
      have k0 : (0 : Int) ≤ (i : Int) := by omega
      have k1 : (i : Int) < (s.size : Int) := by omega
      have T1 : decide (i < s.size) = true := decide_eq_true hi
      have T7 : decide ((s.size : Int) ≤ (i : Int)) = false := decide_eq_false (by omega)
      have T7' : decide (s.size ≤ i) = false := decide_eq_false (by omega)
      have hx : (((s[i]'hi).toNat : Nat) : Int) = xi := by rw [hx1, hxi]
      have B57 := of_decide_eq_true DJ
      rw [XC] at B57
      clear DJ hx1
      have T2 : decide (48 ≤ xi) = true := decide_eq_true (by omega)
      have T3 : decide (xi ≤ 57) = true := decide_eq_true (by omega)
      by_cases q2 : j ≤ most
      · have MS := Lib.hid (show most + 1 - (j + 1) < gk from by have := HG.out.1; clear hx T1 T2 T3 T7 T7' e1 e2; omega)
        have j2 := HJ.out
        have jm := HJM.out
        have m2 := HS.out.2.2.2.2.2.1
        have a2 := HS.out.2.1
        have g2 := HG.out.2
        have l2 := HS.out.2.2.2.1
        have z2 := HS.out.2.2.2.2.1
        have h15 := HS.out.2.2.2.2.2.2
        obtain ⟨d, hd⟩ : ∃ d : Int, d = xi - 48 := ⟨_, rfl⟩
        obtain ⟨ni, hni⟩ : ∃ y : Int, y = (n : Int) := ⟨_, rfl⟩
        obtain ⟨m1, hm1⟩ : ∃ y : Int, y = 10 * ni := ⟨_, rfl⟩
        obtain ⟨m2', hm2⟩ : ∃ y : Int, y = m1 + d := ⟨_, rfl⟩
        have NB : n < 10000000000000000 := by
          have e1 := val_lt (D.take j) 0 0 (by decide) (fun b hb => dig_all R b (by rw [← HD.out]; exact List.mem_of_mem_take hb))
          rw [← HN.out, Nat.zero_add] at e1
          have e2 : (D.take j).length ≤ 16 := by rw [List.length_take]; omega
          exact Nat.lt_of_lt_of_le e1 (Nat.le_trans (Nat.pow_le_pow_right (by decide) e2) (by decide))
        have D9 : 0 ≤ d ∧ d ≤ 9 := by omega
        have q1 : I64 (10 * ni) := by unfold I64; omega
        have q2' : I64 (m1 + d) := by unfold I64; omega
        have q3 : I64 d := by unfold I64; omega
        have q4 : I64 ((i : Int) + 1) := by have := HS.out.1; unfold I64; omega
        have u8 : IntKind.u8.wrap (xi - 48) = d := by rw [IntKind.wrap_u8]; omega
        have T4 : decide (ji ≤ mi) = true := decide_eq_true (by omega)
        obtain ⟨i2, hi2⟩ : ∃ k : Nat, k = i + 1 := ⟨_, rfl⟩
        have i2' : (i : Int) + 1 = (i2 : Int) := by omega
        rw [i2'] at q4
        obtain ⟨n2, hn2⟩ : ∃ k : Nat, k = n * 10 + (x - 48) := ⟨_, rfl⟩
        have n2' : m2' = (n2 : Int) := by omega
        have REL := Lib.hid (show PcRel w D a most (most + 1 - (j + 1)) (.int .i64 (i2 : Int)) (.int .i64 m2') wr from
          ⟨j + 1, i2, n2, rfl, by rw [n2'], rfl, by omega, LT.out, by omega, Lib.hid (by rw [take_snoc LT.out, val_snoc, ← HN.out, hn2, ← XC]; rfl), HB⟩)
        rw [← hm1] at q1
        have f1 : wrap64 (10 * ni) = m1 := by rw [← hm1]; exact q1.wrap'
        have g1 : IntKind.i64.wrap (10 * ni) = m1 := by rw [← hm1]; exact q1.wrap
        rw [← hm2] at q2'
        have f2 : wrap64 (m1 + d) = m2' := by rw [← hm2]; exact q2'.wrap'
        have g2' : IntKind.i64.wrap (m1 + d) = m2' := by rw [← hm2]; exact q2'.wrap
        have f3 : wrap64 d = d := q3.wrap'
        have g3 : IntKind.i64.wrap d = d := q3.wrap
        have f4 : wrap64 ((i : Int) + 1) = (i2 : Int) := by rw [i2']; exact q4.wrap'
        have g4 : IntKind.i64.wrap ((i : Int) + 1) = (i2 : Int) := by rw [i2']; exact q4.wrap
        rw [← hni]
        clear j2 jm m2 a2 g2 l2 z2 h15 HN HJ HJM HG DROP HR HD HS FAIL HBB LT XC B57 hxi hr hm1 hm2 hd hni NB D9 q1 q2' q3 q4 i2' hi2 hn2 n2' q q2
        go_wp2
        go_roundg (most + 1 - (j + 1))
        case measure => exact MS.out
        case rel => exact REL.out
      · have j2 := HJ.out
        have jm := HJM.out
        have m2 := HS.out.2.2.2.2.2.1
        have a2 := HS.out.2.1
        have g2 := HG.out.2
        have l2 := HS.out.2.2.2.1
        have z2 := HS.out.2.2.2.2.1
        have h15 := HS.out.2.2.2.2.2.2
        have T4 : decide (ji ≤ mi) = false := decide_eq_false (by omega)
        have T6 : decide (mi < ji) = true := decide_eq_true (by omega)
        have T5 : ((i : Int) == ai) = false := by rw [beq_eq_false_iff_ne]; omega
        have RES := Lib.hid (FAIL.out _ rfl (by
          rcases piece_eq most (L, z) R with ⟨c, r', h1, h2, h3, h4, h5⟩ | ⟨h1, h5⟩
          · exfalso
            have := HD.out
            have := LT.out
            rw [HD.out] at this
            omega
          · exact h5))
        clear j2 jm m2 a2 g2 l2 z2 h15
        clear HN HJ HJM HG DROP HR HD HS FAIL HBB LT XC B57 hxi hr q q2
        go_wp2
        refine ret_via (v := .tuple #[.int .i64 0, .int .i64 ai, .bool false]) (fun _ => True) (fun VF _ => ?_) trivial rfl ⟨by rw [RES.out], HB⟩
        simp [results, Tryd.results54, go_sem, *]
    · have JE : j = D.length := by have := HJM.out; omega
      have DE : R.drop j = resU R := by rw [JE, HD.out]; exact dig_end R
      have LJ := Lib.hid (show (digU R).length = j from by rw [JE, HD.out])
      clear JE q
      cases hres : resU R with
      | nil =>
        rw [hres] at DE
        have hi := none_of (DROP.out.trans DE)
        have T1 : decide (i < s.size) = false := decide_eq_false hi
        have T7 : decide ((s.size : Int) ≤ (i : Int)) = true := decide_eq_true (by omega)
        have T7' : decide (s.size ≤ i) = true := decide_eq_true (by omega)
        have RES := Lib.hid (FAIL.out _ rfl (by
          rcases piece_eq most (L, z) R with ⟨c', r', h1, h2, h3, h4, h5⟩ | ⟨h1, h5⟩
          · exfalso
            rw [hres] at h1; cases h1
          · exact h5))
        have E5 : ((i : Int) == ai) = true ∨ ((i : Int) == ai) = false := by cases ((i : Int) == ai) <;> simp
        have E6 : decide (mi < ji) = true ∨ decide (mi < ji) = false := by cases decide (mi < ji) <;> simp
        clear DE hres
        rcases E5 with T5 | T5 <;> rcases E6 with T6 | T6
        all_goals
          clear HN HJ HJM HG DROP HR HD HS FAIL HBB LJ hi
          go_wp2
          refine ret_via (v := .tuple #[.int .i64 0, .int .i64 ai, .bool false]) (fun _ => True) (fun VF _ => ?_) trivial rfl ⟨by rw [RES.out], HB⟩
          simp [results, Tryd.results54, go_sem, *]
      | cons c r =>
        rw [hres] at DE
        have NC := res_head R c r hres
        have HRES := Lib.hid hres
        clear hres
        obtain ⟨hr⟩ : Nonempty (R.drop j = c :: r) := ⟨DE⟩
        obtain ⟨hi, hx0⟩ := byte_of (DROP.out.trans hr)
        obtain ⟨x, hx1⟩ : ∃ x : Nat, (s[i]'hi).toNat = x := ⟨_, rfl⟩
        have XC : c.toNat = x := by rw [← hx0]; exact hx1
        clear hx0
        obtain ⟨xi, hxi⟩ : ∃ y : Int, (x : Int) = y := ⟨_, rfl⟩
        have k0 : (0 : Int) ≤ (i : Int) := by omega
        have k1 : (i : Int) < (s.size : Int) := by omega
        have T1 : decide (i < s.size) = true := decide_eq_true hi
        have T7 : decide ((s.size : Int) ≤ (i : Int)) = false := decide_eq_false (by omega)
        have T7' : decide (s.size ≤ i) = false := decide_eq_false (by omega)
        have hx : (((s[i]'hi).toNat : Nat) : Int) = xi := by rw [hx1, hxi]
        have ND : ¬ (48 ≤ x ∧ x ≤ 57) := by
          intro k
          have : isD c.toNat = true := decide_eq_true (by rw [XC]; exact k)
          rw [NC] at this
          cases this
        have CC : (decide (48 ≤ xi) = false) ∨ (decide (48 ≤ xi) = true ∧ decide (xi ≤ 57) = false) := by
          by_cases k : 48 ≤ x
          · exact .inr ⟨decide_eq_true (by omega), decide_eq_false (by omega)⟩
          · exact .inl (decide_eq_false (by omega))
        clear hx1 NC ND DE
        by_cases q0 : j = 0
        · have j2 := HJ.out
          have jm := HJM.out
          have m2 := HS.out.2.2.2.2.2.1
          have a2 := HS.out.2.1
          have g2 := HG.out.2
          have l2 := HS.out.2.2.2.1
          have z2 := HS.out.2.2.2.2.1
          have h15 := HS.out.2.2.2.2.2.2
          have T5 : ((i : Int) == ai) = true := by rw [beq_iff_eq]; omega
          have RES := Lib.hid (FAIL.out _ rfl (by
            rcases piece_eq most (L, z) R with ⟨c', r', h1, h2, h3, h4, h5⟩ | ⟨h1, h5⟩
            · exfalso
              have := LJ.out; exact h2 (List.length_eq_zero_iff.1 (by omega))
            · exact h5))
          clear j2 jm m2 a2 g2 l2 z2 h15
          rcases CC with T2 | ⟨T2, T3⟩
          all_goals
            clear HN HJ HJM HG DROP HR HD HS FAIL HBB LJ XC hxi hr q0 HRES
            go_wp2
            refine ret_via (v := .tuple #[.int .i64 0, .int .i64 ai, .bool false]) (fun _ => True) (fun VF _ => ?_) trivial rfl ⟨by rw [RES.out], HB⟩
            simp [results, Tryd.results54, go_sem, *]
        · by_cases q2 : most < j
          · have j2 := HJ.out
            have jm := HJM.out
            have m2 := HS.out.2.2.2.2.2.1
            have a2 := HS.out.2.1
            have g2 := HG.out.2
            have l2 := HS.out.2.2.2.1
            have z2 := HS.out.2.2.2.2.1
            have h15 := HS.out.2.2.2.2.2.2
            have T5 : ((i : Int) == ai) = false := by rw [beq_eq_false_iff_ne]; omega
            have T6 : decide (mi < ji) = true := decide_eq_true (by omega)
            have RES := Lib.hid (FAIL.out _ rfl (by
              rcases piece_eq most (L, z) R with ⟨c', r', h1, h2, h3, h4, h5⟩ | ⟨h1, h5⟩
              · exfalso
                have := LJ.out; omega
              · exact h5))
            clear j2 jm m2 a2 g2 l2 z2 h15
            rcases CC with T2 | ⟨T2, T3⟩
            all_goals
              clear HN HJ HJM HG DROP HR HD HS FAIL HBB LJ XC hxi hr q0 q2 HRES
              go_wp2
              refine ret_via (v := .tuple #[.int .i64 0, .int .i64 ai, .bool false]) (fun _ => True) (fun VF _ => ?_) trivial rfl ⟨by rw [RES.out], HB⟩
              simp [results, Tryd.results54, go_sem, *]
          · by_cases q3 : x = L
            · have j2 := HJ.out
              have jm := HJM.out
              have m2 := HS.out.2.2.2.2.2.1
              have a2 := HS.out.2.1
              have g2 := HG.out.2
              have l2 := HS.out.2.2.2.1
              have z2 := HS.out.2.2.2.2.1
              have h15 := HS.out.2.2.2.2.2.2
              have T5 : ((i : Int) == ai) = false := by rw [beq_eq_false_iff_ne]; omega
              have T6 : decide (mi < ji) = false := decide_eq_false (by omega)
              have T8 : (xi != Li) = false := by rw [bne_eq_false_iff_eq]; omega
              have T8' : (xi == Li) = true := by rw [beq_iff_eq]; omega
              have PE : pieceU most (L, z) R = (n * z, r, true) := by
                rcases piece_eq most (L, z) R with ⟨c', r', h1, h2, h3, h4, h5⟩ | ⟨h1, h5⟩
                · rw [HRES.out] at h1
                  injection h1 with h1 h1'
                  subst h1'
                  rw [h5]
                  have e : n = valU 0 (digU R) := by rw [HN.out, ← LJ.out, HD.out, List.take_length]
                  rw [e]
                · exact absurd ⟨fun e => q0 (by rw [← LJ.out, e]; rfl), by rw [LJ.out]; omega, by rw [XC]; exact q3⟩ (h1 c r HRES.out)
              have RD : R.drop (j + 1) = r := by
                rw [← List.drop_drop, hr]
                rfl
              have SF : r <:+ s.data.toList := by rw [← RD, HR.out]; exact (List.drop_suffix _ _).trans (List.drop_suffix _ _)
              obtain ⟨i2, hi2⟩ : ∃ k : Nat, k = i + 1 := ⟨_, rfl⟩
              have PO : posU s r = i2 := by
                rw [← RD, HR.out, List.drop_drop, show a + (j + 1) = i2 by omega]
                exact pos_of (by omega)
              obtain ⟨m1, hm1⟩ : ∃ y : Int, y = (n : Int) * zi := ⟨_, rfl⟩
              have NZ : n * z ≤ 1000000000000000000 := by
                have e1 := val_lt (D.take j) 0 0 (by decide) (fun b hb => dig_all R b (by rw [← HD.out]; exact List.mem_of_mem_take hb))
                rw [← HN.out, Nat.zero_add] at e1
                have e2 : (D.take j).length ≤ most := by rw [List.length_take]; omega
                have e3 : n ≤ 10 ^ most := Nat.le_trans (Nat.le_of_lt e1) (Nat.pow_le_pow_right (by decide) e2)
                exact Nat.le_trans (Nat.mul_le_mul_right z e3) (Nat.le_trans HBB.out (by decide))
              have M1 : m1 = ((n * z : Nat) : Int) := by rw [hm1, z2]; exact (Int.natCast_mul n z).symm
              have RES := Lib.hid (show PcV s (pieceU most (L, z) R) = .tuple #[.int .i64 m1, .int .i64 (i2 : Int), .bool true] from by
                rw [PE, M1]
                show Value.tuple #[.int .i64 ((n * z : Nat) : Int), .int .i64 ((posU s r : Nat) : Int), .bool true] = _
                rw [PO])
              have q5 : I64 m1 := by generalize n * z = y at *; clear hm1; unfold I64; omega
              have q4 : I64 ((i : Int) + 1) := by have := HS.out.1; clear hm1 M1 NZ; unfold I64; omega
              have i2' : (i : Int) + 1 = (i2 : Int) := by clear hm1 M1 NZ; omega
              have f1 : wrap64 ((n : Int) * zi) = m1 := by rw [← hm1]; exact q5.wrap'
              have g1 : IntKind.i64.wrap ((n : Int) * zi) = m1 := by rw [← hm1]; exact q5.wrap
              rw [i2'] at q4
              have f4 : wrap64 ((i : Int) + 1) = (i2 : Int) := by rw [i2']; exact q4.wrap'
              have g4 : IntKind.i64.wrap ((i : Int) + 1) = (i2 : Int) := by rw [i2']; exact q4.wrap
              clear j2 jm m2 a2 g2 l2 z2 h15 HN HJ HJM HG DROP HR HD HS FAIL HBB LJ XC hxi hr q0 q2 q3 HRES PE RD SF hi2 PO hm1 NZ M1 q5 q4 i2'
              rcases CC with T2 | ⟨T2, T3⟩
              all_goals
                go_wp2
                refine ret_via (v := .tuple #[.int .i64 m1, .int .i64 (i2 : Int), .bool true]) (fun _ => True) (fun VF _ => ?_) trivial rfl ⟨by rw [RES.out], HB⟩
                simp [results, Tryd.results54, go_sem, *]
            · have j2 := HJ.out
              have jm := HJM.out
              have m2 := HS.out.2.2.2.2.2.1
              have a2 := HS.out.2.1
              have g2 := HG.out.2
              have l2 := HS.out.2.2.2.1
              have z2 := HS.out.2.2.2.2.1
              have h15 := HS.out.2.2.2.2.2.2
              have T5 : ((i : Int) == ai) = false := by rw [beq_eq_false_iff_ne]; omega
              have T6 : decide (mi < ji) = false := decide_eq_false (by omega)
              have T8 : (xi != Li) = true := by rw [bne_iff_ne]; omega
              have T8' : (xi == Li) = false := by rw [beq_eq_false_iff_ne]; omega
              have RES := Lib.hid (FAIL.out _ rfl (by
                rcases piece_eq most (L, z) R with ⟨c', r', h1, h2, h3, h4, h5⟩ | ⟨h1, h5⟩
                · exfalso
                  rw [HRES.out] at h1; injection h1 with h1 _; subst h1; have h4' : c.toNat = L := h4; omega
                · exact h5))
              clear j2 jm m2 a2 g2 l2 z2 h15
              rcases CC with T2 | ⟨T2, T3⟩
              all_goals
                clear HN HJ HJM HG DROP HR HD HS FAIL HBB LJ XC hxi hr q0 q2 q3 HRES
                go_wp2
                refine ret_via (v := .tuple #[.int .i64 0, .int .i64 ai, .bool false]) (fun _ => True) (fun VF _ => ?_) trivial rfl ⟨by rw [RES.out], HB⟩
                simp [results, Tryd.results54, go_sem, *]
end Go.Proofs.YthgondbiddncpaaDoor

/-
  The document's answer of layer 16: hex, code, escape, as contracts of their calls.
-/
import Derived.Test.YtfelcneedpndiaaGreatDoorIh
namespace Go.Proofs.YtfelcneedpndiaaGreatDoor
open Go.RowKit Go.Lib

def hexI (r : Nat) : Int := match hexV r with | none => -1 | some d => (d : Int)
theorem hexV_lt {r d : Nat} (h : hexV r = some d) : d < 16 := by
  unfold hexV digR at h
  repeat' split at h
  all_goals first
    | (injection h with h; simp at *; omega)
    | simp at h
set_option linter.unusedVariables false in
set_option linter.unusedSimpArgs false in
set_option maxRecDepth 100000 in
set_option maxHeartbeats 4000000 in
theorem hex_ref (r : Nat) (ri : Int) (hri : ri = (r : Int)) (hr : r ≤ 1114111) (w : World) : Calls Tryz.prog 69 #[.int .i32 ri] w (RetSm (.int .i64 (hexI r)) w) := by
  subst hri
  have D := Lib.hid (digit_ref r hr w)
  by_cases d : digR r = true
  · rw [d] at D
    have E := Lib.hid (show hexI r = (r : Int) - 48 from by unfold hexI hexV; rw [if_pos d]; have : 48 ≤ r := by (simp [digR] at d; omega)
                                                            show ((r - 48 : Nat) : Int) = _; omega)
    have d2 : 48 ≤ r ∧ r ≤ 57 := by simp [digR] at d; omega
    clear d
    go_enter Tryz.func69, Tryz.ntmps69
    go_wp2_with (go_at_call 28; (with_reducible refine (D.out).mono ?_); rintro e w1 ⟨rfl, rfl⟩)
    go_ret
    exact ⟨by rw [E.out]; rfl, rfl⟩
  · rw [Bool.not_eq_true] at d
    rw [d] at D
    rcases (show (97 ≤ r ∧ r ≤ 102) ∨ (65 ≤ r ∧ r ≤ 70) ∨ ¬ ((97 ≤ r ∧ r ≤ 102) ∨ (65 ≤ r ∧ r ≤ 70)) from by omega) with a | a | a
    · have E := Lib.hid (show hexI r = (r : Int) - 87 from by unfold hexI hexV; rw [if_neg (by rw [d]; decide), if_pos a]; show ((r - 87 : Nat) : Int) = _; omega)
      obtain ⟨a1, a2⟩ := a
      go_enter Tryz.func69, Tryz.ntmps69
      go_wp2_with (go_at_call 28; (with_reducible refine (D.out).mono ?_); rintro e w1 ⟨rfl, rfl⟩)
      go_ret
      exact ⟨by rw [E.out]; first | rfl | (refine congrArg Ending.returned (congrArg (Value.int _) ?_); omega), rfl⟩
    · have E := Lib.hid (show hexI r = (r : Int) - 55 from by unfold hexI hexV; rw [if_neg (by rw [d]; decide), if_neg (by omega), if_pos a]; show ((r - 55 : Nat) : Int) = _; omega)
      obtain ⟨a1, a2⟩ := a
      have n1 : decide ((97 : Int) ≤ (r : Int)) = false := by simp; omega
      go_enter Tryz.func69, Tryz.ntmps69
      go_wp2_with (go_at_call 28; (with_reducible refine (D.out).mono ?_); rintro e w1 ⟨rfl, rfl⟩)
      go_ret
      exact ⟨by rw [E.out]; first | rfl | (refine congrArg Ending.returned (congrArg (Value.int _) ?_); omega), rfl⟩
    · have E := Lib.hid (show hexI r = -1 from by unfold hexI hexV; rw [if_neg (by rw [d]; decide), if_neg (by omega), if_neg (by omega)])
      rcases (show r < 65 ∨ (70 < r ∧ r < 97) ∨ 102 < r from by omega) with x | ⟨x, y⟩ | x
      all_goals
        clear a
        go_enter Tryz.func69, Tryz.ntmps69
        go_wp2_with (go_at_call 28; (with_reducible refine (D.out).mono ?_); rintro e w1 ⟨rfl, rfl⟩)
        all_goals first
          | (go_ret; exact ⟨by rw [E.out]; rfl, rfl⟩)
          | omega
def RetCode (o : Option Nat) (w : World) (e : Ending) (w' : World) : Prop :=
  ∃ (x : Int) (ok : Bool), e = .returned (.tuple #[.int .i32 x, .bool ok]) ∧ w = w' ∧ (match o with | none => ok = false | some c => ok = true ∧ x = (c : Int))
theorem codeGo_step (m c : Nat) (S : List Nat) : codeGo (m + 1) c S = (match hexV (hd S) with | none => none | some d => codeGo m (16 * c + d) (S.drop 1)) := rfl
set_option linter.unusedVariables false in
set_option linter.unusedSimpArgs false in
set_option maxRecDepth 100000 in
set_option maxHeartbeats 4000000 in
theorem code_ref (b : Nat) (v : Value) (L : List Nat) (k n : Nat) (hk : k ≤ L.length) (hn : n ≤ 6) (hV : Vrs L) (hL : L.length ≤ 17592186044416) (w : World) (h : RowN b w v L) :
    Calls Tryz.prog 58 #[v, .int .i64 (k : Int), .int .i64 (n : Int)] w (RetCode (codeS n (L.drop k)) w) := by
  have AT := Lib.hid (show ∀ (j : Nat) (ji : Int), ji = (j : Int) → j ≤ L.length + 7 → Calls Tryz.prog 26 #[v, .int .i64 ji] w (RetSm (.int .i32 ((hd (L.drop j) : Nat) : Int)) w) from fun j ji e hj => e ▸ at_ref b v L j (by omega) (by omega) w h)
  have HX := Lib.hid (fun j => hex_ref (hd (L.drop j)) _ rfl (by rw [hd_drop]; exact getD_vr hV j) w)
  have CS := Lib.hid (show codeS n (L.drop k) = match codeGo n 0 (L.drop k) with | none => none | some c => if c ≤ 1114111 ∧ (c < 55296 ∨ 57343 < c) then some c else none from rfl)
  clear hV
  obtain ⟨A, cap, rfl⟩ := h.sl2
  clear h
  go_enter Tryz.func58, Tryz.ntmps58
  go_wp2_with fail
  go_loopg [8, 9] n (fun gg cv i wr => ∃ (c m j : Nat), w = wr ∧ m + gg = n ∧ j = k + m ∧ c < 16 ^ m ∧ cv = .int .i64 (c : Int) ∧ i = .int .i64 (j : Int) ∧ Hid (codeGo gg c (L.drop j) = codeGo n 0 (L.drop k)))
  case atStart => exact ⟨0, 0, k, rfl, by omega, rfl, by simp, rfl, rfl, Lib.hid rfl⟩
  case round =>
    obtain ⟨c, m, j, rfl, hm, hj, hc, rfl, rfl, hG⟩ := hrel
    have p6 : (16 : Nat) ^ m ≤ 16 ^ 6 := Nat.pow_le_pow_right (by decide) (by omega)
    have c6 : c < 16777216 := by omega
    have kn : ((k : Int) + (n : Int)) = ((k + n : Nat) : Int) := by omega
    have HC := Lib.hid hc
    have HJ := Lib.hid hj
    clear hc p6 kn hj
    rcases Nat.eq_zero_or_pos gk with z | z
    · subst z
      have jn : ¬ j < k + n := by have := HJ.out; omega
      have CV := Lib.hid (show codeS n (L.drop k) = if c ≤ 1114111 ∧ (c < 55296 ∨ 57343 < c) then some c else none from by rw [CS.out, ← hG.out]; rfl)
      have d0 : decide ((j : Int) < (k : Int) + (n : Int)) = false := by simp; omega
      rcases (show (c ≤ 1114111 ∧ c < 55296) ∨ (c ≤ 1114111 ∧ 55296 ≤ c ∧ 57343 < c) ∨ (c ≤ 1114111 ∧ 55296 ≤ c ∧ c ≤ 57343) ∨ 1114111 < c from by omega) with ⟨y1, y2⟩ | ⟨y1, y2, y3⟩ | ⟨y1, y2, y3⟩ | y1
      · rw [if_pos ⟨y1, .inl y2⟩] at CV
        go_wp2
        go_ret2
        exact ⟨c, true, rfl, rfl, by rw [CV.out]; exact ⟨rfl, rfl⟩⟩
      · rw [if_pos ⟨y1, .inr y3⟩] at CV
        have f1 : decide ((c : Int) < 55296) = false := by simp; omega
        have f2 : decide ((57343 : Int) < (c : Int)) = true := by simp; omega
        have f0 : decide ((c : Int) ≤ 1114111) = true := by simp; omega
        have HY := Lib.hid (And.intro y1 (And.intro y2 y3))
        clear y1 y2 y3
        go_wp2
        go_ret2
        exact ⟨c, true, rfl, rfl, by rw [CV.out]; exact ⟨rfl, rfl⟩⟩
      · rw [if_neg (by omega)] at CV
        have f1 : decide ((c : Int) < 55296) = false := by simp; omega
        have f2 : decide ((57343 : Int) < (c : Int)) = false := by simp; omega
        have f0 : decide ((c : Int) ≤ 1114111) = true := by simp; omega
        have HY := Lib.hid (And.intro y1 (And.intro y2 y3))
        clear y1 y2 y3
        go_wp2
        go_ret2
        exact ⟨c, false, rfl, rfl, by rw [CV.out]⟩
      · rw [if_neg (by omega)] at CV
        have f1 : decide ((c : Int) ≤ 1114111) = false := by simp; omega
        go_wp2
        go_ret2
        exact ⟨c, false, rfl, rfl, by rw [CV.out]⟩
    · obtain ⟨q, rfl⟩ : ∃ q, gk = q + 1 := ⟨gk - 1, by omega⟩
      have ATj := Lib.hid (AT.out j _ rfl (by have := HJ.out; omega))
      have HXj := HX.out j
      have ST := Lib.hid (codeGo_step q c (L.drop j))
      have jn : j < k + n := by have := HJ.out; omega
      have d0 : decide ((j : Int) < (k : Int) + (n : Int)) = true := by simp; omega
      cases hv : hexV (hd (L.drop j)) with
      | none =>
        have HXk := Lib.hid (show Calls Tryz.prog 69 #[.int .i32 ((hd (L.drop j) : Nat) : Int)] w (RetSm (.int .i64 (-1)) w) from by have q := HXj; unfold hexI at q; rw [hv] at q; exact q)
        rw [hv] at ST
        have CV := Lib.hid (show codeS n (L.drop k) = none from by rw [CS.out, ← hG.out, ST.out])
        clear HXj hv
        generalize hd (L.drop j) = r at *
        go_wp2_with (first
          | (go_at_call 26; (with_reducible refine (ATj.out).mono ?_); rintro e w1 ⟨rfl, rfl⟩)
          | (go_at_call 69; (with_reducible refine (HXk.out).mono ?_); rintro e w1 ⟨rfl, rfl⟩))
        go_ret2
        exact ⟨0, false, rfl, rfl, by rw [CV.out]⟩
      | some d =>
        have HXk := Lib.hid (show Calls Tryz.prog 69 #[.int .i32 ((hd (L.drop j) : Nat) : Int)] w (RetSm (.int .i64 (d : Int)) w) from by have q := HXj; unfold hexI at q; rw [hv] at q; exact q)
        have d16 := hexV_lt hv
        rw [hv] at ST
        have NX := Lib.hid (show codeGo q (16 * c + d) (L.drop (j + 1)) = codeGo n 0 (L.drop k) from by rw [← hG.out, ST.out, List.drop_drop])
        have PW := Lib.hid (show 16 * c + d < 16 ^ (m + 1) from by have := HC.out; rw [Nat.pow_succ]; omega)
        clear HXj hv
        generalize hd (L.drop j) = r at *
        go_wp2_with (first
          | (go_at_call 26; (with_reducible refine (ATj.out).mono ?_); rintro e w1 ⟨rfl, rfl⟩)
          | (go_at_call 69; (with_reducible refine (HXk.out).mono ?_); rintro e w1 ⟨rfl, rfl⟩))
        go_roundg q
        case measure => omega
        case rel => exact ⟨16 * c + d, m + 1, j + 1, rfl, by omega, by have := HJ.out; omega, PW.out, by go_num, by go_num, NX⟩
def RetEsc (o : Option (Nat × Nat)) (w : World) (e : Ending) (w' : World) : Prop :=
  ∃ (x y : Int) (ok : Bool), e = .returned (.tuple #[.int .i32 x, .int .i64 y, .bool ok]) ∧ w = w' ∧ (match o with | none => ok = false | some (r, m) => ok = true ∧ x = (r : Int) ∧ y = (m : Int))
theorem code_ref2 (b : Nat) (v : Value) (L : List Nat) (k n : Nat) (ki ni : Int) (e1 : ki = (k : Int)) (e2 : ni = (n : Int)) (hk : k ≤ L.length) (hn : n ≤ 6) (hV : Vrs L) (hL : L.length ≤ 17592186044416) (w : World) (h : RowN b w v L) :
    Calls Tryz.prog 58 #[v, .int .i64 ki, .int .i64 ni] w (RetCode (codeS n (L.drop k)) w) := by
  subst e1 e2
  exact code_ref b v L k n hk hn hV hL w h
set_option linter.unusedVariables false in
set_option linter.unusedSimpArgs false in
set_option maxRecDepth 100000 in
set_option maxHeartbeats 8000000 in
theorem escape_ref (b : Nat) (v : Value) (L : List Nat) (k : Nat) (ki : Int) (hki : ki = (k : Int)) (hk : k ≤ L.length) (hV : Vrs L) (hL : L.length ≤ 17592186044416) (w : World) (h : RowN b w v L) :
    Calls Tryz.prog 48 #[v, .int .i64 ki] w (RetEsc (escS (L.drop k)) w) := by
  subst hki
  have H := Lib.hid h
  have AT := at_ref b v L k (by omega) (by omega) w h
  have HV := Lib.hid hV
  obtain ⟨A, cap, rfl⟩ := h.sl2
  clear h hV
  by_cases p110 : hd (L.drop k) = 110
  · rw [p110] at AT
    have ES := Lib.hid (show escS (L.drop k) = some (10, 1) from by unfold escS; simp [p110])
    have AT' := Lib.hid AT
    clear AT p110 
    go_enter Tryz.func48, Tryz.ntmps48
    go_wp2_with (go_at_call 26; (with_reducible refine (AT'.out).mono ?_); rintro e w1 ⟨rfl, rfl⟩)
    refine ret_via (v := .tuple #[.int .i32 10, .int .i64 1, .bool true]) (fun _ => True) (fun VF _ => ?_) trivial rfl ⟨10, 1, true, rfl, rfl, by rw [ES.out]; exact ⟨rfl, rfl, rfl⟩⟩
    simp [results, Tryz.results48, go_sem, *]
  · skip
    by_cases p114 : hd (L.drop k) = 114
    · rw [p114] at AT
      have ES := Lib.hid (show escS (L.drop k) = some (13, 1) from by unfold escS; simp [p114])
      have AT' := Lib.hid AT
      clear AT p114 p110
      go_enter Tryz.func48, Tryz.ntmps48
      go_wp2_with (go_at_call 26; (with_reducible refine (AT'.out).mono ?_); rintro e w1 ⟨rfl, rfl⟩)
      refine ret_via (v := .tuple #[.int .i32 13, .int .i64 1, .bool true]) (fun _ => True) (fun VF _ => ?_) trivial rfl ⟨13, 1, true, rfl, rfl, by rw [ES.out]; exact ⟨rfl, rfl, rfl⟩⟩
      simp [results, Tryz.results48, go_sem, *]
    · skip
      by_cases p116 : hd (L.drop k) = 116
      · rw [p116] at AT
        have ES := Lib.hid (show escS (L.drop k) = some (9, 1) from by unfold escS; simp [p116])
        have AT' := Lib.hid AT
        clear AT p116 p110 p114
        go_enter Tryz.func48, Tryz.ntmps48
        go_wp2_with (go_at_call 26; (with_reducible refine (AT'.out).mono ?_); rintro e w1 ⟨rfl, rfl⟩)
        refine ret_via (v := .tuple #[.int .i32 9, .int .i64 1, .bool true]) (fun _ => True) (fun VF _ => ?_) trivial rfl ⟨9, 1, true, rfl, rfl, by rw [ES.out]; exact ⟨rfl, rfl, rfl⟩⟩
        simp [results, Tryz.results48, go_sem, *]
      · skip
        by_cases p34 : hd (L.drop k) = 34
        · rw [p34] at AT
          have ES := Lib.hid (show escS (L.drop k) = some (34, 1) from by unfold escS; simp [p34])
          obtain ⟨g, rfl, h4, h5, h6, cc⟩ := H.out.cell2 (hd_lt p34 (by decide))
          have h6' : cap ≤ 9223372036854775807 := h6
          have kl := hd_lt p34 (by decide)
          rw [← hd_drop, p34] at cc
          have AT' := Lib.hid AT
          clear AT p34 p110 p114 p116
          go_enter Tryz.func48, Tryz.ntmps48
          go_wp2_with (go_at_call 26; (with_reducible refine (AT'.out).mono ?_); rintro e w1 ⟨rfl, rfl⟩)
          refine ret_via (v := .tuple #[.int .i32 34, .int .i64 1, .bool true]) (fun _ => True) (fun VF _ => ?_) trivial rfl ⟨34, 1, true, rfl, rfl, by rw [ES.out]; exact ⟨rfl, rfl, rfl⟩⟩
          simp [results, Tryz.results48, go_sem, *]
        · skip
          by_cases p39 : hd (L.drop k) = 39
          · rw [p39] at AT
            have ES := Lib.hid (show escS (L.drop k) = some (39, 1) from by unfold escS; simp [p39])
            obtain ⟨g, rfl, h4, h5, h6, cc⟩ := H.out.cell2 (hd_lt p39 (by decide))
            have h6' : cap ≤ 9223372036854775807 := h6
            have kl := hd_lt p39 (by decide)
            rw [← hd_drop, p39] at cc
            have AT' := Lib.hid AT
            clear AT p39 p110 p114 p116 p34
            go_enter Tryz.func48, Tryz.ntmps48
            go_wp2_with (go_at_call 26; (with_reducible refine (AT'.out).mono ?_); rintro e w1 ⟨rfl, rfl⟩)
            refine ret_via (v := .tuple #[.int .i32 39, .int .i64 1, .bool true]) (fun _ => True) (fun VF _ => ?_) trivial rfl ⟨39, 1, true, rfl, rfl, by rw [ES.out]; exact ⟨rfl, rfl, rfl⟩⟩
            simp [results, Tryz.results48, go_sem, *]
          · skip
            by_cases p92 : hd (L.drop k) = 92
            · rw [p92] at AT
              have ES := Lib.hid (show escS (L.drop k) = some (92, 1) from by unfold escS; simp [p92])
              obtain ⟨g, rfl, h4, h5, h6, cc⟩ := H.out.cell2 (hd_lt p92 (by decide))
              have h6' : cap ≤ 9223372036854775807 := h6
              have kl := hd_lt p92 (by decide)
              rw [← hd_drop, p92] at cc
              have AT' := Lib.hid AT
              clear AT p92 p110 p114 p116 p34 p39
              go_enter Tryz.func48, Tryz.ntmps48
              go_wp2_with (go_at_call 26; (with_reducible refine (AT'.out).mono ?_); rintro e w1 ⟨rfl, rfl⟩)
              refine ret_via (v := .tuple #[.int .i32 92, .int .i64 1, .bool true]) (fun _ => True) (fun VF _ => ?_) trivial rfl ⟨92, 1, true, rfl, rfl, by rw [ES.out]; exact ⟨rfl, rfl, rfl⟩⟩
              simp [results, Tryz.results48, go_sem, *]
            · skip
              by_cases p117 : hd (L.drop k) = 117
              · rw [p117] at AT
                have kl := hd_lt p117 (by decide)
                have ES := Lib.hid (show escS (L.drop k) = (codeS 4 (L.drop (k + 1))).map (fun c => (c, 5)) from by unfold escS; simp [p117, List.drop_drop])
                have CO := Lib.hid (code_ref2 b _ L (k + 1) 4 ((k : Int) + 1) 4 (by omega) rfl (by omega) (by decide) HV.out hL w H.out)
                have AT' := Lib.hid AT
                clear AT p117 p110 p114 p116 p34 p39 p92
                go_enter Tryz.func48, Tryz.ntmps48
                go_wp2_with (first
                  | (go_at_call 26; (with_reducible refine (AT'.out).mono ?_); rintro e w1 ⟨rfl, rfl⟩)
                  | (go_at_call 58; (with_reducible refine (CO.out).mono ?_); rintro e w1 ⟨x, ok, rfl, rfl, hx⟩; have HX := Lib.hid hx; clear hx))
                refine ret_via (v := .tuple #[.int .i32 x, .int .i64 5, .bool ok]) (fun _ => True) (fun VF _ => ?_) trivial rfl ⟨x, 5, ok, rfl, rfl, ?_⟩
                · simp [results, Tryz.results48, go_sem, *]
                · rw [ES.out]
                  have q := HX.out
                  cases hc : codeS 4 (L.drop (k + 1)) with
                  | none => rw [hc] at q; exact q
                  | some c => rw [hc] at q; exact ⟨q.1, q.2, rfl⟩
              · skip
                by_cases p85 : hd (L.drop k) = 85
                · rw [p85] at AT
                  have kl := hd_lt p85 (by decide)
                  have ES := Lib.hid (show escS (L.drop k) = (codeS 6 (L.drop (k + 1))).map (fun c => (c, 7)) from by unfold escS; simp [p85, List.drop_drop])
                  have CO := Lib.hid (code_ref2 b _ L (k + 1) 6 ((k : Int) + 1) 6 (by omega) rfl (by omega) (by decide) HV.out hL w H.out)
                  have AT' := Lib.hid AT
                  clear AT p85 p110 p114 p116 p34 p39 p92 p117
                  go_enter Tryz.func48, Tryz.ntmps48
                  go_wp2_with (first
                    | (go_at_call 26; (with_reducible refine (AT'.out).mono ?_); rintro e w1 ⟨rfl, rfl⟩)
                    | (go_at_call 58; (with_reducible refine (CO.out).mono ?_); rintro e w1 ⟨x, ok, rfl, rfl, hx⟩; have HX := Lib.hid hx; clear hx))
                  refine ret_via (v := .tuple #[.int .i32 x, .int .i64 7, .bool ok]) (fun _ => True) (fun VF _ => ?_) trivial rfl ⟨x, 7, ok, rfl, rfl, ?_⟩
                  · simp [results, Tryz.results48, go_sem, *]
                  · rw [ES.out]
                    have q := HX.out
                    cases hc : codeS 6 (L.drop (k + 1)) with
                    | none => rw [hc] at q; exact q
                    | some c => rw [hc] at q; exact ⟨q.1, q.2, rfl⟩
                · skip
                  have n110 := neI p110
                  have n114 := neI p114
                  have n116 := neI p116
                  have n34 := neI p34
                  have n39 := neI p39
                  have n92 := neI p92
                  have n117 := neI p117
                  have n85 := neI p85
                  simp only [Int.cast_ofNat_Int] at n110 n114 n116 n34 n39 n92 n117 n85
                  have ES := Lib.hid (show escS (L.drop k) = none from by unfold escS; simp [p110, p114, p116, p34, p39, p92, p117, p85])
                  have AT' := Lib.hid AT
                  clear AT p110 p114 p116 p34 p39 p92 p117 p85
                  generalize hd (L.drop k) = r at *
                  go_enter Tryz.func48, Tryz.ntmps48
                  go_wp2_with (go_at_call 26; (with_reducible refine (AT'.out).mono ?_); rintro e w1 ⟨rfl, rfl⟩)
                  refine ret_via (v := .tuple #[.int .i32 0, .int .i64 0, .bool false]) (fun _ => True) (fun VF _ => ?_) trivial rfl ⟨0, 0, false, rfl, rfl, by rw [ES.out]⟩
                  simp [results, Tryz.results48, go_sem, *]
end Go.Proofs.YtfelcneedpndiaaGreatDoor

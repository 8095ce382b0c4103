/-
  The document's answer of layer 16: skip, as a contract of its call.
-/
import Derived.Test.YtfelcneedpndiaaGreatDoorIh
namespace Go.Proofs.YtfelcneedpndiaaGreatDoor
open Go.RowKit Go.Lib

def RetSk (L : List Nat) (o : Option (List Nat)) (k : Nat) (w : World) (e : Ending) (w' : World) : Prop :=
  ∃ (j : Nat) (ok : Bool), e = .returned (.tuple #[.int .i64 (j : Int), .bool ok]) ∧ w = w' ∧ (match o with | none => ok = false | some S => ok = true ∧ k ≤ j ∧ j ≤ L.length ∧ L.drop j = S)
theorem getD_hd (L : List Nat) (j : Nat) : L.getD j 0 = hd (L.drop j) := (hd_drop L j).symm
set_option linter.unusedVariables false in
set_option linter.unusedSimpArgs false in
set_option maxRecDepth 100000 in
set_option maxHeartbeats 8000000 in
theorem skip_ref (b : Nat) (v : Value) (L : List Nat) (k : Nat) (hk : k ≤ L.length) (hV : Vrs L) (hL : L.length ≤ 17592186044416) (w : World) (h : RowN b w v L) :
    Calls Tryz.prog 12 #[v, .int .i64 (k : Int)] w (RetSk L (skipS (L.drop k)) k w) := by
  have H := Lib.hid h
  have HV := Lib.hid hV
  have AT := Lib.hid (show ∀ (j : Nat) (ji : Int), ji = (j : Int) → j ≤ L.length + 2 → Calls Tryz.prog 26 #[v, .int .i64 ji] w (RetSm (.int .i32 ((hd (L.drop j) : Nat) : Int)) w) from fun j ji e hj => e ▸ at_ref b v L j (by omega) (by omega) w h)
  have SP := Lib.hid (show ∀ (j : Nat) (ri : Int), ri = ((L.getD j 0 : Nat) : Int) → Calls Tryz.prog 25 #[.int .i32 ri] w (RetSm (.bool (spR (L.getD j 0))) w) from fun j ri e => e ▸ space_ref (L.getD j 0) (getD_vr hV j) w)
  clear h hV
  obtain ⟨A, cap, rfl⟩ := H.out.sl2
  go_enter Tryz.func12, Tryz.ntmps12
  go_wp2_with fail
  go_loopg [1] L.length (fun gg i wr => ∃ j : Nat, w = wr ∧ k ≤ j ∧ j + gg = L.length + k ∧ j ≤ L.length ∧ i = .int .i64 (j : Int) ∧ Hid (skipS (L.drop j) = skipS (L.drop k)))
  case atStart => exact ⟨k, rfl, by omega, by omega, hk, rfl, Lib.hid rfl⟩
  case round =>
    obtain ⟨j, rfl, h1, h2, h3, rfl, hS⟩ := hrel
    by_cases hlt : j < L.length
    · obtain ⟨g, rfl, h4, h5, h6, c⟩ := H.out.cell2 hlt
      have h6' : cap ≤ 9223372036854775807 := h6
      have DC := Lib.hid (drop_cons L j hlt)
      have SPj := SP.out j
      have SK := hS.out
      rw [DC.out, skipS_cons] at SK
      by_cases hsp : spR (L.getD j 0) = true
      · rw [if_pos hsp] at SK
        rw [hsp] at SPj
        have SK' := Lib.hid SK
        have SPk := Lib.hid (SPj _ rfl)
        clear SK SPj
        generalize L.getD j 0 = r at *
        go_wp2_with (go_at_call 25; (with_reducible refine (SPk.out).mono ?_); rintro e w1 ⟨rfl, rfl⟩)
        go_roundg (L.length + k - (j + 1))
        case measure => omega
        case rel => exact ⟨j + 1, rfl, by omega, by omega, by omega, by go_num, SK'⟩
      · rw [if_neg hsp] at SK
        rw [Bool.not_eq_true] at hsp
        rw [hsp] at SPj
        by_cases r47 : L.getD j 0 = 47
        · have SPk := Lib.hid (SPj 47 (by rw [r47]; rfl))
          rw [r47] at c SK DC
          clear r47 hsp SPj
          have AT2 := Lib.hid (AT.out (j + 1) ((j : Int) + 1) (by omega) (by omega))
          by_cases l47 : hd (L.drop (j + 1)) = 47
          · rw [l47] at AT2
            rw [if_pos ⟨rfl, l47⟩] at SK
            have SK' := Lib.hid SK
            have HP := Lib.hid l47
            clear SK l47
            go_wp2_with (first
              | (go_at_call 25; (with_reducible refine (SPk.out).mono ?_); rintro e w1 ⟨rfl, rfl⟩)
              | (go_at_call 26; (with_reducible refine (AT2.out).mono ?_); rintro e w1 ⟨rfl, rfl⟩))
            go_loopg [1] L.length (fun gg i wr => ∃ m : Nat, w = wr ∧ j ≤ m ∧ m + gg = L.length + j ∧ m ≤ L.length ∧ i = .int .i64 (m : Int) ∧ Hid (lineS (L.drop m) = lineS (L.drop j)))
            case atStart => exact ⟨j, rfl, by omega, by omega, h3, rfl, Lib.hid rfl⟩
            case round =>
              obtain ⟨m, rfl, i1, i2, i3, rfl, hM⟩ := hrel
              have LJ := Lib.hid (show lineS (L.drop j) = lineS (L.drop (j + 1)) from by rw [DC.out]; rfl)
              by_cases hml : m < L.length
              · obtain ⟨g', e', h4', h5', h6', cm⟩ := H.out.cell2 hml
                injection e' with e'
                injection e' with e' e''
                subst e'
                have DM := Lib.hid (drop_cons L m hml)
                by_cases r10 : L.getD m 0 = 10
                · have EX := Lib.hid (show L.drop m = lineS (L.drop (j + 1)) from by
                    rw [← LJ.out, ← hM.out, DM.out, r10]; rfl)
                  have jm := Lib.hid (show j + 1 ≤ m from by
                    have a := lineS_le (L.drop (j + 1))
                    rw [← EX.out, List.length_drop, List.length_drop] at a
                    omega)
                  rw [r10] at cm
                  clear r10 DM
                  go_wp2
                  go_roundg (L.length + k - m)
                  case measure => have := jm.out; omega
                  case rel => exact ⟨m, rfl, by omega, by omega, by omega, rfl, Lib.hid (by rw [EX.out]; exact SK'.out)⟩
                · have n10 := neI r10
                  simp only [Int.cast_ofNat_Int] at n10
                  have NX := Lib.hid (show lineS (L.drop (m + 1)) = lineS (L.drop j) from by
                    rw [← hM.out, DM.out]
                    show _ = if L.getD m 0 = 10 then _ else _
                    rw [if_neg r10])
                  clear r10 DM
                  generalize L.getD m 0 = q at *
                  go_wp2
                  go_roundg (L.length + j - (m + 1))
                  case measure => omega
                  case rel => exact ⟨m + 1, rfl, by omega, by omega, by omega, by go_num, NX⟩
              · obtain rfl : m = L.length := by omega
                have EX := Lib.hid (show L.drop L.length = lineS (L.drop (j + 1)) from by
                  rw [← LJ.out, ← hM.out, List.drop_length]; rfl)
                go_wp2
                go_roundg k
                case measure => omega
                case rel => exact ⟨L.length, rfl, by omega, by omega, by omega, rfl, Lib.hid (by rw [EX.out]; exact SK'.out)⟩
          · rw [if_neg (fun x => l47 x.2)] at SK
            have n47 := neI l47
            simp only [Int.cast_ofNat_Int] at n47
            by_cases b42 : hd (L.drop (j + 1)) = 42
            · rw [b42] at AT2
              rw [if_pos ⟨rfl, b42⟩, List.drop_drop] at SK
              have j2 := hd_lt b42 (by decide)
              have SK' := Lib.hid SK
              have HP := Lib.hid (And.intro l47 b42)
              clear SK l47 b42 n47
              go_wp2_with (first
                | (go_at_call 25; (with_reducible refine (SPk.out).mono ?_); rintro e w1 ⟨rfl, rfl⟩)
                | (go_at_call 26; (with_reducible refine (AT2.out).mono ?_); rintro e w1 ⟨rfl, rfl⟩))
              go_loopg [1] L.length (fun gg i wr => ∃ m : Nat, w = wr ∧ j + 2 ≤ m ∧ m + gg = L.length + (j + 2) ∧ m ≤ L.length ∧ i = .int .i64 (m : Int) ∧ Hid (blockS (L.drop m) = blockS (L.drop (j + 1 + 1))))
              case atStart => exact ⟨j + 2, rfl, by omega, by omega, by omega, by go_num, Lib.hid rfl⟩
              case round =>
                obtain ⟨m, rfl, i1, i2, i3, rfl, hM⟩ := hrel
                by_cases hml : m < L.length
                · obtain ⟨g', e', h4', h5', h6', cm⟩ := H.out.cell2 hml
                  injection e' with e'
                  injection e' with e' e''
                  subst e'
                  have DM := Lib.hid (drop_cons L m hml)
                  have AT3 := Lib.hid (AT.out (m + 1) ((m : Int) + 1) (by omega) (by omega))
                  by_cases r42 : L.getD m 0 = 42
                  · rw [r42] at cm DM
                    clear r42
                    by_cases s47 : hd (L.drop (m + 1)) = 47
                    · rw [s47] at AT3
                      have m2 := hd_lt s47 (by decide)
                      have EX := Lib.hid (show blockS (L.drop (j + 1 + 1)) = some (L.drop (m + 1 + 1)) from by
                        rw [← hM.out, DM.out]
                        show (if 42 = 42 ∧ hd (L.drop (m + 1)) = 47 then _ else _) = _
                        rw [if_pos ⟨rfl, s47⟩, List.drop_drop])
                      have SK2 := Lib.hid (show skipS (L.drop (m + 1 + 1)) = skipS (L.drop k) from by rw [← SK'.out, EX.out])
                      clear s47 DM
                      go_wp2_with (go_at_call 26; (with_reducible refine (AT3.out).mono ?_); rintro e w1 ⟨rfl, rfl⟩)
                      go_roundg (L.length + k - (m + 2))
                      case measure => omega
                      case rel => exact ⟨m + 2, rfl, by omega, by omega, by omega, by go_num, SK2⟩
                    · have n47 := neI s47
                      simp only [Int.cast_ofNat_Int] at n47
                      have NX := Lib.hid (show blockS (L.drop (m + 1)) = blockS (L.drop (j + 1 + 1)) from by
                        rw [← hM.out, DM.out]
                        show _ = if 42 = 42 ∧ hd (L.drop (m + 1)) = 47 then _ else _
                        rw [if_neg (fun x => s47 x.2)])
                      clear s47 DM
                      go_wp2_with (go_at_call 26; (with_reducible refine (AT3.out).mono ?_); rintro e w1 ⟨rfl, rfl⟩)
                      go_roundg (L.length + (j + 2) - (m + 1))
                      case measure => omega
                      case rel => exact ⟨m + 1, rfl, by omega, by omega, by omega, by go_num, NX⟩
                  · have n42 := neI r42
                    simp only [Int.cast_ofNat_Int] at n42
                    have NX := Lib.hid (show blockS (L.drop (m + 1)) = blockS (L.drop (j + 1 + 1)) from by
                      rw [← hM.out, DM.out]
                      show _ = if L.getD m 0 = 42 ∧ hd (L.drop (m + 1)) = 47 then _ else _
                      rw [if_neg (fun x => r42 x.1)])
                    clear r42 DM AT3
                    generalize L.getD m 0 = q at *
                    go_wp2
                    go_roundg (L.length + (j + 2) - (m + 1))
                    case measure => omega
                    case rel => exact ⟨m + 1, rfl, by omega, by omega, by omega, by go_num, NX⟩
                · obtain rfl : m = L.length := by omega
                  have EX := Lib.hid (show none = skipS (L.drop k) from by
                    rw [← SK'.out, ← hM.out, List.drop_length]; rfl)
                  go_wp2
                  go_ret2
                  refine ⟨L.length, false, rfl, rfl, ?_⟩
                  rw [← EX.out]
            · rw [if_neg (fun x => b42 x.2)] at SK
              have n42 := neI b42
              simp only [Int.cast_ofNat_Int] at n42
              have SK' := Lib.hid SK
              have m47 : (((hd (L.drop (j + 1)) : Nat) : Int) != 47) = true := by simp; omega
              have m42 : (((hd (L.drop (j + 1)) : Nat) : Int) != 42) = true := by simp; omega
              clear SK l47 b42
              generalize hd (L.drop (j + 1)) = q at *
              go_wp2_with (first
                | (go_at_call 25; (with_reducible refine (SPk.out).mono ?_); rintro e w1 ⟨rfl, rfl⟩)
                | (go_at_call 26; (with_reducible refine (AT2.out).mono ?_); rintro e w1 ⟨rfl, rfl⟩))
              go_ret2
              refine ⟨j, true, rfl, rfl, ?_⟩
              rw [← SK'.out]
              exact ⟨rfl, h1, h3, DC.out⟩
        · have SPk := Lib.hid (SPj _ rfl)
          have n47 := neI r47
          simp only [Int.cast_ofNat_Int] at n47
          rw [if_neg (fun x => r47 x.1), if_neg (fun x => r47 x.1)] at SK
          have SK' := Lib.hid SK
          have m47 : (((L.getD j 0 : Nat) : Int) != 47) = true := by rw [bne, n47]; rfl
          clear SK SPj r47 hsp
          generalize L.getD j 0 = r at *
          go_wp2_with (go_at_call 25; (with_reducible refine (SPk.out).mono ?_); rintro e w1 ⟨rfl, rfl⟩)
          go_ret2
          refine ⟨j, true, rfl, rfl, ?_⟩
          rw [← SK'.out]
          exact ⟨rfl, h1, h3, DC.out⟩
    · obtain rfl : j = L.length := by omega
      have EX := Lib.hid (show some [] = skipS (L.drop k) from by rw [← hS.out, List.drop_length]; rfl)
      go_wp2
      go_ret2
      refine ⟨L.length, true, rfl, rfl, ?_⟩
      rw [← EX.out]
      exact ⟨rfl, h1, Nat.le_refl _, List.drop_length⟩
end Go.Proofs.YtfelcneedpndiaaGreatDoor

/-
  The document's answer of layer 16: symbol, as a contract of its call.
-/
import Derived.Test.YtfelcneedpndiaaGreatDoorIh
namespace Go.Proofs.YtfelcneedpndiaaGreatDoor
open Go.RowKit Go.Lib

set_option linter.unusedVariables false in
set_option linter.unusedSimpArgs false in
set_option maxRecDepth 100000 in
set_option maxHeartbeats 16000000 in
theorem symbol_ref (b : Nat) (v : Value) (L : List Nat) (k : Nat) (hk : k ≤ L.length) (hL : L.length ≤ 17592186044416) (w : World) (h : RowN b w v L) :
    Calls Tryz.prog 31 #[v, .int .i64 (k : Int)] w (RetSm (.int .i64 ((symS (L.drop k) : Nat) : Int)) w) := by
  have AT1 := at_ref b v L k (by omega) (by omega) w h
  have AT2 := (show ∀ (j : Nat) (ji : Int), ji = (j : Int) → j ≤ L.length + 2 → Calls Tryz.prog 26 #[v, .int .i64 ji] w (RetSm (.int .i32 ((hd (L.drop j) : Nat) : Int)) w) from fun j ji e hj => e ▸ at_ref b v L j (by omega) (by omega) w h) (k + 1) ((k : Int) + 1) (by omega) (by omega)
  have SY : symS (L.drop k) = (if (hd (L.drop k) = 46 ∧ hd (L.drop (k + 1)) = 46) ∨ (hd (L.drop k) = 42 ∧ hd (L.drop (k + 1)) = 42) ∨ ((hd (L.drop k) = 60 ∨ hd (L.drop k) = 62 ∨ hd (L.drop k) = 33) ∧ hd (L.drop (k + 1)) = 61) ∨ (hd (L.drop k) = 45 ∧ hd (L.drop (k + 1)) = 62) then 2
    else if hd (L.drop k) = 40 ∨ hd (L.drop k) = 41 ∨ hd (L.drop k) = 91 ∨ hd (L.drop k) = 93 ∨ hd (L.drop k) = 123 ∨ hd (L.drop k) = 125 ∨ hd (L.drop k) = 44 ∨ hd (L.drop k) = 58 ∨ hd (L.drop k) = 46 ∨ hd (L.drop k) = 43 ∨ hd (L.drop k) = 45 ∨ hd (L.drop k) = 42 ∨ hd (L.drop k) = 47 ∨ hd (L.drop k) = 61 ∨ hd (L.drop k) = 60 ∨ hd (L.drop k) = 62 ∨ hd (L.drop k) = 39 then 1
    else 0) := by unfold symS; simp only [List.drop_drop]
  generalize symS (L.drop k) = S at *
  obtain ⟨A, cap, rfl⟩ := h.sl2
  clear h
  generalize hd (L.drop k) = p at *
  generalize hd (L.drop (k + 1)) = q at *
  by_cases p46 : p = 46
  · subst p46
    by_cases qq : q = 46
    · subst qq
      have E := Lib.hid (show S = 2 from by rw [SY]; simp [*])
      have X1 := Lib.hid AT1
      have X2 := Lib.hid AT2
      clear AT1 AT2 SY
      go_enter Tryz.func31, Tryz.ntmps31
      go_wp2_with (first
        | (go_at_call 26; (with_reducible refine (X1.out).mono ?_); rintro e w1 ⟨rfl, rfl⟩)
        | (go_at_call 26; (with_reducible refine (X2.out).mono ?_); rintro e w1 ⟨rfl, rfl⟩))
      go_ret
      exact ⟨by rw [E.out]; rfl, rfl⟩
    · have nq := neI qq
      simp only [Int.cast_ofNat_Int] at nq
      have E := Lib.hid (show S = 1 from by rw [SY]; simp [qq])
      have X1 := Lib.hid AT1
      have X2 := Lib.hid AT2
      clear AT1 AT2 SY qq
      go_enter Tryz.func31, Tryz.ntmps31
      go_wp2_with (first
        | (go_at_call 26; (with_reducible refine (X1.out).mono ?_); rintro e w1 ⟨rfl, rfl⟩)
        | (go_at_call 26; (with_reducible refine (X2.out).mono ?_); rintro e w1 ⟨rfl, rfl⟩))
      go_ret
      exact ⟨by rw [E.out]; rfl, rfl⟩
  by_cases p42 : p = 42
  · subst p42
    by_cases qq : q = 42
    · subst qq
      have E := Lib.hid (show S = 2 from by rw [SY]; simp [*])
      have X1 := Lib.hid AT1
      have X2 := Lib.hid AT2
      clear AT1 AT2 SY
      go_enter Tryz.func31, Tryz.ntmps31
      go_wp2_with (first
        | (go_at_call 26; (with_reducible refine (X1.out).mono ?_); rintro e w1 ⟨rfl, rfl⟩)
        | (go_at_call 26; (with_reducible refine (X2.out).mono ?_); rintro e w1 ⟨rfl, rfl⟩))
      go_ret
      exact ⟨by rw [E.out]; rfl, rfl⟩
    · have nq := neI qq
      simp only [Int.cast_ofNat_Int] at nq
      have E := Lib.hid (show S = 1 from by rw [SY]; simp [qq])
      have X1 := Lib.hid AT1
      have X2 := Lib.hid AT2
      clear AT1 AT2 SY qq
      go_enter Tryz.func31, Tryz.ntmps31
      go_wp2_with (first
        | (go_at_call 26; (with_reducible refine (X1.out).mono ?_); rintro e w1 ⟨rfl, rfl⟩)
        | (go_at_call 26; (with_reducible refine (X2.out).mono ?_); rintro e w1 ⟨rfl, rfl⟩))
      go_ret
      exact ⟨by rw [E.out]; rfl, rfl⟩
  by_cases p60 : p = 60
  · subst p60
    by_cases qq : q = 61
    · subst qq
      have E := Lib.hid (show S = 2 from by rw [SY]; simp [*])
      have X1 := Lib.hid AT1
      have X2 := Lib.hid AT2
      clear AT1 AT2 SY
      go_enter Tryz.func31, Tryz.ntmps31
      go_wp2_with (first
        | (go_at_call 26; (with_reducible refine (X1.out).mono ?_); rintro e w1 ⟨rfl, rfl⟩)
        | (go_at_call 26; (with_reducible refine (X2.out).mono ?_); rintro e w1 ⟨rfl, rfl⟩))
      go_ret
      exact ⟨by rw [E.out]; rfl, rfl⟩
    · have nq := neI qq
      simp only [Int.cast_ofNat_Int] at nq
      have E := Lib.hid (show S = 1 from by rw [SY]; simp [qq])
      have X1 := Lib.hid AT1
      have X2 := Lib.hid AT2
      clear AT1 AT2 SY qq
      go_enter Tryz.func31, Tryz.ntmps31
      go_wp2_with (first
        | (go_at_call 26; (with_reducible refine (X1.out).mono ?_); rintro e w1 ⟨rfl, rfl⟩)
        | (go_at_call 26; (with_reducible refine (X2.out).mono ?_); rintro e w1 ⟨rfl, rfl⟩))
      go_ret
      exact ⟨by rw [E.out]; rfl, rfl⟩
  by_cases p62 : p = 62
  · subst p62
    by_cases qq : q = 61
    · subst qq
      have E := Lib.hid (show S = 2 from by rw [SY]; simp [*])
      have X1 := Lib.hid AT1
      have X2 := Lib.hid AT2
      clear AT1 AT2 SY
      go_enter Tryz.func31, Tryz.ntmps31
      go_wp2_with (first
        | (go_at_call 26; (with_reducible refine (X1.out).mono ?_); rintro e w1 ⟨rfl, rfl⟩)
        | (go_at_call 26; (with_reducible refine (X2.out).mono ?_); rintro e w1 ⟨rfl, rfl⟩))
      go_ret
      exact ⟨by rw [E.out]; rfl, rfl⟩
    · have nq := neI qq
      simp only [Int.cast_ofNat_Int] at nq
      have E := Lib.hid (show S = 1 from by rw [SY]; simp [qq])
      have X1 := Lib.hid AT1
      have X2 := Lib.hid AT2
      clear AT1 AT2 SY qq
      go_enter Tryz.func31, Tryz.ntmps31
      go_wp2_with (first
        | (go_at_call 26; (with_reducible refine (X1.out).mono ?_); rintro e w1 ⟨rfl, rfl⟩)
        | (go_at_call 26; (with_reducible refine (X2.out).mono ?_); rintro e w1 ⟨rfl, rfl⟩))
      go_ret
      exact ⟨by rw [E.out]; rfl, rfl⟩
  by_cases p33 : p = 33
  · subst p33
    by_cases qq : q = 61
    · subst qq
      have E := Lib.hid (show S = 2 from by rw [SY]; simp [*])
      have X1 := Lib.hid AT1
      have X2 := Lib.hid AT2
      clear AT1 AT2 SY
      go_enter Tryz.func31, Tryz.ntmps31
      go_wp2_with (first
        | (go_at_call 26; (with_reducible refine (X1.out).mono ?_); rintro e w1 ⟨rfl, rfl⟩)
        | (go_at_call 26; (with_reducible refine (X2.out).mono ?_); rintro e w1 ⟨rfl, rfl⟩))
      go_ret
      exact ⟨by rw [E.out]; rfl, rfl⟩
    · have nq := neI qq
      simp only [Int.cast_ofNat_Int] at nq
      have E := Lib.hid (show S = 0 from by rw [SY]; simp [qq])
      have X1 := Lib.hid AT1
      have X2 := Lib.hid AT2
      clear AT1 AT2 SY qq
      go_enter Tryz.func31, Tryz.ntmps31
      go_wp2_with (first
        | (go_at_call 26; (with_reducible refine (X1.out).mono ?_); rintro e w1 ⟨rfl, rfl⟩)
        | (go_at_call 26; (with_reducible refine (X2.out).mono ?_); rintro e w1 ⟨rfl, rfl⟩))
      go_ret
      exact ⟨by rw [E.out]; rfl, rfl⟩
  by_cases p45 : p = 45
  · subst p45
    by_cases qq : q = 62
    · subst qq
      have E := Lib.hid (show S = 2 from by rw [SY]; simp [*])
      have X1 := Lib.hid AT1
      have X2 := Lib.hid AT2
      clear AT1 AT2 SY
      go_enter Tryz.func31, Tryz.ntmps31
      go_wp2_with (first
        | (go_at_call 26; (with_reducible refine (X1.out).mono ?_); rintro e w1 ⟨rfl, rfl⟩)
        | (go_at_call 26; (with_reducible refine (X2.out).mono ?_); rintro e w1 ⟨rfl, rfl⟩))
      go_ret
      exact ⟨by rw [E.out]; rfl, rfl⟩
    · have nq := neI qq
      simp only [Int.cast_ofNat_Int] at nq
      have E := Lib.hid (show S = 1 from by rw [SY]; simp [qq])
      have X1 := Lib.hid AT1
      have X2 := Lib.hid AT2
      clear AT1 AT2 SY qq
      go_enter Tryz.func31, Tryz.ntmps31
      go_wp2_with (first
        | (go_at_call 26; (with_reducible refine (X1.out).mono ?_); rintro e w1 ⟨rfl, rfl⟩)
        | (go_at_call 26; (with_reducible refine (X2.out).mono ?_); rintro e w1 ⟨rfl, rfl⟩))
      go_ret
      exact ⟨by rw [E.out]; rfl, rfl⟩
  by_cases p40 : p = 40
  · subst p40
    have E := Lib.hid (show S = 1 from by rw [SY]; simp)
    have X1 := Lib.hid AT1
    have X2 := Lib.hid AT2
    clear AT1 AT2 SY
    go_enter Tryz.func31, Tryz.ntmps31
    go_wp2_with (first
      | (go_at_call 26; (with_reducible refine (X1.out).mono ?_); rintro e w1 ⟨rfl, rfl⟩)
      | (go_at_call 26; (with_reducible refine (X2.out).mono ?_); rintro e w1 ⟨rfl, rfl⟩))
    go_ret
    exact ⟨by rw [E.out]; rfl, rfl⟩
  by_cases p41 : p = 41
  · subst p41
    have E := Lib.hid (show S = 1 from by rw [SY]; simp)
    have X1 := Lib.hid AT1
    have X2 := Lib.hid AT2
    clear AT1 AT2 SY
    go_enter Tryz.func31, Tryz.ntmps31
    go_wp2_with (first
      | (go_at_call 26; (with_reducible refine (X1.out).mono ?_); rintro e w1 ⟨rfl, rfl⟩)
      | (go_at_call 26; (with_reducible refine (X2.out).mono ?_); rintro e w1 ⟨rfl, rfl⟩))
    go_ret
    exact ⟨by rw [E.out]; rfl, rfl⟩
  by_cases p91 : p = 91
  · subst p91
    have E := Lib.hid (show S = 1 from by rw [SY]; simp)
    have X1 := Lib.hid AT1
    have X2 := Lib.hid AT2
    clear AT1 AT2 SY
    go_enter Tryz.func31, Tryz.ntmps31
    go_wp2_with (first
      | (go_at_call 26; (with_reducible refine (X1.out).mono ?_); rintro e w1 ⟨rfl, rfl⟩)
      | (go_at_call 26; (with_reducible refine (X2.out).mono ?_); rintro e w1 ⟨rfl, rfl⟩))
    go_ret
    exact ⟨by rw [E.out]; rfl, rfl⟩
  by_cases p93 : p = 93
  · subst p93
    have E := Lib.hid (show S = 1 from by rw [SY]; simp)
    have X1 := Lib.hid AT1
    have X2 := Lib.hid AT2
    clear AT1 AT2 SY
    go_enter Tryz.func31, Tryz.ntmps31
    go_wp2_with (first
      | (go_at_call 26; (with_reducible refine (X1.out).mono ?_); rintro e w1 ⟨rfl, rfl⟩)
      | (go_at_call 26; (with_reducible refine (X2.out).mono ?_); rintro e w1 ⟨rfl, rfl⟩))
    go_ret
    exact ⟨by rw [E.out]; rfl, rfl⟩
  by_cases p123 : p = 123
  · subst p123
    have E := Lib.hid (show S = 1 from by rw [SY]; simp)
    have X1 := Lib.hid AT1
    have X2 := Lib.hid AT2
    clear AT1 AT2 SY
    go_enter Tryz.func31, Tryz.ntmps31
    go_wp2_with (first
      | (go_at_call 26; (with_reducible refine (X1.out).mono ?_); rintro e w1 ⟨rfl, rfl⟩)
      | (go_at_call 26; (with_reducible refine (X2.out).mono ?_); rintro e w1 ⟨rfl, rfl⟩))
    go_ret
    exact ⟨by rw [E.out]; rfl, rfl⟩
  by_cases p125 : p = 125
  · subst p125
    have E := Lib.hid (show S = 1 from by rw [SY]; simp)
    have X1 := Lib.hid AT1
    have X2 := Lib.hid AT2
    clear AT1 AT2 SY
    go_enter Tryz.func31, Tryz.ntmps31
    go_wp2_with (first
      | (go_at_call 26; (with_reducible refine (X1.out).mono ?_); rintro e w1 ⟨rfl, rfl⟩)
      | (go_at_call 26; (with_reducible refine (X2.out).mono ?_); rintro e w1 ⟨rfl, rfl⟩))
    go_ret
    exact ⟨by rw [E.out]; rfl, rfl⟩
  by_cases p44 : p = 44
  · subst p44
    have E := Lib.hid (show S = 1 from by rw [SY]; simp)
    have X1 := Lib.hid AT1
    have X2 := Lib.hid AT2
    clear AT1 AT2 SY
    go_enter Tryz.func31, Tryz.ntmps31
    go_wp2_with (first
      | (go_at_call 26; (with_reducible refine (X1.out).mono ?_); rintro e w1 ⟨rfl, rfl⟩)
      | (go_at_call 26; (with_reducible refine (X2.out).mono ?_); rintro e w1 ⟨rfl, rfl⟩))
    go_ret
    exact ⟨by rw [E.out]; rfl, rfl⟩
  by_cases p58 : p = 58
  · subst p58
    have E := Lib.hid (show S = 1 from by rw [SY]; simp)
    have X1 := Lib.hid AT1
    have X2 := Lib.hid AT2
    clear AT1 AT2 SY
    go_enter Tryz.func31, Tryz.ntmps31
    go_wp2_with (first
      | (go_at_call 26; (with_reducible refine (X1.out).mono ?_); rintro e w1 ⟨rfl, rfl⟩)
      | (go_at_call 26; (with_reducible refine (X2.out).mono ?_); rintro e w1 ⟨rfl, rfl⟩))
    go_ret
    exact ⟨by rw [E.out]; rfl, rfl⟩
  by_cases p43 : p = 43
  · subst p43
    have E := Lib.hid (show S = 1 from by rw [SY]; simp)
    have X1 := Lib.hid AT1
    have X2 := Lib.hid AT2
    clear AT1 AT2 SY
    go_enter Tryz.func31, Tryz.ntmps31
    go_wp2_with (first
      | (go_at_call 26; (with_reducible refine (X1.out).mono ?_); rintro e w1 ⟨rfl, rfl⟩)
      | (go_at_call 26; (with_reducible refine (X2.out).mono ?_); rintro e w1 ⟨rfl, rfl⟩))
    go_ret
    exact ⟨by rw [E.out]; rfl, rfl⟩
  by_cases p47 : p = 47
  · subst p47
    have E := Lib.hid (show S = 1 from by rw [SY]; simp)
    have X1 := Lib.hid AT1
    have X2 := Lib.hid AT2
    clear AT1 AT2 SY
    go_enter Tryz.func31, Tryz.ntmps31
    go_wp2_with (first
      | (go_at_call 26; (with_reducible refine (X1.out).mono ?_); rintro e w1 ⟨rfl, rfl⟩)
      | (go_at_call 26; (with_reducible refine (X2.out).mono ?_); rintro e w1 ⟨rfl, rfl⟩))
    go_ret
    exact ⟨by rw [E.out]; rfl, rfl⟩
  by_cases p61 : p = 61
  · subst p61
    have E := Lib.hid (show S = 1 from by rw [SY]; simp)
    have X1 := Lib.hid AT1
    have X2 := Lib.hid AT2
    clear AT1 AT2 SY
    go_enter Tryz.func31, Tryz.ntmps31
    go_wp2_with (first
      | (go_at_call 26; (with_reducible refine (X1.out).mono ?_); rintro e w1 ⟨rfl, rfl⟩)
      | (go_at_call 26; (with_reducible refine (X2.out).mono ?_); rintro e w1 ⟨rfl, rfl⟩))
    go_ret
    exact ⟨by rw [E.out]; rfl, rfl⟩
  by_cases p39 : p = 39
  · subst p39
    have E := Lib.hid (show S = 1 from by rw [SY]; simp)
    have X1 := Lib.hid AT1
    have X2 := Lib.hid AT2
    clear AT1 AT2 SY
    go_enter Tryz.func31, Tryz.ntmps31
    go_wp2_with (first
      | (go_at_call 26; (with_reducible refine (X1.out).mono ?_); rintro e w1 ⟨rfl, rfl⟩)
      | (go_at_call 26; (with_reducible refine (X2.out).mono ?_); rintro e w1 ⟨rfl, rfl⟩))
    go_ret
    exact ⟨by rw [E.out]; rfl, rfl⟩
  have E := Lib.hid (show S = 0 from by rw [SY]; simp [p46, p42, p60, p62, p33, p45, p40, p41, p91, p93, p123, p125, p44, p58, p43, p47, p61, p39])
  have n46 := neI p46
  have n42 := neI p42
  have n60 := neI p60
  have n62 := neI p62
  have n33 := neI p33
  have n45 := neI p45
  have n40 := neI p40
  have n41 := neI p41
  have n91 := neI p91
  have n93 := neI p93
  have n123 := neI p123
  have n125 := neI p125
  have n44 := neI p44
  have n58 := neI p58
  have n43 := neI p43
  have n47 := neI p47
  have n61 := neI p61
  have n39 := neI p39
  simp only [Int.cast_ofNat_Int] at n46 n42 n60 n62 n33 n45 n40 n41 n91 n93 n123 n125 n44 n58 n43 n47 n61 n39
  have X1 := Lib.hid AT1
  have X2 := Lib.hid AT2
  clear AT1 AT2 SY p46 p42 p60 p62 p33 p45 p40 p41 p91 p93 p123 p125 p44 p58 p43 p47 p61 p39
  go_enter Tryz.func31, Tryz.ntmps31
  go_wp2_with (first
    | (go_at_call 26; (with_reducible refine (X1.out).mono ?_); rintro e w1 ⟨rfl, rfl⟩)
    | (go_at_call 26; (with_reducible refine (X2.out).mono ?_); rintro e w1 ⟨rfl, rfl⟩))
  go_ret
  exact ⟨by rw [E.out]; rfl, rfl⟩
end Go.Proofs.YtfelcneedpndiaaGreatDoor

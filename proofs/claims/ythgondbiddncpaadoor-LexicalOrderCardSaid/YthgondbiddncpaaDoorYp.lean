/-
  Durations' texts (layer 9), plain: how numbers and letters are summed up, rune by rune and piece by piece.
-/
import Derived.Lib.Hide
namespace Go.Proofs.YthgondbiddncpaaDoor

def isD (b : Nat) : Bool := decide (48 ≤ b ∧ b ≤ 57)
abbrev SumT := Nat × Nat × Nat × List (Nat × Nat)
/-- The unit of a letter, and those behind it. -/
def findU : List (Nat × Nat) → Nat → Option (Nat × List (Nat × Nat))
  | [], _ => none
  | u :: us, c => if u.1 = c then some (u.2, us) else findU us c
/-- One sign. -/
def stepU (most b : Nat) (s : SumT) : Option SumT :=
  if isD b = true ∧ s.2.2.1 < most then some (s.1, s.2.1 * 10 + (b - 48), s.2.2.1 + 1, s.2.2.2)
  else match findU s.2.2.2 b with
    | none => none
    | some (z, us) => if s.2.2.1 = 0 then none else some (s.1 + s.2.1 * z, 0, 0, us)
def runU (most : Nat) : List UInt8 → SumT → Option SumT
  | [], s => some s
  | b :: t, s => match stepU most b.toNat s with
    | none => none
    | some s' => runU most t s'
def finU : Option SumT → Option Nat
  | none => none
  | some s => if s.2.2.1 = 0 then some s.1 else none
def sumU (most : Nat) (l : List UInt8) (us : List (Nat × Nat)) (a : Nat) : Option Nat := finU (runU most l (a, 0, 0, us))
def valU (n : Nat) : List UInt8 → Nat
  | [] => n
  | b :: t => valU (n * 10 + (b.toNat - 48)) t
def digU : List UInt8 → List UInt8
  | [] => []
  | b :: t => if isD b.toNat = true then b :: digU t else []
def resU : List UInt8 → List UInt8
  | [] => []
  | b :: t => if isD b.toNat = true then resU t else b :: t
theorem dig_res (l : List UInt8) : digU l ++ resU l = l := by
  induction l with
  | nil => rfl
  | cons b t ih =>
    unfold digU resU
    split
    · rw [List.cons_append, ih]
    · rfl
theorem dig_all (l : List UInt8) : ∀ b ∈ digU l, isD b.toNat = true := by
  induction l with
  | nil => intro b h; exact absurd h (by simp [digU])
  | cons c t ih =>
    intro b h
    unfold digU at h
    split at h
    · rename_i q
      rcases List.mem_cons.1 h with h | h
      · rw [h]; exact q
      · exact ih b h
    · exact absurd h (by simp)
theorem res_head (l : List UInt8) : ∀ c t, resU l = c :: t → isD c.toNat = false := by
  induction l with
  | nil => intro c t h; exact absurd h (by simp [resU])
  | cons b r ih =>
    intro c t h
    unfold resU at h
    split at h
    · exact ih c t h
    · rename_i q
      cases h
      simpa using q
/-- A number and a letter: how much, what is behind, whether there are such. -/
def pieceU (most : Nat) (u : Nat × Nat) (l : List UInt8) : Nat × List UInt8 × Bool :=
  match resU l with
  | [] => (0, l, false)
  | c :: r => if digU l ≠ [] ∧ (digU l).length ≤ most ∧ c.toNat = u.1 then (valU 0 (digU l) * u.2, r, true) else (0, l, false)
def niceU (us : List (Nat × Nat)) : Prop := ∀ u ∈ us, isD u.1 = false
theorem find_digit {us : List (Nat × Nat)} (h : niceU us) {b : Nat} (hb : isD b = true) : findU us b = none := by
  induction us with
  | nil => rfl
  | cons u us ih =>
    unfold findU
    rw [if_neg (fun e => by have := h u (List.mem_cons_self ..); rw [e, hb] at this; exact absurd this (by decide))]
    exact ih (fun v hv => h v (List.mem_cons_of_mem _ hv))
theorem run_digits (most : Nat) (r : List UInt8) (us : List (Nat × Nat)) (a : Nat) : ∀ (ds : List UInt8) (n k : Nat), (∀ b ∈ ds, isD b.toNat = true) → k + ds.length ≤ most → runU most (ds ++ r) (a, n, k, us) = runU most r (a, valU n ds, k + ds.length, us) := by
  intro ds
  induction ds with
  | nil => intro n k _ _; rfl
  | cons b t ih =>
    intro n k h hk
    rw [List.length_cons] at hk
    rw [List.cons_append]
    conv => lhs; unfold runU
    unfold stepU
    rw [if_pos ⟨h b (List.mem_cons_self ..), by show k < most; omega⟩]
    show runU most (t ++ r) (a, n * 10 + (b.toNat - 48), k + 1, us) = _
    rw [ih _ _ (fun c hc => h c (List.mem_cons_of_mem _ hc)) (by omega), List.length_cons, show k + 1 + t.length = k + (t.length + 1) by omega]
    rfl
theorem run_long (most : Nat) (r : List UInt8) (us : List (Nat × Nat)) (hu : niceU us) (a : Nat) : ∀ (ds : List UInt8) (n k : Nat), (∀ b ∈ ds, isD b.toNat = true) → k ≤ most → most < k + ds.length → runU most (ds ++ r) (a, n, k, us) = none := by
  intro ds
  induction ds with
  | nil => intro n k _ h1 h2; rw [List.length_nil] at h2; omega
  | cons b t ih =>
    intro n k h h1 h2
    rw [List.length_cons] at h2
    rw [List.cons_append]
    unfold runU stepU
    by_cases q : k < most
    · rw [if_pos ⟨h b (List.mem_cons_self ..), q⟩]
      show runU most (t ++ r) (a, n * 10 + (b.toNat - 48), k + 1, us) = none
      exact ih _ _ (fun c hc => h c (List.mem_cons_of_mem _ hc)) (by omega) (by omega)
    · rw [if_neg (fun e => q e.2)]
      show (match (match findU us b.toNat with | none => none | some (z, us) => if k = 0 then none else some (a + n * z, 0, 0, us) : Option SumT) with | none => none | some s' => runU most (t ++ r) s') = none
      rw [find_digit hu (h b (List.mem_cons_self ..))]
theorem run_none (most a : Nat) : ∀ (l : List UInt8) (n k : Nat), runU most l (a, n, k, []) = none ∨ ∃ m, runU most l (a, n, k, []) = some (a, m, k + l.length, []) := by
  intro l
  induction l with
  | nil => intro n k; exact .inr ⟨n, rfl⟩
  | cons b t ih =>
    intro n k
    unfold runU stepU
    by_cases q : isD b.toNat = true ∧ k < most
    · rw [if_pos q]
      rcases ih (n * 10 + (b.toNat - 48)) (k + 1) with h | ⟨m, h⟩
      · exact .inl h
      · exact .inr ⟨m, by rw [List.length_cons, show k + (t.length + 1) = k + 1 + t.length by omega]; exact h⟩
    · rw [if_neg q]
      exact .inl rfl
theorem sum_nil (most : Nat) (l : List UInt8) (a : Nat) : sumU most l [] a = if l = [] then some a else none := by
  unfold sumU
  rcases run_none most a l 0 0 with h | ⟨m, h⟩
  · rw [h]
    by_cases q : l = []
    · rw [q] at h; exact absurd h (by simp [runU])
    · rw [if_neg q]; rfl
  · rw [h]
    by_cases q : l = []
    · rw [if_pos q, q]; rfl
    · rw [if_neg q]
      show (if 0 + l.length = 0 then some a else none) = none
      rw [if_neg (fun e => q (List.length_eq_zero_iff.1 (by omega)))]
theorem run_cons (most : Nat) (b : UInt8) (t : List UInt8) (s : SumT) : runU most (b :: t) s = match stepU most b.toNat s with | none => none | some s' => runU most t s' := rfl
theorem sum_empty (most : Nat) (us : List (Nat × Nat)) (a : Nat) : sumU most [] us a = some a := rfl
theorem piece_eq (most : Nat) (u : Nat × Nat) (l : List UInt8) : (∃ c r, resU l = c :: r ∧ digU l ≠ [] ∧ (digU l).length ≤ most ∧ c.toNat = u.1 ∧ pieceU most u l = (valU 0 (digU l) * u.2, r, true)) ∨ ((∀ c r, resU l = c :: r → ¬ (digU l ≠ [] ∧ (digU l).length ≤ most ∧ c.toNat = u.1)) ∧ pieceU most u l = (0, l, false)) := by
  unfold pieceU
  cases h : resU l with
  | nil => exact .inr ⟨fun c r e => absurd e (by simp), rfl⟩
  | cons c r =>
    by_cases q : digU l ≠ [] ∧ (digU l).length ≤ most ∧ c.toNat = u.1
    · exact .inl ⟨c, r, rfl, q.1, q.2.1, q.2.2, by simp only [if_pos q]⟩
    · refine .inr ⟨fun c' r' e => ?_, by simp only [if_neg q]⟩
      cases e
      exact q
/-- What is summed up sign by sign is what is summed up piece by piece. -/
theorem sum_cons (most : Nat) (l : List UInt8) (u : Nat × Nat) (us : List (Nat × Nat)) (a : Nat) (hn : niceU (u :: us)) (hm : 0 < most) :
    sumU most l (u :: us) a = sumU most (pieceU most u l).2.1 us (a + (pieceU most u l).1) := by
  have hn2 : niceU us := fun v hv => hn v (List.mem_cons_of_mem _ hv)
  rcases piece_eq most u l with ⟨c, r, h1, h2, h3, h4, h5⟩ | ⟨h1, h5⟩
  · rw [h5]
    unfold sumU
    conv => lhs; rw [← dig_res l]
    rw [run_digits most _ _ _ _ _ _ (dig_all l) (by omega), h1, run_cons]
    have hc := res_head l c r h1
    have lz : (digU l).length ≠ 0 := fun e => h2 (List.length_eq_zero_iff.1 e)
    unfold stepU
    rw [if_neg (fun e => by rw [hc] at e; exact absurd e.1 (by decide))]
    unfold findU
    rw [if_pos h4.symm]
    show finU (match (if 0 + (digU l).length = 0 then none else some (a + valU 0 (digU l) * u.2, 0, 0, us) : Option SumT) with | none => none | some s' => runU most r s') = _
    rw [if_neg (by omega)]
  · rw [h5]
    show sumU most l (u :: us) a = sumU most l us (a + 0)
    rw [Nat.add_zero]
    unfold sumU
    rw [← dig_res l]
    by_cases q : (digU l).length ≤ most
    · rw [run_digits most _ _ _ _ _ _ (dig_all l) (by omega), run_digits most _ _ _ _ _ _ (dig_all l) (by omega)]
      cases h : resU l with
      | nil => rfl
      | cons c r =>
        have hc := res_head l c r h
        have hx := h1 c r h
        rw [run_cons, run_cons]
        unfold stepU
        rw [if_neg (fun e => by rw [hc] at e; exact absurd e.1 (by decide)), if_neg (fun e => by rw [hc] at e; exact absurd e.1 (by decide))]
        by_cases z : (digU l) = []
        · have e1 : ∀ vs : List (Nat × Nat), (match findU vs c.toNat with | none => none | some (y, ws) => if 0 + (digU l).length = 0 then none else some (a + valU 0 (digU l) * y, 0, 0, ws) : Option SumT) = none := by
            intro vs
            rw [z]
            cases findU vs c.toNat <;> rfl
          show finU (match (match findU (u :: us) c.toNat with | none => none | some (y, ws) => if 0 + (digU l).length = 0 then none else some (a + valU 0 (digU l) * y, 0, 0, ws) : Option SumT) with | none => none | some s' => runU most r s') = finU (match (match findU us c.toNat with | none => none | some (y, ws) => if 0 + (digU l).length = 0 then none else some (a + valU 0 (digU l) * y, 0, 0, ws) : Option SumT) with | none => none | some s' => runU most r s')
          rw [e1, e1]
        · have e2 : findU (u :: us) c.toNat = findU us c.toNat := by
            conv => lhs; unfold findU
            rw [if_neg (fun e => hx ⟨z, q, e.symm⟩)]
          show finU (match (match findU (u :: us) c.toNat with | none => none | some (y, ws) => if 0 + (digU l).length = 0 then none else some (a + valU 0 (digU l) * y, 0, 0, ws) : Option SumT) with | none => none | some s' => runU most r s') = _
          rw [e2]
    · rw [run_long most _ _ hn _ _ _ _ (dig_all l) (by omega) (by omega), run_long most _ _ hn2 _ _ _ _ (dig_all l) (by omega) (by omega)]
theorem dig_app (ds : List UInt8) (h : ∀ b ∈ ds, isD b.toNat = true) (c : UInt8) (hc : isD c.toNat = false) (r : List UInt8) : digU (ds ++ c :: r) = ds ∧ resU (ds ++ c :: r) = c :: r := by
  induction ds with
  | nil =>
    rw [List.nil_append]
    unfold digU resU
    rw [if_neg (by rw [hc]; decide), if_neg (by rw [hc]; decide)]
    exact ⟨rfl, rfl⟩
  | cons b t ih =>
    obtain ⟨i1, i2⟩ := ih (fun d hd => h d (List.mem_cons_of_mem _ hd))
    rw [List.cons_append]
    unfold digU resU
    rw [if_pos (h b (List.mem_cons_self ..)), if_pos (h b (List.mem_cons_self ..)), i1, i2]
    exact ⟨rfl, rfl⟩
theorem piece_app (most : Nat) (u : Nat × Nat) (hu : isD u.1 = false) (ds : List UInt8) (h : ∀ b ∈ ds, isD b.toNat = true) (h0 : ds ≠ []) (hl : ds.length ≤ most) (c : UInt8) (hc : c.toNat = u.1) (r : List UInt8) : pieceU most u (ds ++ c :: r) = (valU 0 ds * u.2, r, true) := by
  obtain ⟨e1, e2⟩ := dig_app ds h c (by rw [hc]; exact hu) r
  unfold pieceU
  rw [e2, e1]
  show (if ds ≠ [] ∧ ds.length ≤ most ∧ c.toNat = u.1 then (valU 0 ds * u.2, r, true) else _) = _
  rw [if_pos ⟨h0, hl, hc⟩]
/-- What stands ahead of the first such sign, what behind it, and whether there is one. -/
def cut1 (c : UInt8) : List UInt8 → List UInt8 × List UInt8 × Bool
  | [] => ([], [], false)
  | b :: t => if b = c then ([], t, true) else (b :: (cut1 c t).1, (cut1 c t).2.1, (cut1 c t).2.2)
theorem cut1_app (c : UInt8) (r : List UInt8) : ∀ ds : List UInt8, (∀ b ∈ ds, b ≠ c) → cut1 c (ds ++ r) = (ds ++ (cut1 c r).1, (cut1 c r).2.1, (cut1 c r).2.2) := by
  intro ds
  induction ds with
  | nil => intro _; rfl
  | cons b t ih =>
    intro h
    rw [List.cons_append]
    conv => lhs; unfold cut1
    rw [if_neg (h b (List.mem_cons_self ..)), ih (fun d hd => h d (List.mem_cons_of_mem _ hd))]
    rfl
theorem cut1_back (c : UInt8) : ∀ l : List UInt8, l = (cut1 c l).1 ++ (if (cut1 c l).2.2 = true then c :: (cut1 c l).2.1 else []) := by
  intro l
  induction l with
  | nil => rfl
  | cons b t ih =>
    unfold cut1
    by_cases q : b = c
    · rw [if_pos q, q]; rfl
    · rw [if_neg q]
      show b :: t = b :: ((cut1 c t).1 ++ _)
      rw [← ih]
theorem cut1_none (c : UInt8) : ∀ l : List UInt8, (cut1 c l).2.2 = false → (cut1 c l).2.1 = [] := by
  intro l
  induction l with
  | nil => intro _; rfl
  | cons b t ih =>
    unfold cut1
    by_cases q : b = c
    · rw [if_pos q]; intro h; exact Bool.noConfusion h
    · rw [if_neg q]; exact ih
def uD : Nat × Nat := (68, 86400)
def uH : Nat × Nat := (72, 3600)
def uM : Nat × Nat := (77, 60)
def uS : Nat × Nat := (83, 1)
def uY : Nat × Nat := (89, 12)
def uO : Nat × Nat := (77, 1)
def comb : Option Nat → Option Nat → Option Nat
  | some a, some b => some (a + b)
  | _, _ => none
/-- How long a duration is, behind its P, as the program sums it up. -/
def progT (day time : List UInt8) (timed : Bool) : Option Nat :=
  if time = [] ∧ (timed = true ∨ day = []) then none else comb (sumU 12 day [uD] 0) (sumU 12 time [uH, uM, uS] 0)
def progD (l : List UInt8) : Option Nat := progT (cut1 84 l).1 (cut1 84 l).2.1 (cut1 84 l).2.2
/-- .. and as the document says, piece by piece. -/
def timeD (a : Nat) (t : List UInt8) : Option Nat :=
  if (pieceU 12 uS (pieceU 12 uM (pieceU 12 uH t).2.1).2.1).2.1 = [] then some (a + (pieceU 12 uH t).1 + (pieceU 12 uM (pieceU 12 uH t).2.1).1 + (pieceU 12 uS (pieceU 12 uM (pieceU 12 uH t).2.1).2.1).1) else none
def lawD (l : List UInt8) : Option Nat :=
  match (pieceU 12 uD l).2.1 with
  | [] => if (pieceU 12 uD l).2.2 = true then some (pieceU 12 uD l).1 else none
  | c :: t => if c.toNat ≠ 84 ∨ t = [] then none else timeD (pieceU 12 uD l).1 t
def progM (l : List UInt8) : Option Nat := if l = [] then none else sumU 15 l [uY, uO] 0
def lawM (l : List UInt8) : Option Nat :=
  if l = [] then none
  else if (pieceU 15 uO (pieceU 15 uY l).2.1).2.1 = [] then some ((pieceU 15 uY l).1 + (pieceU 15 uO (pieceU 15 uY l).2.1).1) else none
theorem nice_of {us : List (Nat × Nat)} (h : us.all (fun u => !isD u.1) = true) : niceU us := by
  intro u hu
  have := List.all_eq_true.1 h u hu
  simpa using this
theorem months_eq (l : List UInt8) : progM l = lawM l := by
  unfold progM lawM
  by_cases q : l = []
  · rw [if_pos q, if_pos q]
  · rw [if_neg q, if_neg q, sum_cons _ _ _ _ _ (nice_of rfl) (by decide), sum_cons _ _ _ _ _ (nice_of rfl) (by decide), sum_nil, Nat.zero_add]
theorem time_eq (t : List UInt8) (a : Nat) : comb (some a) (sumU 12 t [uH, uM, uS] 0) = timeD a t := by
  unfold timeD
  rw [sum_cons _ _ _ _ _ (nice_of rfl) (by decide), sum_cons _ _ _ _ _ (nice_of rfl) (by decide), sum_cons _ _ _ _ _ (nice_of rfl) (by decide), sum_nil, Nat.zero_add]
  by_cases q : (pieceU 12 uS (pieceU 12 uM (pieceU 12 uH t).2.1).2.1).2.1 = []
  · rw [if_pos q, if_pos q]
    show some _ = some _
    simp only [Nat.add_assoc]
  · rw [if_neg q, if_neg q]
    rfl
theorem progT_no {day : List UInt8} (time : List UInt8) (x : Bool) (h : sumU 12 day [uD] 0 = none) : progT day time x = none := by
  unfold progT
  rw [h]
  exact ite_self _
theorem progT_end (day : List UInt8) : progT day [] true = none := by
  unfold progT
  rw [if_pos ⟨rfl, .inl rfl⟩]
theorem progT_nil (x : Bool) : progT [] [] x = none := by
  unfold progT
  rw [if_pos ⟨rfl, .inr rfl⟩]
theorem progT_time {day time : List UInt8} {a : Nat} (x : Bool) (h : sumU 12 day [uD] 0 = some a) (ht : time ≠ []) : progT day time x = timeD a time := by
  unfold progT
  rw [h, time_eq, if_neg (fun k => ht k.1)]
theorem progT_day {day : List UInt8} {a : Nat} (h : sumU 12 day [uD] 0 = some a) (hd : day ≠ []) : progT day [] false = some a := by
  unfold progT
  rw [h, if_neg (fun k => k.2.elim (fun e => Bool.noConfusion e) hd), sum_empty]
  rfl
theorem lawD_of {l t : List UInt8} {a : Nat} {c : UInt8} {x : Bool} (h : pieceU 12 uD l = (a, c :: t, x)) : lawD l = if c.toNat ≠ 84 ∨ t = [] then none else timeD a t := by
  unfold lawD
  rw [h]
theorem lawD_nil {l : List UInt8} {a : Nat} {x : Bool} (h : pieceU 12 uD l = (a, [], x)) : lawD l = if x = true then some a else none := by
  unfold lawD
  rw [h]
theorem lawD_no {l t : List UInt8} {a : Nat} {c : UInt8} {x : Bool} (h : pieceU 12 uD l = (a, c :: t, x)) (k : c ≠ 84 ∨ t = []) : lawD l = none := by
  rw [lawD_of h, if_pos]
  exact k.elim (fun k => .inl (fun e => k (UInt8.toNat_inj.1 e))) .inr
theorem lawD_yes {l t : List UInt8} {a : Nat} {x : Bool} (h : pieceU 12 uD l = (a, 84 :: t, x)) (k : t ≠ []) : lawD l = timeD a t := by
  rw [lawD_of h, if_neg]
  exact fun e => e.elim (fun e => e rfl) k
theorem cut1_hit (t : List UInt8) : cut1 84 (84 :: t) = ([], t, true) := by
  unfold cut1
  rw [if_pos rfl]
theorem cut1_miss {b : UInt8} (t : List UInt8) (q : b ≠ 84) : cut1 84 (b :: t) = (b :: (cut1 84 t).1, (cut1 84 t).2.1, (cut1 84 t).2.2) := by
  conv => lhs; unfold cut1
  rw [if_neg q]
theorem digit_ne {b : UInt8} (h : isD b.toNat = true) : b ≠ 84 := by
  intro e
  rw [e] at h
  exact absurd h (by decide)
theorem days_eq (l : List UInt8) : progD l = lawD l := by
  rcases piece_eq 12 uD l with ⟨c, r, h1, h2, h3, h4, h5⟩ | ⟨h1, h5⟩
  · have e : l = digU l ++ c :: r := by rw [← h1, dig_res]
    have hD := dig_all l
    generalize digU l = ds at *
    have hc : c ≠ 84 := by intro k; rw [k] at h4; exact absurd h4 (by decide)
    have ec : cut1 84 l = (ds ++ c :: (cut1 84 r).1, (cut1 84 r).2.1, (cut1 84 r).2.2) := by
      conv => lhs; rw [e]
      rw [cut1_app 84 (c :: r) ds (fun b hb => digit_ne (hD b hb)), cut1_miss r hc]
    have es : sumU 12 (ds ++ c :: (cut1 84 r).1) [uD] 0 = if (cut1 84 r).1 = [] then some (valU 0 ds * uD.2) else none := by
      rw [sum_cons _ _ _ _ _ (nice_of rfl) (by decide), piece_app 12 uD rfl ds hD h2 h3 c h4, sum_nil, Nat.zero_add]
    unfold progD
    rw [ec]
    show progT (ds ++ c :: (cut1 84 r).1) (cut1 84 r).2.1 (cut1 84 r).2.2 = _
    cases r with
    | nil =>
      rw [lawD_nil h5]
      exact progT_day (by rw [es]; rfl) (by simp)
    | cons b t =>
      by_cases q : b = 84
      · subst q
        rw [cut1_hit] at es ⊢
        by_cases z : t = []
        · rw [lawD_no h5 (.inr z), z]
          exact progT_end _
        · rw [lawD_yes h5 z]
          exact progT_time _ (by rw [es]; rfl) z
      · rw [lawD_no h5 (.inl q)]
        refine progT_no _ _ ?_
        rw [es, cut1_miss t q, if_neg (by simp)]
  · cases l with
    | nil =>
      rw [lawD_nil h5]
      exact progT_nil _
    | cons b t =>
      unfold progD
      by_cases q : b = 84
      · subst q
        rw [cut1_hit]
        by_cases z : t = []
        · rw [lawD_no h5 (.inr z), z]
          exact progT_nil _
        · rw [lawD_yes h5 z]
          exact progT_time _ (sum_empty _ _ _) z
      · rw [lawD_no h5 (.inl q)]
        refine progT_no _ _ ?_
        have back := cut1_back 84 (b :: t)
        have ne : (cut1 84 (b :: t)).1 ≠ [] := by rw [cut1_miss t q]; simp
        generalize (cut1 84 (b :: t)).1 = x at *
        rw [sum_cons _ _ _ _ _ (nice_of rfl) (by decide), sum_nil]
        rcases piece_eq 12 uD x with ⟨c, r, g1, g2, g3, g4, g5⟩ | ⟨g1, g5⟩
        · exfalso
          have e := dig_res x
          have hA := dig_all x
          rw [g1] at e
          rw [← e, List.append_assoc, List.cons_append] at back
          obtain ⟨k1, k2⟩ := dig_app _ hA c (by rw [g4]; rfl) (r ++ (if (cut1 84 (b :: t)).2.2 = true then 84 :: (cut1 84 (b :: t)).2.1 else []))
          rw [← back] at k1 k2
          exact h1 _ _ k2 ⟨by rw [k1]; exact g2, by rw [k1]; exact g3, g4⟩
        · rw [g5, if_neg ne]
theorem val_lt : ∀ (ds : List UInt8) (n k : Nat), n < 10 ^ k → (∀ b ∈ ds, isD b.toNat = true) → valU n ds < 10 ^ (k + ds.length) := by
  intro ds
  induction ds with
  | nil => intro n k h _; exact h
  | cons b t ih =>
    intro n k h hb
    have h1 := hb b (List.mem_cons_self ..)
    have h2 : 48 ≤ b.toNat ∧ b.toNat ≤ 57 := of_decide_eq_true h1
    have := ih (n * 10 + (b.toNat - 48)) (k + 1) (by rw [Nat.pow_succ]; omega) (fun c hc => hb c (List.mem_cons_of_mem _ hc))
    rw [List.length_cons, show k + (t.length + 1) = k + 1 + t.length by omega]
    exact this
theorem piece_lt (most : Nat) (u : Nat × Nat) (l : List UInt8) : (pieceU most u l).1 ≤ 10 ^ most * u.2 := by
  rcases piece_eq most u l with ⟨c, r, h1, h2, h3, h4, h5⟩ | ⟨h1, h5⟩
  · rw [h5]
    refine Nat.mul_le_mul_right _ (Nat.le_of_lt (Nat.lt_of_lt_of_le (val_lt (digU l) 0 0 (by decide) (dig_all l)) ?_))
    exact Nat.pow_le_pow_right (by decide) (by omega)
  · rw [h5]; exact Nat.zero_le _
end Go.Proofs.YthgondbiddncpaaDoor

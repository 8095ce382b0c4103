/-
  Plain maths of types (layer 13): what conforms to what; that it leads on; joins.
-/
import Derived.Test.YtielmfchbgajnaaJx
namespace Go.Proofs.Ytielmfchbgajnaa

abbrev Ok (t : T) : Prop := mayB t = true
theorem ok_kids {k : Int} {n : Nat} {it : Nat → T} {m : Nat} {nm : Nat → ByteArray} (h : Ok (.mk k n it m nm)) : ∀ i, i < n → Ok (it i) := by
  unfold Ok mayB at h
  rw [Bool.and_eq_true] at h
  exact (allN_iff _ n).1 h.1
theorem ok_ctx {n : Nat} {it : Nat → T} {m : Nat} {nm : Nat → ByteArray} (h : Ok (.mk 11 n it m nm)) : n = m ∧ ∀ i, i < m → ∀ j, j < i → nm i ≠ nm j := by
  unfold Ok mayB at h
  rw [Bool.and_eq_true, if_pos rfl, Bool.and_eq_true, beq_iff_eq] at h
  refine ⟨h.2.2, fun i hi j hj => ?_⟩
  have := (allN_iff _ i).1 ((allN_iff _ m).1 h.2.1 i hi) j hj
  simpa using this
theorem ok_other {k : Int} {n : Nat} {it : Nat → T} {m : Nat} {nm : Nat → ByteArray} (h : Ok (.mk k n it m nm)) (hk : k ≠ 11) : m = 0 ∧ ((simB k = true ∧ n = 0) ∨ ((k = 10 ∨ k = 12) ∧ n = 1) ∨ (k = 13 ∧ 0 < n)) := by
  unfold Ok mayB at h
  rw [Bool.and_eq_true, if_neg hk, Bool.and_eq_true, beq_iff_eq] at h
  refine ⟨h.2.1, ?_⟩
  have h2 := h.2.2
  simp only [Bool.or_eq_true, Bool.and_eq_true, beq_iff_eq, decide_eq_true_eq] at h2
  rcases h2 with (q | q) | q
  · exact .inl q
  · exact .inr (.inl q)
  · exact .inr (.inr q)
theorem ok_mk {k : Int} {n : Nat} {it : Nat → T} {m : Nat} {nm : Nat → ByteArray} (h1 : ∀ i, i < n → Ok (it i)) (h2 : k = 11 → n = m ∧ ∀ i, i < m → ∀ j, j < i → nm i ≠ nm j) (h3 : k ≠ 11 → m = 0 ∧ ((simB k = true ∧ n = 0) ∨ ((k = 10 ∨ k = 12) ∧ n = 1) ∨ (k = 13 ∧ 0 < n))) : Ok (.mk k n it m nm) := by
  unfold Ok mayB
  rw [Bool.and_eq_true]
  refine ⟨(allN_iff _ n).2 h1, ?_⟩
  split
  · rename_i hk
    obtain ⟨a, b⟩ := h2 hk
    rw [Bool.and_eq_true, beq_iff_eq]
    exact ⟨(allN_iff _ m).2 fun i hi => (allN_iff _ i).2 fun j hj => by simp [b i hi j hj], a⟩
  · rename_i hk
    obtain ⟨a, b⟩ := h3 hk
    simp only [Bool.or_eq_true, Bool.and_eq_true, beq_iff_eq, decide_eq_true_eq]
    refine ⟨a, ?_⟩
    rcases b with q | q | q
    · exact .inl (.inl q)
    · exact .inl (.inr q)
    · exact .inr q

/- Counting. -/
theorem sumN_swap (f : Nat → Nat → Nat) (p : Nat) : ∀ q, sumN (fun j => sumN (fun l => f j l) q) p = sumN (fun l => sumN (fun j => f j l) p) q
  | 0 => by
    show sumN (fun _ => 0) p = 0
    induction p with
    | zero => rfl
    | succ p ih => show sumN (fun _ => 0) p + 0 = 0; rw [ih]
  | q + 1 => by
    show sumN (fun j => sumN (fun l => f j l) q + f j q) p = sumN (fun l => sumN (fun j => f j l) p) q + sumN (fun j => f j q) p
    rw [sumN_add (fun j => sumN (fun l => f j l) q) (fun j => f j q) p, sumN_swap f p q]
theorem sumN_eq (f g : Nat → Nat) : ∀ n, (∀ i, i < n → f i = g i) → sumN f n = sumN g n
  | 0, _ => rfl
  | n + 1, h => by
    show sumN f n + f n = sumN g n + g n
    rw [sumN_eq f g n (fun i hi => h i (by omega)), h n (by omega)]
theorem sumN_ones (f : Nat → Nat) (hf : ∀ i, f i ≤ 1) : ∀ n, sumN f n ≤ n ∧ (sumN f n = n ↔ ∀ i, i < n → f i = 1)
  | 0 => ⟨Nat.le_refl _, ⟨fun _ _ h => absurd h (Nat.not_lt_zero _), fun _ => rfl⟩⟩
  | n + 1 => by
    obtain ⟨h1, h2⟩ := sumN_ones f hf n
    have h3 := hf n
    show sumN f n + f n ≤ n + 1 ∧ (sumN f n + f n = n + 1 ↔ _)
    refine ⟨by omega, ?_, ?_⟩
    · intro e i hi
      rcases Nat.lt_or_ge i n with q | q
      · exact h2.1 (by omega) i q
      · obtain rfl : i = n := by omega
        omega
    · intro e
      have := h2.2 (fun i hi => e i (by omega))
      have := e n (by omega)
      omega
/-- Of names that stand once. -/
def Once (nm : Nat → ByteArray) (m : Nat) : Prop := ∀ i, i < m → ∀ j, j < i → nm i ≠ nm j
theorem Once.inj {nm : Nat → ByteArray} {m : Nat} (h : Once nm m) {i j : Nat} (hi : i < m) (hj : j < m) (e : nm i = nm j) : i = j := by
  rcases Nat.lt_trichotomy i j with q | q | q
  · exact absurd e.symm (h j hj i q)
  · exact q
  · exact absurd e (h i hi j q)
theorem count_one (nm : Nat → ByteArray) (s : ByteArray) : ∀ m, Once nm m → sumN (fun l => if s = nm l then 1 else 0) m = if hasN nm s m = true then 1 else 0
  | 0, _ => by
    have : ¬ hasN nm s 0 = true := fun h => by obtain ⟨j, hj, _⟩ := (hasN_iff nm s 0).1 h; omega
    rw [if_neg this]; rfl
  | m + 1, h => by
    have ih := count_one nm s m (fun i hi j hj => h i (by omega) j hj)
    show sumN (fun l => if s = nm l then 1 else 0) m + (if s = nm m then 1 else 0) = _
    rw [ih]
    by_cases e : s = nm m
    · have n1 : ¬ hasN nm s m = true := fun q => by
        obtain ⟨j, hj, hs⟩ := (hasN_iff nm s m).1 q
        exact h m (by omega) j hj (e.symm.trans hs.symm)
      have y1 : hasN nm s (m + 1) = true := (hasN_iff nm s (m + 1)).2 ⟨m, by omega, e.symm⟩
      rw [if_neg n1, if_pos y1, if_pos e]
    · rw [if_neg e, Nat.add_zero]
      have : hasN nm s (m + 1) = true ↔ hasN nm s m = true := by
        rw [hasN_iff, hasN_iff]
        constructor
        · rintro ⟨j, hj, hs⟩
          refine ⟨j, ?_, hs⟩
          rcases Nat.lt_or_ge j m with q | q
          · exact q
          · obtain rfl : j = m := by omega
            exact absurd hs.symm e
        · rintro ⟨j, hj, hs⟩
          exact ⟨j, by omega, hs⟩
      by_cases q : hasN nm s m = true
      · rw [if_pos q, if_pos (this.2 q)]
      · rw [if_neg q, if_neg (fun x => q (this.1 x))]
/-- How many names both have. -/
theorem both_names (na nb : Nat → ByteArray) (ma mb : Nat) (ha : Once na ma) (hb : Once nb mb) : sumN (fun i => if hasN nb (na i) mb = true then 1 else 0) ma = mb ↔ ∀ l, l < mb → ∃ j, j < ma ∧ na j = nb l := by
  have h1 : sumN (fun i => if hasN nb (na i) mb = true then 1 else 0) ma = sumN (fun i => sumN (fun l => if na i = nb l then 1 else 0) mb) ma := sumN_eq _ _ ma (fun i _ => (count_one nb (na i) mb hb).symm)
  have h2 : sumN (fun l => sumN (fun i => if na i = nb l then 1 else 0) ma) mb = sumN (fun l => if hasN na (nb l) ma = true then 1 else 0) mb := sumN_eq _ _ mb (fun l _ => by
    rw [← count_one na (nb l) ma ha]
    exact sumN_eq _ _ ma (fun i _ => by by_cases e : na i = nb l; rw [if_pos e, if_pos e.symm]; rw [if_neg e, if_neg (fun x => e x.symm)]))
  rw [h1, sumN_swap, h2]
  rw [(sumN_ones (fun l => if hasN na (nb l) ma = true then 1 else 0) (fun i => by show (if _ then 1 else 0) ≤ 1; split <;> omega) mb).2]
  constructor
  · intro h l hl
    have := h l hl
    by_cases q : hasN na (nb l) ma = true
    · exact (hasN_iff _ _ _).1 q
    · simp only [if_neg q] at this; omega
  · intro h l hl
    show (if _ then 1 else 0) = 1
    rw [if_pos ((hasN_iff _ _ _).2 (h l hl))]

/- The verdict of two contexts. -/
theorem ctxV_there (rec : Nat → T → V) (nm : Nat → ByteArray) (b : T) (nb : Nat) : ∀ i, (ctxV rec nm b nb i).1 = true ↔ ∀ j, j < i → hasN b.nm (nm j) nb = true → (rec j (b.it (lastN b.nm (nm j) nb))).there = true
  | 0 => ⟨fun _ _ h => absurd h (Nat.not_lt_zero _), fun _ => rfl⟩
  | i + 1 => by
    have ih := ctxV_there rec nm b nb i
    unfold ctxV
    simp only
    constructor
    · intro h j hj hh
      by_cases q : hasN b.nm (nm i) nb = true
      · rw [if_pos q] at h
        simp only [Bool.and_eq_true] at h
        rcases Nat.lt_or_ge j i with r | r
        · exact ih.1 h.1 j r hh
        · obtain rfl : j = i := by omega
          exact h.2
      · rw [if_neg q] at h
        rcases Nat.lt_or_ge j i with r | r
        · exact ih.1 h j r hh
        · obtain rfl : j = i := by omega
          exact absurd hh q
    · intro h
      have h1 := ih.2 (fun j hj hh => h j (by omega) hh)
      by_cases q : hasN b.nm (nm i) nb = true
      · rw [if_pos q]
        simp only [Bool.and_eq_true]
        exact ⟨h1, h i (by omega) q⟩
      · rw [if_neg q]
        exact h1
theorem ctxV_back (rec : Nat → T → V) (nm : Nat → ByteArray) (b : T) (nb : Nat) : ∀ i, (ctxV rec nm b nb i).2.1 = true ↔ ∀ j, j < i → hasN b.nm (nm j) nb = true ∧ (rec j (b.it (lastN b.nm (nm j) nb))).back = true
  | 0 => ⟨fun _ _ h => absurd h (Nat.not_lt_zero _), fun _ => rfl⟩
  | i + 1 => by
    have ih := ctxV_back rec nm b nb i
    unfold ctxV
    simp only
    constructor
    · intro h j hj
      by_cases q : hasN b.nm (nm i) nb = true
      · rw [if_pos q] at h
        simp only [Bool.and_eq_true] at h
        rcases Nat.lt_or_ge j i with r | r
        · exact ih.1 h.1 j r
        · obtain rfl : j = i := by omega
          exact ⟨q, h.2⟩
      · rw [if_neg q] at h
        cases h
    · intro h
      have h1 := ih.2 (fun j hj => h j (by omega))
      have h2 := h i (by omega)
      rw [if_pos h2.1]
      simp only [Bool.and_eq_true]
      exact ⟨h1, h2.2⟩
theorem ctxV_count (rec : Nat → T → V) (nm : Nat → ByteArray) (b : T) (nb : Nat) : ∀ i, (ctxV rec nm b nb i).2.2.length = sumN (fun j => if hasN b.nm (nm j) nb = true then 1 else 0) i
  | 0 => rfl
  | i + 1 => by
    have ih := ctxV_count rec nm b nb i
    unfold ctxV
    simp only
    show _ = sumN (fun j => if hasN b.nm (nm j) nb = true then 1 else 0) i + (if hasN b.nm (nm i) nb = true then 1 else 0)
    by_cases q : hasN b.nm (nm i) nb = true
    · rw [if_pos q, if_pos q, List.length_append, ih]
      rfl
    · rw [if_neg q, if_neg q, Nat.add_zero]
      exact ih
theorem funV_there (rec : Nat → T → V) (b : T) (g : V) : ∀ i, ((funV rec b g i).1 = true ↔ g.there = true ∧ ∀ j, j < i → (rec j (b.it j)).back = true) ∧ ((funV rec b g i).2 = true ↔ g.back = true ∧ ∀ j, j < i → (rec j (b.it j)).there = true)
  | 0 => ⟨⟨fun h => ⟨h, fun _ q => absurd q (Nat.not_lt_zero _)⟩, fun h => h.1⟩, ⟨fun h => ⟨h, fun _ q => absurd q (Nat.not_lt_zero _)⟩, fun h => h.1⟩⟩
  | i + 1 => by
    obtain ⟨h1, h2⟩ := funV_there rec b g i
    have e : ∀ (P : Nat → Prop), (∀ j, j < i + 1 → P j) ↔ (∀ j, j < i → P j) ∧ P i := fun P => ⟨fun h => ⟨fun j hj => h j (by omega), h i (by omega)⟩, fun h j hj => by
      rcases Nat.lt_or_ge j i with r | r
      · exact h.1 j r
      · obtain rfl : j = i := by omega
        exact h.2⟩
    unfold funV
    simp only [Bool.and_eq_true, h1, h2, e, and_assoc]
    exact ⟨trivial, trivial⟩
/-- What there comes to, of types that may be. -/
def Says (a b : T) (P : Nat → Nat → Prop) (R : Nat → Prop) : Prop :=
  a.k = b.k ∧ (a.k = 11 → ∀ l, l < b.m → ∃ j, j < a.m ∧ a.nm j = b.nm l ∧ P j l) ∧ (a.k = 10 ∨ a.k = 12 → P 0 0) ∧ (a.k = 13 → a.n = b.n ∧ P (a.n - 1) (b.n - 1) ∧ ∀ i, i < a.n - 1 → R i)
theorem simB_no : simB 10 = false ∧ simB 11 = false ∧ simB 12 = false ∧ simB 13 = false := ⟨rfl, rfl, rfl, rfl⟩
/-- The verdict, case by case. -/
theorem vd_differ (k : Int) (n : Nat) (it : Nat → T) (m : Nat) (nm : Nat → ByteArray) (b : T) (h : k ≠ b.k) : vd (.mk k n it m nm) b = judgeV (.mk k n it m nm) b (goesB k b.k) (goesB b.k k) (T.of 14) := by
  rw [vd_mk]
  unfold vstep
  rw [if_pos h]
theorem vd_in (k : Int) (it : Nat → T) (m : Nat) (nm : Nat → ByteArray) (it' : Nat → T) (m' : Nat) (nm' : Nat → ByteArray) (h : k = 10 ∨ k = 12) : vd (.mk k 1 it m nm) (.mk k 1 it' m' nm') = judgeV (.mk k 1 it m nm) (.mk k 1 it' m' nm') (vd (it 0) (it' 0)).there (vd (it 0) (it' 0)).back (.mk k 1 (fun _ => (vd (it 0) (it' 0)).join) 0 (fun _ => ByteArray.empty)) := by
  rw [vd_mk]
  unfold vstep
  rw [if_neg (fun x => x rfl), if_pos h]
  rfl
theorem vd_ctx (n : Nat) (it : Nat → T) (nm : Nat → ByteArray) (n' : Nat) (it' : Nat → T) (nm' : Nat → ByteArray) : vd (.mk 11 n it n nm) (.mk 11 n' it' n' nm') = judgeV (.mk 11 n it n nm) (.mk 11 n' it' n' nm') ((ctxV (fun i => vd (it i)) nm (.mk 11 n' it' n' nm') n' n).1 && n' == (ctxV (fun i => vd (it i)) nm (.mk 11 n' it' n' nm') n' n).2.2.length) (ctxV (fun i => vd (it i)) nm (.mk 11 n' it' n' nm') n' n).2.1 (ctxT (ctxV (fun i => vd (it i)) nm (.mk 11 n' it' n' nm') n' n).2.2) := by
  rw [vd_mk]
  unfold vstep
  rw [if_neg (fun x => x rfl), if_neg (by decide), if_pos rfl]
  show judgeV _ _ _ _ _ = _
  rw [Nat.min_self, show min (T.mk 11 n' it' n' nm').m (T.mk 11 n' it' n' nm').n = n' from Nat.min_self n']
theorem vd_fun_no (n : Nat) (it : Nat → T) (m : Nat) (nm : Nat → ByteArray) (n' : Nat) (it' : Nat → T) (m' : Nat) (nm' : Nat → ByteArray) (h : n - 1 ≠ n' - 1) : vd (.mk 13 n it m nm) (.mk 13 n' it' m' nm') = judgeV (.mk 13 n it m nm) (.mk 13 n' it' m' nm') false false (T.of 14) := by
  rw [vd_mk]
  unfold vstep
  rw [if_neg (fun x => x rfl), if_neg (by decide), if_neg (by decide), if_pos rfl, if_pos (show n - 1 ≠ (T.mk 13 n' it' m' nm').n - 1 from h)]
theorem vd_fun (n : Nat) (it : Nat → T) (m : Nat) (nm : Nat → ByteArray) (it' : Nat → T) (m' : Nat) (nm' : Nat → ByteArray) (h : 0 < n) : vd (.mk 13 n it m nm) (.mk 13 n it' m' nm') = judgeV (.mk 13 n it m nm) (.mk 13 n it' m' nm') (funV (fun i => vd (it i)) (.mk 13 n it' m' nm') (vd (it (n - 1)) (it' (n - 1))) (n - 1)).1 (funV (fun i => vd (it i)) (.mk 13 n it' m' nm') (vd (it (n - 1)) (it' (n - 1))) (n - 1)).2 (T.of 14) := by
  have e : (T.mk 13 n it' m' nm').gives = it' (n - 1) := by
    show (if n = 0 then T.zero else it' (n - 1)) = _
    rw [if_neg (by omega)]
  rw [vd_mk]
  unfold vstep
  rw [if_neg (fun x => x rfl), if_neg (by decide), if_neg (by decide), if_pos rfl, if_neg (fun x => x rfl), if_neg (by omega : ¬ n = 0), e]
theorem vd_simple (k : Int) (n : Nat) (it : Nat → T) (m : Nat) (nm : Nat → ByteArray) (b : T) (h : k = b.k) (h0 : k ≠ 10) (h1 : k ≠ 11) (h2 : k ≠ 12) (h3 : k ≠ 13) : vd (.mk k n it m nm) b = ⟨true, true, b⟩ := by
  rw [vd_mk]
  unfold vstep
  rw [if_neg (fun x => x h), if_neg (fun x => x.elim h0 h2), if_neg h1, if_neg h3]
theorem goes_iff (j k : Int) : goesB j k = true ↔ j = 1 ∨ k = 14 := by
  unfold goesB
  rw [Bool.or_eq_true, beq_iff_eq, beq_iff_eq]
theorem chars (a b : T) (ha : Ok a) (hb : Ok b) : ((vd a b).there = true ↔ a.k = 1 ∨ b.k = 14 ∨ Says a b (fun j l => (vd (a.it j) (b.it l)).there = true) (fun i => (vd (a.it i) (b.it i)).back = true)) ∧ ((vd a b).back = true ↔ b.k = 1 ∨ a.k = 14 ∨ Says b a (fun l j => (vd (a.it j) (b.it l)).back = true) (fun i => (vd (a.it i) (b.it i)).there = true)) := by
  cases a with
  | z => cases ha
  | mk k n it m nm =>
  cases b with
  | z => cases hb
  | mk k' n' it' m' nm' =>
  by_cases hk : k = k'
  · subst hk
    by_cases h10 : k = 10 ∨ k = 12
    · have h11 : k ≠ 11 := by omega
      have h1 : k ≠ 1 := by omega
      have h14 : k ≠ 14 := by omega
      have h13 : k ≠ 13 := by omega
      have e1 : n = 1 := by
        rcases (ok_other ha h11).2 with q | q | q
        · rcases h10 with rfl | rfl
          · exact absurd q.1 (by decide)
          · exact absurd q.1 (by decide)
        · exact q.2
        · omega
      have e2 : n' = 1 := by
        rcases (ok_other hb h11).2 with q | q | q
        · rcases h10 with rfl | rfl
          · exact absurd q.1 (by decide)
          · exact absurd q.1 (by decide)
        · exact q.2
        · omega
      subst e1 e2
      rw [vd_in k it m nm it' m' nm' h10]
      constructor
      · show (vd (it 0) (it' 0)).there = true ↔ _
        constructor
        · exact fun h => .inr (.inr ⟨rfl, fun e => absurd e h11, fun _ => h, fun e => absurd e h13⟩)
        · rintro (h | h | h)
          · exact absurd h h1
          · exact absurd h h14
          · exact h.2.2.1 h10
      · show (vd (it 0) (it' 0)).back = true ↔ _
        constructor
        · exact fun h => .inr (.inr ⟨rfl, fun e => absurd e h11, fun _ => h, fun e => absurd e h13⟩)
        · rintro (h | h | h)
          · exact absurd h h1
          · exact absurd h h14
          · exact h.2.2.1 h10
    · by_cases h11 : k = 11
      · subst h11
        obtain ⟨e1, oa⟩ := ok_ctx ha
        obtain ⟨e2, ob⟩ := ok_ctx hb
        subst e1 e2
        rw [vd_ctx n it nm n' it' nm']
        have look : ∀ j l, j < n → l < n' → nm j = nm' l → lastN nm' (nm j) n' = l := fun j l hj hl e => by
          have hh : hasN nm' (nm j) n' = true := (hasN_iff _ _ _).2 ⟨l, hl, e.symm⟩
          obtain ⟨p, q⟩ := lastN_spec nm' (nm j) n' hh
          exact Once.inj ob p hl (q.trans e)
        constructor
        · show ((ctxV (fun i => vd (it i)) nm (.mk 11 n' it' n' nm') n' n).1 && n' == (ctxV (fun i => vd (it i)) nm (.mk 11 n' it' n' nm') n' n).2.2.length) = true ↔ _
          rw [Bool.and_eq_true, beq_iff_eq, ctxV_there, ctxV_count]
          have bn := both_names nm nm' n n' oa ob
          constructor
          · rintro ⟨h1, h2⟩
            refine .inr (.inr ⟨rfl, fun _ l hl => ?_, fun e => (by rcases e with e | e <;> cases e), fun e => (by cases e)⟩)
            obtain ⟨j, hj, e⟩ := bn.1 h2.symm l hl
            have hh : hasN nm' (nm j) n' = true := (hasN_iff _ _ _).2 ⟨l, hl, e.symm⟩
            have := h1 j hj hh
            rw [show lastN (T.mk 11 n' it' n' nm').nm (nm j) n' = l from look j l hj hl e] at this
            exact ⟨j, hj, e, this⟩
          · rintro (h | h | h)
            · cases h
            · cases h
            · have hc := h.2.1 rfl
              refine ⟨fun j hj hh => ?_, (bn.2 fun l hl => ?_).symm⟩
              · obtain ⟨p, q⟩ := lastN_spec nm' (nm j) n' hh
                obtain ⟨j2, hj2, e2, h2⟩ := hc _ p
                obtain rfl : j2 = j := Once.inj oa hj2 hj (e2.trans q)
                exact h2
              · obtain ⟨j, hj, e, -⟩ := hc l hl
                exact ⟨j, hj, e⟩
        · show (ctxV (fun i => vd (it i)) nm (.mk 11 n' it' n' nm') n' n).2.1 = true ↔ _
          rw [ctxV_back]
          constructor
          · intro h1
            refine .inr (.inr ⟨rfl, fun _ j hj => ?_, fun e => (by rcases e with e | e <;> cases e), fun e => (by cases e)⟩)
            obtain ⟨hh, h2⟩ := h1 j hj
            obtain ⟨p, q⟩ := lastN_spec nm' (nm j) n' hh
            exact ⟨_, p, q, h2⟩
          · rintro (h | h | h)
            · cases h
            · cases h
            · have hc := h.2.1 rfl
              intro j hj
              obtain ⟨l, hl, e, h2⟩ := hc j hj
              refine ⟨(hasN_iff _ _ _).2 ⟨l, hl, e⟩, ?_⟩
              rw [show lastN (T.mk 11 n' it' n' nm').nm (nm j) n' = l from look j l hj hl e.symm]
              exact h2
      · by_cases h13 : k = 13
        · subst h13
          have p1 : 0 < n := by
            rcases (ok_other ha h11).2 with q | q | q
            · exact absurd q.1 (by decide)
            · omega
            · exact q.2
          have p2 : 0 < n' := by
            rcases (ok_other hb h11).2 with q | q | q
            · exact absurd q.1 (by decide)
            · omega
            · exact q.2
          by_cases hn : n - 1 = n' - 1
          · obtain rfl : n = n' := by omega
            rw [vd_fun n it m nm it' m' nm' p1]
            obtain ⟨f1, f2⟩ := funV_there (fun i => vd (it i)) (.mk 13 n it' m' nm') (vd (it (n - 1)) (it' (n - 1))) (n - 1)
            constructor
            · refine Iff.trans f1 ?_
              constructor
              · exact fun h => .inr (.inr ⟨rfl, fun e => (by cases e), fun e => (by rcases e with e | e <;> cases e), fun _ => ⟨rfl, h.1, h.2⟩⟩)
              · rintro (h | h | h)
                · cases h
                · cases h
                · exact (h.2.2.2 rfl).2
            · refine Iff.trans f2 ?_
              constructor
              · exact fun h => .inr (.inr ⟨rfl, fun e => (by cases e), fun e => (by rcases e with e | e <;> cases e), fun _ => ⟨rfl, h.1, h.2⟩⟩)
              · rintro (h | h | h)
                · cases h
                · cases h
                · exact (h.2.2.2 rfl).2
          · rw [vd_fun_no n it m nm n' it' m' nm' hn]
            constructor
            · refine ⟨fun h => (by cases h), ?_⟩
              rintro (h | h | h)
              · cases h
              · cases h
              · have e : n = n' := (h.2.2.2 rfl).1
                omega
            · refine ⟨fun h => (by cases h), ?_⟩
              rintro (h | h | h)
              · cases h
              · cases h
              · have e : n' = n := (h.2.2.2 rfl).1
                omega
        · rw [vd_simple k n it m nm (.mk k n' it' m' nm') rfl (fun e => h10 (.inl e)) h11 (fun e => h10 (.inr e)) h13]
          exact ⟨⟨fun _ => .inr (.inr ⟨rfl, fun e => absurd e h11, fun e => absurd e h10, fun e => absurd e h13⟩), fun _ => rfl⟩, ⟨fun _ => .inr (.inr ⟨rfl, fun e => absurd e h11, fun e => absurd e h10, fun e => absurd e h13⟩), fun _ => rfl⟩⟩
  · rw [vd_differ k n it m nm (.mk k' n' it' m' nm') hk]
    constructor
    · show goesB k k' = true ↔ _
      rw [goes_iff]
      exact ⟨fun h => h.elim .inl (fun q => .inr (.inl q)), fun h => h.elim .inl (fun q => q.elim .inr (fun r => absurd r.1 hk))⟩
    · show goesB k' k = true ↔ _
      rw [goes_iff]
      exact ⟨fun h => h.elim .inl (fun q => .inr (.inl q)), fun h => h.elim .inl (fun q => q.elim .inr (fun r => absurd r.1.symm hk))⟩
end Go.Proofs.Ytielmfchbgajnaa

/-
  Plain maths of types (layer 13): to conform leads on; joins are upper bounds, and least without functions.
-/
import Derived.Test.YtielmfchbgajnaaJy
namespace Go.Proofs.Ytielmfchbgajnaa

/-- The first conforms to the second. -/
abbrev C (a b : T) : Prop := (vd a b).there = true
theorem ok_n {a : T} (h : Ok a) : (a.k = 11 → a.n = a.m ∧ Once a.nm a.m) ∧ (a.k = 10 ∨ a.k = 12 → a.n = 1) ∧ (a.k = 13 → 0 < a.n) ∧ (∀ i, i < a.n → Ok (a.it i)) := by
  cases a with
  | z => cases h
  | mk k n it m nm =>
    refine ⟨fun e => ?_, fun e => ?_, fun e => ?_, ok_kids h⟩
    · obtain rfl : k = 11 := e
      exact ok_ctx h
    · have e' : k = 10 ∨ k = 12 := e
      rcases (ok_other h (by omega)).2 with q | q | q
      · rcases e' with rfl | rfl
        · exact absurd q.1 (by decide)
        · exact absurd q.1 (by decide)
      · exact q.2
      · omega
    · obtain rfl : k = 13 := e
      rcases (ok_other h (by decide)).2 with q | q | q
      · exact absurd q.1 (by decide)
      · omega
      · exact q.2
theorem Says.mono {a b : T} {P P' : Nat → Nat → Prop} {R R' : Nat → Prop} (h : Says a b P R) (ha : Ok a) (hb : Ok b) (hP : ∀ j l, j < a.n → l < b.n → P j l → P' j l) (hR : ∀ i, i < a.n → i < b.n → R i → R' i) : Says a b P' R' := by
  obtain ⟨h0, h1, h2, h3⟩ := h
  obtain ⟨a1, a2, a3, -⟩ := ok_n ha
  obtain ⟨b1, b2, b3, -⟩ := ok_n hb
  refine ⟨h0, fun e l hl => ?_, fun e => ?_, fun e => ?_⟩
  · obtain ⟨j, hj, e2, p⟩ := h1 e l hl
    have := (a1 e).1
    have := (b1 (h0.symm.trans e)).1
    exact ⟨j, hj, e2, hP j l (by omega) (by omega) p⟩
  · have := a2 e
    have := b2 (by rw [← h0]; exact e)
    exact hP 0 0 (by omega) (by omega) (h2 e)
  · obtain ⟨e2, p, r⟩ := h3 e
    have := a3 e
    exact ⟨e2, hP _ _ (by omega) (by omega) p, fun i hi => hR i (by omega) (by omega) (r i hi)⟩
theorem sym : ∀ a, Ok a → ∀ b, Ok b → ((vd a b).back = true ↔ C b a) ∧ (C a b ↔ (vd b a).back = true) := by
  intro a
  induction a with
  | z => intro h; cases h
  | mk k n it m nm ih =>
    intro ha b hb
    have ka := ok_kids ha
    have kb := (ok_n hb).2.2.2
    constructor
    · rw [(chars _ b ha hb).2]
      refine Iff.trans ?_ (chars b _ hb ha).1.symm
      constructor
      · rintro (h | h | h)
        · exact .inl h
        · exact .inr (.inl h)
        · exact .inr (.inr (h.mono hb ha (fun l j hl hj p => ((ih j (ka j hj) _ (kb l hl)).1).1 p) (fun i hi hi' p => ((ih i (ka i hi') _ (kb i hi)).2).1 p)))
      · rintro (h | h | h)
        · exact .inl h
        · exact .inr (.inl h)
        · exact .inr (.inr (h.mono hb ha (fun l j hl hj p => ((ih j (ka j hj) _ (kb l hl)).1).2 p) (fun i hi hi' p => ((ih i (ka i hi') _ (kb i hi)).2).2 p)))
    · rw [show C (.mk k n it m nm) b ↔ _ from (chars _ b ha hb).1]
      refine Iff.trans ?_ (chars b _ hb ha).2.symm
      constructor
      · rintro (h | h | h)
        · exact .inl h
        · exact .inr (.inl h)
        · exact .inr (.inr (h.mono ha hb (fun j l hj hl p => ((ih j (ka j hj) _ (kb l hl)).2).1 p) (fun i hi hi' p => ((ih i (ka i hi) _ (kb i hi')).1).1 p)))
      · rintro (h | h | h)
        · exact .inl h
        · exact .inr (.inl h)
        · exact .inr (.inr (h.mono ha hb (fun j l hj hl p => ((ih j (ka j hj) _ (kb l hl)).2).2 p) (fun i hi hi' p => ((ih i (ka i hi) _ (kb i hi')).1).2 p)))
theorem cchar (a b : T) (ha : Ok a) (hb : Ok b) : C a b ↔ a.k = 1 ∨ b.k = 14 ∨ Says a b (fun j l => C (a.it j) (b.it l)) (fun i => C (b.it i) (a.it i)) := by
  have ka := (ok_n ha).2.2.2
  have kb := (ok_n hb).2.2.2
  rw [show C a b ↔ _ from (chars a b ha hb).1]
  constructor
  · rintro (h | h | h)
    · exact .inl h
    · exact .inr (.inl h)
    · exact .inr (.inr (h.mono ha hb (fun _ _ _ _ p => p) (fun i hi hi' p => ((sym _ (ka i hi) _ (kb i hi')).1).1 p)))
  · rintro (h | h | h)
    · exact .inl h
    · exact .inr (.inl h)
    · exact .inr (.inr (h.mono ha hb (fun _ _ _ _ p => p) (fun i hi hi' p => ((sym _ (ka i hi) _ (kb i hi')).1).2 p)))
theorem back_iff (a b : T) (ha : Ok a) (hb : Ok b) : (vd a b).back = true ↔ C b a := (sym a ha b hb).1
theorem crefl : ∀ a, Ok a → C a a := by
  intro a
  induction a with
  | z => intro h; cases h
  | mk k n it m nm ih =>
    intro ha
    have ka := ok_kids ha
    obtain ⟨a1, a2, a3, -⟩ := ok_n ha
    refine (cchar _ _ ha ha).2 (.inr (.inr ⟨rfl, fun e l hl => ⟨l, hl, rfl, ih l (ka l ?_)⟩, fun e => ih 0 (ka 0 ?_), fun e => ⟨rfl, ih _ (ka _ ?_), fun i hi => ih i (ka i ?_)⟩⟩))
    · have h9 : n = m := (a1 e).1
      have hl' : l < m := hl
      omega
    · have h9 : n = 1 := a2 e
      show 0 < n
      omega
    · have : 0 < n := a3 e
      show n - 1 < n
      omega
    · have : 0 < n := a3 e
      have : i < n - 1 := hi
      omega
theorem ctrans : ∀ a, Ok a → ∀ b, Ok b → ∀ c, Ok c → (C a b → C b c → C a c) ∧ (C c b → C b a → C c a) := by
  intro a
  induction a with
  | z => intro h; cases h
  | mk k n it m nm ih =>
    intro ha b hb c hc
    have ka := ok_kids ha
    have kb := (ok_n hb).2.2.2
    have kc := (ok_n hc).2.2.2
    obtain ⟨a1, a2, a3, -⟩ := ok_n ha
    obtain ⟨b1, b2, b3, -⟩ := ok_n hb
    obtain ⟨c1, c2, c3, -⟩ := ok_n hc
    generalize hA : T.mk k n it m nm = A at *
    have ih' : ∀ i, i < A.n → ∀ b, Ok b → ∀ c, Ok c → (C (A.it i) b → C b c → C (A.it i) c) ∧ (C c b → C b (A.it i) → C c (A.it i)) := by
      subst hA
      exact fun i hi => ih i (ka i hi)
    have ka' : ∀ i, i < A.n → Ok (A.it i) := by
      subst hA
      exact ka
    clear ih ka hA
    constructor
    · intro h1 h2
      rcases (cchar _ _ ha hb).1 h1 with q | q | q
      · exact (cchar _ _ ha hc).2 (.inl q)
      · rcases (cchar _ _ hb hc).1 h2 with r | r | r
        · omega
        · exact (cchar _ _ ha hc).2 (.inr (.inl r))
        · exact (cchar _ _ ha hc).2 (.inr (.inl (r.1.symm.trans q)))
      · rcases (cchar _ _ hb hc).1 h2 with r | r | r
        · exact (cchar _ _ ha hc).2 (.inl (q.1.trans r))
        · exact (cchar _ _ ha hc).2 (.inr (.inl r))
        · obtain ⟨q0, q1, q2, q3⟩ := q
          obtain ⟨r0, r1, r2, r3⟩ := r
          refine (cchar _ _ ha hc).2 (.inr (.inr ⟨q0.trans r0, fun e l hl => ?_, fun e => ?_, fun e => ?_⟩))
          · obtain ⟨j, hj, e2, p⟩ := r1 (q0.symm.trans e) l hl
            obtain ⟨i, hi, e3, p2⟩ := q1 e j hj
            have := (a1 e).1
            have := (b1 (q0.symm.trans e)).1
            have := (c1 ((q0.trans r0).symm.trans e)).1
            exact ⟨i, hi, e3.trans e2, (ih' i (by omega) _ (kb j (by omega)) _ (kc l (by omega))).1 p2 p⟩
          · have := a2 e
            have e2 : b.k = 10 ∨ b.k = 12 := by rw [← q0]; exact e
            have := b2 e2
            have := c2 (by rw [← r0]; exact e2)
            exact (ih' 0 (by omega) _ (kb 0 (by omega)) _ (kc 0 (by omega))).1 (q2 e) (r2 e2)
          · have := a3 e
            obtain ⟨n1, p1, s1⟩ := q3 e
            obtain ⟨n2, p2, s2⟩ := r3 (q0.symm.trans e)
            exact ⟨n1.trans n2, (ih' _ (by omega) _ (kb _ (by omega)) _ (kc _ (by omega))).1 p1 p2, fun i hi => (ih' i (by omega) _ (kb i (by omega)) _ (kc i (by omega))).2 (s2 i (by omega)) (s1 i hi)⟩
    · intro h1 h2
      rcases (cchar _ _ hc hb).1 h1 with q | q | q
      · exact (cchar _ _ hc ha).2 (.inl q)
      · rcases (cchar _ _ hb ha).1 h2 with r | r | r
        · omega
        · exact (cchar _ _ hc ha).2 (.inr (.inl r))
        · exact (cchar _ _ hc ha).2 (.inr (.inl (r.1.symm.trans q)))
      · rcases (cchar _ _ hb ha).1 h2 with r | r | r
        · exact (cchar _ _ hc ha).2 (.inl (q.1.trans r))
        · exact (cchar _ _ hc ha).2 (.inr (.inl r))
        · obtain ⟨q0, q1, q2, q3⟩ := q
          obtain ⟨r0, r1, r2, r3⟩ := r
          refine (cchar _ _ hc ha).2 (.inr (.inr ⟨q0.trans r0, fun e l hl => ?_, fun e => ?_, fun e => ?_⟩))
          · obtain ⟨j, hj, e2, p⟩ := r1 (q0.symm.trans e) l hl
            obtain ⟨i, hi, e3, p2⟩ := q1 e j hj
            have := (c1 e).1
            have := (b1 (q0.symm.trans e)).1
            have := (a1 ((q0.trans r0).symm.trans e)).1
            exact ⟨i, hi, e3.trans e2, (ih' l (by omega) _ (kb j (by omega)) _ (kc i (by omega))).2 p2 p⟩
          · have := c2 e
            have e2 : b.k = 10 ∨ b.k = 12 := by rw [← q0]; exact e
            have := b2 e2
            have := a2 (by rw [← r0]; exact e2)
            exact (ih' 0 (by omega) _ (kb 0 (by omega)) _ (kc 0 (by omega))).2 (q2 e) (r2 e2)
          · have := c3 e
            obtain ⟨n1, p1, s1⟩ := q3 e
            obtain ⟨n2, p2, s2⟩ := r3 (q0.symm.trans e)
            exact ⟨n1.trans n2, (ih' _ (by omega) _ (kb _ (by omega)) _ (kc _ (by omega))).2 p1 p2, fun i hi => (ih' i (by omega) _ (kb i (by omega)) _ (kc i (by omega))).1 (s2 i (by omega)) (s1 i hi)⟩
theorem c_trans {a b c : T} (ha : Ok a) (hb : Ok b) (hc : Ok c) (h1 : C a b) (h2 : C b c) : C a c := (ctrans a ha b hb c hc).1 h1 h2

/- Joins. -/
abbrev J (a b : T) : T := (vd a b).join
/-- What stands at a place of a list of names and types. -/
abbrev nthE (L : List (ByteArray × T)) (l : Nat) : ByteArray × T := L.getD l (ByteArray.empty, .z)
theorem nthE_lt (A : List (ByteArray × T)) (x : ByteArray × T) (l : Nat) (h : l < A.length) : nthE (A ++ [x]) l = nthE A l := by
  simp [nthE, List.getD, List.getElem?_append_left h]
theorem nthE_eq (A : List (ByteArray × T)) (x : ByteArray × T) : nthE (A ++ [x]) A.length = x := by
  simp [nthE, List.getD]
section
variable (rec : Nat → T → V) (nm : Nat → ByteArray) (b : T) (nb : Nat)
abbrev Lst (i : Nat) : List (ByteArray × T) := (ctxV rec nm b nb i).2.2
theorem Lst_yes (i : Nat) (h : hasN b.nm (nm i) nb = true) : Lst rec nm b nb (i + 1) = Lst rec nm b nb i ++ [(nm i, (rec i (b.it (lastN b.nm (nm i) nb))).join)] := by
  show (ctxV rec nm b nb (i + 1)).2.2 = _
  unfold ctxV
  simp only [if_pos h]
theorem Lst_no (i : Nat) (h : ¬ hasN b.nm (nm i) nb = true) : Lst rec nm b nb (i + 1) = Lst rec nm b nb i := by
  show (ctxV rec nm b nb (i + 1)).2.2 = _
  rw [ctxV]
  simp only [if_neg h]
theorem ctxL_ok : ∀ i l, l < (Lst rec nm b nb i).length → ∃ j, j < i ∧ hasN b.nm (nm j) nb = true ∧ nthE (Lst rec nm b nb i) l = (nm j, (rec j (b.it (lastN b.nm (nm j) nb))).join)
  | 0, l, h => absurd h (Nat.not_lt_zero _)
  | i + 1, l, h => by
    by_cases q : hasN b.nm (nm i) nb = true
    · rw [Lst_yes rec nm b nb i q] at h ⊢
      rw [List.length_append] at h
      rcases Nat.lt_or_ge l (Lst rec nm b nb i).length with r | r
      · rw [nthE_lt _ _ _ r]
        obtain ⟨j, hj, p⟩ := ctxL_ok i l r
        exact ⟨j, by omega, p⟩
      · obtain rfl : l = (Lst rec nm b nb i).length := by simp at h; omega
        rw [nthE_eq]
        exact ⟨i, by omega, q, rfl⟩
    · rw [Lst_no rec nm b nb i q] at h ⊢
      obtain ⟨j, hj, p⟩ := ctxL_ok i l h
      exact ⟨j, by omega, p⟩
theorem ctxL_all : ∀ i j, j < i → hasN b.nm (nm j) nb = true → ∃ l, l < (Lst rec nm b nb i).length ∧ nthE (Lst rec nm b nb i) l = (nm j, (rec j (b.it (lastN b.nm (nm j) nb))).join)
  | 0, j, h, _ => absurd h (Nat.not_lt_zero _)
  | i + 1, j, h, hj => by
    by_cases q : hasN b.nm (nm i) nb = true
    · rw [Lst_yes rec nm b nb i q, List.length_append]
      rcases Nat.lt_or_ge j i with r | r
      · obtain ⟨l, hl, p⟩ := ctxL_all i j r hj
        exact ⟨l, by omega, by rw [nthE_lt _ _ _ hl]; exact p⟩
      · obtain rfl : j = i := by omega
        exact ⟨(Lst rec nm b nb j).length, by simp, by rw [nthE_eq]⟩
    · rw [Lst_no rec nm b nb i q]
      rcases Nat.lt_or_ge j i with r | r
      · exact ctxL_all i j r hj
      · obtain rfl : j = i := by omega
        exact absurd hj q
theorem ctxL_once (m : Nat) (ho : Once nm m) : ∀ i, i ≤ m → ∀ l, l < (Lst rec nm b nb i).length → ∀ l', l' < l → (nthE (Lst rec nm b nb i) l).1 ≠ (nthE (Lst rec nm b nb i) l').1
  | 0, _, l, h, _, _ => absurd h (Nat.not_lt_zero _)
  | i + 1, hi, l, h, l', h' => by
    by_cases q : hasN b.nm (nm i) nb = true
    · rw [Lst_yes rec nm b nb i q] at h ⊢
      rw [List.length_append] at h
      rcases Nat.lt_or_ge l (Lst rec nm b nb i).length with r | r
      · rw [nthE_lt _ _ _ r, nthE_lt _ _ _ (by omega)]
        exact ctxL_once m ho i (by omega) l r l' h'
      · obtain rfl : l = (Lst rec nm b nb i).length := by simp at h; omega
        rw [nthE_eq, nthE_lt _ _ _ h']
        obtain ⟨j, hj, -, e⟩ := ctxL_ok rec nm b nb i l' h'
        rw [e]
        exact ho i (by omega) j hj
    · rw [Lst_no rec nm b nb i q] at h ⊢
      exact ctxL_once m ho i (by omega) l h l' h'
end
/-- What a join is where neither conforms to the other. -/
def Oth (a b o : T) : Prop := (a.k ≠ b.k ∧ o = T.of 14) ∨ (a.k = b.k ∧ (a.k = 10 ∨ a.k = 12) ∧ o = .mk a.k 1 (fun _ => J (a.it 0) (b.it 0)) 0 (fun _ => ByteArray.empty)) ∨ (a.k = 11 ∧ b.k = 11 ∧ o = ctxT (Lst (fun i => vd (a.it i)) a.nm b b.m a.m)) ∨ (a.k = 13 ∧ b.k = 13 ∧ o = T.of 14)
theorem judge_form (a b : T) (p q : Bool) (o : T) (hp : C a b ↔ p = true) (hq : C b a ↔ q = true) (ho : Oth a b o) : (C a b ∧ (judgeV a b p q o).join = b) ∨ (C b a ∧ (judgeV a b p q o).join = a) ∨ (¬ C a b ∧ ¬ C b a ∧ Oth a b (judgeV a b p q o).join) := by
  cases p with
  | true => exact .inl ⟨hp.2 rfl, rfl⟩
  | false =>
    cases q with
    | true => exact .inr (.inl ⟨hq.2 rfl, rfl⟩)
    | false => exact .inr (.inr ⟨fun h => (by cases hp.1 h), fun h => (by cases hq.1 h), ho⟩)
theorem join_form (a b : T) (ha : Ok a) (hb : Ok b) : (C a b ∧ J a b = b) ∨ (C b a ∧ J a b = a) ∨ (¬ C a b ∧ ¬ C b a ∧ Oth a b (J a b)) := by
  have bk := back_iff a b ha hb
  have main : ∀ o, Oth a b o → vd a b = judgeV a b (vd a b).there (vd a b).back o → (C a b ∧ J a b = b) ∨ (C b a ∧ J a b = a) ∨ (¬ C a b ∧ ¬ C b a ∧ Oth a b (J a b)) := by
    intro o ho e
    have h := judge_form a b _ _ o Iff.rfl bk.symm ho
    rw [← e] at h
    exact h
  cases a with
  | z => cases ha
  | mk k n it m nm =>
  cases b with
  | z => cases hb
  | mk k' n' it' m' nm' =>
  obtain ⟨a1, a2, a3, -⟩ := ok_n ha
  obtain ⟨b1, b2, b3, -⟩ := ok_n hb
  by_cases hk : k = k'
  · subst hk
    by_cases h10 : k = 10 ∨ k = 12
    · obtain rfl : n = 1 := a2 h10
      obtain rfl : n' = 1 := b2 h10
      refine main _ (.inr (.inl ⟨rfl, h10, rfl⟩)) ?_
      rw [vd_in k it m nm it' m' nm' h10]
      rfl
    · by_cases h11 : k = 11
      · subst h11
        obtain rfl : n = m := (a1 rfl).1
        obtain rfl : n' = m' := (b1 rfl).1
        refine main _ (.inr (.inr (.inl ⟨rfl, rfl, rfl⟩))) ?_
        rw [vd_ctx n it nm n' it' nm']
        rfl
      · by_cases h13 : k = 13
        · subst h13
          by_cases hn : n - 1 = n' - 1
          · obtain rfl : n = n' := by
              have : 0 < n := a3 rfl
              have : 0 < n' := b3 rfl
              omega
            refine main _ (.inr (.inr (.inr ⟨rfl, rfl, rfl⟩))) ?_
            rw [vd_fun n it m nm it' m' nm' (a3 rfl)]
            rfl
          · refine main _ (.inr (.inr (.inr ⟨rfl, rfl, rfl⟩))) ?_
            rw [vd_fun_no n it m nm n' it' m' nm' hn]
            rfl
        · have e := vd_simple k n it m nm (.mk k n' it' m' nm') rfl (fun e => h10 (.inl e)) h11 (fun e => h10 (.inr e)) h13
          exact .inl ⟨by show (vd _ _).there = true; rw [e], by show (vd _ _).join = _; rw [e]⟩
  · refine main _ (.inl ⟨hk, rfl⟩) ?_
    rw [vd_differ k n it m nm (.mk k' n' it' m' nm') hk]
    rfl
theorem ok_any : Ok (T.of 14) := by decide
theorem c_any (a : T) (ha : Ok a) : C a (T.of 14) := (cchar _ _ ha ok_any).2 (.inr (.inl rfl))
/-- Both conform to their join, which may be. -/
theorem join_up : ∀ a, Ok a → ∀ b, Ok b → Ok (J a b) ∧ C a (J a b) ∧ C b (J a b) := by
  intro a
  induction a with
  | z => intro h; cases h
  | mk k n it m nm ih =>
    intro ha b hb
    have ka := ok_kids ha
    have kb := (ok_n hb).2.2.2
    obtain ⟨a1, a2, a3, -⟩ := ok_n ha
    obtain ⟨b1, b2, b3, -⟩ := ok_n hb
    rcases join_form _ b ha hb with ⟨h, e⟩ | ⟨h, e⟩ | ⟨-, -, h⟩
    · rw [e]
      exact ⟨hb, h, crefl b hb⟩
    · rw [e]
      exact ⟨ha, crefl _ ha, h⟩
    · rcases h with ⟨-, e⟩ | ⟨e1, e2, e⟩ | ⟨e1, e2, e⟩ | ⟨-, -, e⟩
      · rw [e]
        exact ⟨ok_any, c_any _ ha, c_any _ hb⟩
      · have n1 : n = 1 := a2 e2
        have e3 : b.k = 10 ∨ b.k = 12 := by rw [← e1]; exact e2
        have n2 := b2 e3
        obtain ⟨i1, i2, i3⟩ := ih 0 (ka 0 (by omega)) (b.it 0) (kb 0 (by omega))
        have ko : Ok (.mk k 1 (fun _ => J (it 0) (b.it 0)) 0 (fun _ => ByteArray.empty)) := ok_mk (fun _ _ => i1) (fun x => absurd x (by have e2' : k = 10 ∨ k = 12 := e2; omega)) (fun _ => ⟨rfl, .inr (.inl ⟨e2, rfl⟩)⟩)
        rw [e]
        have k11 : k ≠ 11 := by have e2' : k = 10 ∨ k = 12 := e2; omega
        have k13 : k ≠ 13 := by have e2' : k = 10 ∨ k = 12 := e2; omega
        exact ⟨ko, (cchar _ _ ha ko).2 (.inr (.inr ⟨rfl, fun x => absurd x k11, fun _ => i2, fun x => absurd x k13⟩)), (cchar _ _ hb ko).2 (.inr (.inr ⟨e1.symm, fun x => absurd (e1.trans x) k11, fun _ => i3, fun x => absurd (e1.trans x) k13⟩))⟩
      · obtain rfl : k = 11 := e1
        obtain ⟨n1, o1⟩ := a1 rfl
        obtain ⟨n2, o2⟩ := b1 e2
        obtain rfl : n = m := n1
        have key : ∀ l, l < (Lst (fun i => vd (it i)) nm b b.m n).length → ∃ j p, j < n ∧ p < b.m ∧ nthE (Lst (fun i => vd (it i)) nm b b.m n) l = (nm j, J (it j) (b.it p)) ∧ b.nm p = nm j := fun l hl => by
          obtain ⟨j, hj, hh, e⟩ := ctxL_ok (fun i => vd (it i)) nm b b.m n l hl
          obtain ⟨p1, p2⟩ := lastN_spec b.nm (nm j) b.m hh
          exact ⟨j, _, hj, p1, e, p2⟩
        have ko : Ok (ctxT (Lst (fun i => vd (it i)) nm b b.m n)) := by
          refine ok_mk (fun l hl => ?_) (fun _ => ⟨rfl, ctxL_once _ nm b b.m n o1 n (Nat.le_refl _)⟩) (fun x => absurd rfl x)
          obtain ⟨j, p, hj, hp, e, -⟩ := key l hl
          show Ok (nthE _ l).2
          rw [e]
          exact (ih j (ka j hj) (b.it p) (kb p (by omega))).1
        rw [e]
        refine ⟨ko, (cchar _ _ ha ko).2 (.inr (.inr ⟨rfl, fun _ l hl => ?_, fun x => (by rcases x with x | x <;> cases x), fun x => (by cases x)⟩)), (cchar _ _ hb ko).2 (.inr (.inr ⟨e2, fun _ l hl => ?_, fun x => (by rw [e2] at x; rcases x with x | x <;> cases x), fun x => (by rw [e2] at x; cases x)⟩))⟩
        · obtain ⟨j, p, hj, hp, e, -⟩ := key l hl
          refine ⟨j, hj, ?_, ?_⟩
          · show nm j = (nthE _ l).1
            rw [e]
          · show C (it j) (nthE _ l).2
            rw [e]
            exact (ih j (ka j hj) (b.it p) (kb p (by omega))).2.1
        · obtain ⟨j, p, hj, hp, e, e3⟩ := key l hl
          refine ⟨p, hp, ?_, ?_⟩
          · show b.nm p = (nthE _ l).1
            rw [e, e3]
          · show C (b.it p) (nthE _ l).2
            rw [e]
            exact (ih j (ka j hj) (b.it p) (kb p (by omega))).2.2
      · rw [e]
        exact ⟨ok_any, c_any _ ha, c_any _ hb⟩
/-- .. and it is the least one, without functions. -/
theorem join_least : ∀ a, Ok a → plainB a = true → ∀ b, Ok b → ∀ c, Ok c → C a c → C b c → C (J a b) c := by
  intro a
  induction a with
  | z => intro h; cases h
  | mk k n it m nm ih =>
    intro ha pa b hb c hc h1 h2
    have ka := ok_kids ha
    have kb := (ok_n hb).2.2.2
    have kc := (ok_n hc).2.2.2
    obtain ⟨a1, a2, a3, -⟩ := ok_n ha
    obtain ⟨b1, b2, b3, -⟩ := ok_n hb
    obtain ⟨c1, c2, c3, -⟩ := ok_n hc
    have pk : (∀ i, i < n → plainB (it i) = true) ∧ k ≠ 13 := by
      unfold plainB at pa
      rw [Bool.and_eq_true] at pa
      exact ⟨(allN_iff _ n).1 pa.1, by simpa using pa.2⟩
    rcases join_form _ b ha hb with ⟨h, e⟩ | ⟨h, e⟩ | ⟨x1, x2, h⟩
    · rw [e]; exact h2
    · rw [e]; exact h1
    · have ko := (join_up _ ha b hb).1
      rcases (cchar _ _ ha hc).1 h1 with q | q | q
      · exact absurd ((cchar _ _ ha hb).2 (.inl q)) x1
      · exact (cchar _ _ ko hc).2 (.inr (.inl q))
      rcases (cchar _ _ hb hc).1 h2 with r | r | r
      · exact absurd ((cchar _ _ hb ha).2 (.inl r)) x2
      · exact (cchar _ _ ko hc).2 (.inr (.inl r))
      obtain ⟨q0, q1, q2, q3⟩ := q
      obtain ⟨r0, r1, r2, r3⟩ := r
      rcases h with ⟨y, -⟩ | ⟨e1, e2, e⟩ | ⟨e1, e2, e⟩ | ⟨y, -, -⟩
      · exact absurd (q0.trans r0.symm) y
      · have n1 : n = 1 := a2 e2
        have e3 : b.k = 10 ∨ b.k = 12 := by rw [← e1]; exact e2
        have n2 := b2 e3
        have n3 := c2 (by rw [← r0]; exact e3)
        have i1 := ih 0 (ka 0 (by omega)) (pk.1 0 (by omega)) (b.it 0) (kb 0 (by omega)) (c.it 0) (kc 0 (by omega)) (q2 e2) (r2 e3)
        have k11 : k ≠ 11 := by have e2' : k = 10 ∨ k = 12 := e2; omega
        rw [e] at ko ⊢
        exact (cchar _ _ ko hc).2 (.inr (.inr ⟨q0, fun x => absurd x k11, fun _ => i1, fun x => absurd x pk.2⟩))
      · obtain rfl : k = 11 := e1
        obtain ⟨n1, o1⟩ := a1 rfl
        obtain ⟨n2, o2⟩ := b1 e2
        obtain ⟨n3, o3⟩ := c1 (r0.symm.trans e2)
        obtain rfl : n = m := n1
        rw [e] at ko ⊢
        refine (cchar _ _ ko hc).2 (.inr (.inr ⟨q0, fun _ l hl => ?_, fun x => (by rcases x with x | x <;> cases x), fun x => (by cases x)⟩))
        obtain ⟨j, hj, e3, p3⟩ := q1 rfl l hl
        obtain ⟨p, hp, e4, p4⟩ := r1 e2 l hl
        have hj' : j < n := hj
        have e34 : b.nm p = nm j := e4.trans e3.symm
        have hh : hasN b.nm (nm j) b.m = true := (hasN_iff _ _ _).2 ⟨p, hp, e34⟩
        obtain ⟨l', hl', e5⟩ := ctxL_all (fun i => vd (it i)) nm b b.m n j hj' hh
        obtain ⟨s1, s2⟩ := lastN_spec b.nm (nm j) b.m hh
        have e6 : lastN b.nm (nm j) b.m = p := Once.inj o2 s1 hp (s2.trans e34.symm)
        rw [e6] at e5
        refine ⟨l', hl', ?_, ?_⟩
        · show (nthE (Lst (fun i => vd (it i)) nm b b.m n) l').1 = _
          rw [e5]
          exact e3
        · show C (nthE (Lst (fun i => vd (it i)) nm b b.m n) l').2 (c.it l)
          rw [e5]
          exact ih j (ka j hj') (pk.1 j hj') (b.it p) (kb p (by omega)) (c.it l) (kc l (by omega)) p3 p4
      · exact absurd y pk.2
end Go.Proofs.Ytielmfchbgajnaa

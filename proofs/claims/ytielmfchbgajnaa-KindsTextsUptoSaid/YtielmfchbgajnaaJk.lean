/-
  Types held against one another: hold, whatever the types.
-/
import Derived.Test.YtielmfchbgajnaaJi
namespace Go.Proofs.Ytielmfchbgajnaa
open Go.RowKit

set_option linter.unusedSimpArgs false in
set_option linter.unusedVariables false in
set_option maxRecDepth 100000 in
set_option maxHeartbeats 1000000 in
theorem hold_via11 (t u : T) (v : V) (S : Nat → Prop) (w : World) (a : Option Addr) (n c : Nat) (b : Option Addr) (m d : Nat) (a' : Option Addr) (n' c' : Nat) (b' : Option Addr) (m' d' : Nat) (h : Lies S w (TV 11 a n c b m d) t) (h' : Lies S w (TV 11 a' n' c' b' m' d') u)
    (HC : ∀ (S : Nat → Prop) (w : World), Lies S w (TV 11 a n c b m d) t → Lies S w (TV 11 a' n' c' b' m' d') u → Calls Try.prog 51 #[TV 11 a n c b m d, TV 11 a' n' c' b' m' d'] w (RetV (Sn S w) v w)) :
    Calls Try.prog 34 #[TV 11 a n c b m d, TV 11 a' n' c' b' m' d'] w (RetV (Sn S w) v w) := by
  have H1 := Lib.hid h.sb
  have H2 := Lib.hid h'.sb
  have HH := Lib.hid HC
  clear h h' HC
  go_enter Try.func34, Try.ntmps34
  go_wp2_with (go_at_call 51; (with_reducible refine (HH.out _ _ (H1.out.on ?_) (H2.out.on ?_)).mono ?_); (· (repeat' (first | (with_reducible assumption) | (with_reducible exact Below.refl _ _) | (with_reducible refine Below.drew ?_) | (with_reducible refine ballD1 ?_ _) | (with_reducible refine Below.set1 ?_ _ _ ?_ _) | (show _ ≤ _; (try simp only [World.size_alloc, World.size_drew]); omega)))); (· (repeat' (first | (with_reducible assumption) | (with_reducible exact Below.refl _ _) | (with_reducible refine Below.drew ?_) | (with_reducible refine ballD1 ?_ _) | (with_reducible refine Below.set1 ?_ _ _ ?_ _) | (show _ ≤ _; (try simp only [World.size_alloc, World.size_drew]); omega)))); rintro e w6 ⟨k6, a6, n6, c6, b6, m6, d6, rfl, L6, hb6⟩; have sz6 := hb6.size; (try simp only [World.size_alloc, World.size_drew] at sz6); obtain ⟨hc6, hf6⟩ := bcell (hb6); have z6_0 : w.heap.size + 1 + 1 < w6.heap.size := (by omega))
  have B6 : Below w.heap.size w w6 := (by (repeat' (first | (with_reducible assumption) | (with_reducible exact Below.refl _ _) | (with_reducible refine Below.drew ?_) | (with_reducible refine ballD1 ?_ _) | (with_reducible refine Below.set1 ?_ _ _ ?_ _) | (show _ ≤ _; (try simp only [World.size_alloc, World.size_drew]); omega) | (refine bstep ?_ hb6))))
  refine bodyPost_ret (v := VV v.there v.back k6 a6 n6 c6 b6 m6 d6) (by simp [results, Try.results34, go_sem, *]) rfl ⟨k6, a6, n6, c6, b6, m6, d6, rfl, ?_, ?_⟩
  · refine Lies.out (N := w.heap.size + 1 + 1 + 1) ?_ (by omega)
    apply Lies.grow (w := w) (N := w.heap.size + 1 + 1 + 1)
    · repeat' (first | (with_reducible exact L6) | (with_reducible refine Lies.set ?_ _ _ _ ?_))
      all_goals (apply not_sn <;> (try simp only [World.size_alloc]) <;> omega)
    · (try simp only [World.size_alloc]); omega
  · (repeat' (first | (with_reducible assumption) | (with_reducible exact Below.refl _ _) | (with_reducible refine Below.drew ?_) | (with_reducible refine ballD1 ?_ _) | (with_reducible refine Below.set1 ?_ _ _ ?_ _) | (show _ ≤ _; (try simp only [World.size_alloc, World.size_drew]); omega) | (with_reducible exact B6)))
set_option linter.unusedSimpArgs false in
set_option linter.unusedVariables false in
set_option maxRecDepth 100000 in
set_option maxHeartbeats 1000000 in
theorem hold_via13 (t u : T) (v : V) (S : Nat → Prop) (w : World) (a : Option Addr) (n c : Nat) (b : Option Addr) (m d : Nat) (a' : Option Addr) (n' c' : Nat) (b' : Option Addr) (m' d' : Nat) (h : Lies S w (TV 13 a n c b m d) t) (h' : Lies S w (TV 13 a' n' c' b' m' d') u)
    (HC : ∀ (S : Nat → Prop) (w : World), Lies S w (TV 13 a n c b m d) t → Lies S w (TV 13 a' n' c' b' m' d') u → Calls Try.prog 52 #[TV 13 a n c b m d, TV 13 a' n' c' b' m' d'] w (RetV (Sn S w) v w)) :
    Calls Try.prog 34 #[TV 13 a n c b m d, TV 13 a' n' c' b' m' d'] w (RetV (Sn S w) v w) := by
  have H1 := Lib.hid h.sb
  have H2 := Lib.hid h'.sb
  have HH := Lib.hid HC
  clear h h' HC
  go_enter Try.func34, Try.ntmps34
  go_wp2_with (go_at_call 52; (with_reducible refine (HH.out _ _ (H1.out.on ?_) (H2.out.on ?_)).mono ?_); (· (repeat' (first | (with_reducible assumption) | (with_reducible exact Below.refl _ _) | (with_reducible refine Below.drew ?_) | (with_reducible refine ballD1 ?_ _) | (with_reducible refine Below.set1 ?_ _ _ ?_ _) | (show _ ≤ _; (try simp only [World.size_alloc, World.size_drew]); omega)))); (· (repeat' (first | (with_reducible assumption) | (with_reducible exact Below.refl _ _) | (with_reducible refine Below.drew ?_) | (with_reducible refine ballD1 ?_ _) | (with_reducible refine Below.set1 ?_ _ _ ?_ _) | (show _ ≤ _; (try simp only [World.size_alloc, World.size_drew]); omega)))); rintro e w6 ⟨k6, a6, n6, c6, b6, m6, d6, rfl, L6, hb6⟩; have sz6 := hb6.size; (try simp only [World.size_alloc, World.size_drew] at sz6); obtain ⟨hc6, hf6⟩ := bcell (hb6); have z6_0 : w.heap.size + 1 + 1 < w6.heap.size := (by omega))
  have B6 : Below w.heap.size w w6 := (by (repeat' (first | (with_reducible assumption) | (with_reducible exact Below.refl _ _) | (with_reducible refine Below.drew ?_) | (with_reducible refine ballD1 ?_ _) | (with_reducible refine Below.set1 ?_ _ _ ?_ _) | (show _ ≤ _; (try simp only [World.size_alloc, World.size_drew]); omega) | (refine bstep ?_ hb6))))
  refine bodyPost_ret (v := VV v.there v.back k6 a6 n6 c6 b6 m6 d6) (by simp [results, Try.results34, go_sem, *]) rfl ⟨k6, a6, n6, c6, b6, m6, d6, rfl, ?_, ?_⟩
  · refine Lies.out (N := w.heap.size + 1 + 1 + 1) ?_ (by omega)
    apply Lies.grow (w := w) (N := w.heap.size + 1 + 1 + 1)
    · repeat' (first | (with_reducible exact L6) | (with_reducible refine Lies.set ?_ _ _ _ ?_))
      all_goals (apply not_sn <;> (try simp only [World.size_alloc]) <;> omega)
    · (try simp only [World.size_alloc]); omega
  · (repeat' (first | (with_reducible assumption) | (with_reducible exact Below.refl _ _) | (with_reducible refine Below.drew ?_) | (with_reducible refine ballD1 ?_ _) | (with_reducible refine Below.set1 ?_ _ _ ?_ _) | (show _ ≤ _; (try simp only [World.size_alloc, World.size_drew]); omega) | (with_reducible exact B6)))
theorem simple_zero (t : T) (h : t = T.zero) : HoldsFor t := by
  intro u S w k a n c b m d k' a' n' c' b' m' d' h1 h2
  subst h
  have hk : k = 0 := h1.kk.symm
  subst hk
  rw [vd_zero]
  unfold vz
  rw [h2.kk]
  by_cases e : (0 : Int) ≠ k'
  · rw [if_pos e]
    exact hold_differ T.zero u S w 0 a n c b m d k' a' n' c' b' m' d' h1 h2 e
  · rw [if_neg e]
    obtain rfl : k' = 0 := by omega
    exact hold_same T.zero u S w 0 a n c b m d a' n' c' b' m' d' h1 h2 (by decide) (by decide) (by decide) (by decide)
theorem hold_any : ∀ t, HoldsFor t := by
  intro t
  induction t with
  | z => intro u S w k a n c b m d k' a' n' c' b' m' d' h1 _; cases h1
  | mk k n it m nm ih =>
    intro u S w k1 a n1 c b m1 d k' a' n' c' b' m' d' h1 h2
    have hk : k = k1 := h1.kk
    have hn : n = n1 := h1.nn
    have hm : m = m1 := h1.mm
    subst hk hn hm
    have uk := h2.kk
    have un := h2.nn
    have um := h2.mm
    rw [vd_mk]
    unfold vstep
    rw [uk]
    by_cases e : k ≠ k'
    · rw [if_pos e]
      exact hold_differ _ u S w k a n c b m d k' a' n' c' b' m' d' h1 h2 e
    · rw [if_neg e]
      obtain rfl : k = k' := by omega
      have hwi : HoldsFor (T.mk k n it m nm).within := by
        unfold T.within
        split
        · exact simple_zero _ rfl
        · exact ih 0
      have hgi : HoldsFor (T.mk k n it m nm).gives := by
        unfold T.gives
        split
        · exact simple_zero _ rfl
        · exact ih _
      have ew : (if n = 0 then vz u.within else vd (it 0) u.within) = vd (T.mk k n it m nm).within u.within := by
        unfold T.within
        by_cases z : n = 0
        · rw [if_pos z, if_pos (show (T.mk k n it m nm).n = 0 from z), vd_zero]
        · rw [if_neg z, if_neg (show ¬ (T.mk k n it m nm).n = 0 from z)]; rfl
      have eg : (if n = 0 then vz u.gives else vd (it (n - 1)) u.gives) = vd (T.mk k n it m nm).gives u.gives := by
        unfold T.gives
        by_cases z : n = 0
        · rw [if_pos z, if_pos (show (T.mk k n it m nm).n = 0 from z), vd_zero]
        · rw [if_neg z, if_neg (show ¬ (T.mk k n it m nm).n = 0 from z)]; rfl
      by_cases hl : k = 10 ∨ k = 12
      · rw [if_pos hl]
        simp only [ew]
        rcases hl with rfl | rfl
        · exact hold_list10 _ u hwi S w a n c b m d a' n' c' b' m' d' h1 h2
        · exact hold_list12 _ u hwi S w a n c b m d a' n' c' b' m' d' h1 h2
      · rw [if_neg hl]
        by_cases hc : k = 11
        · rw [if_pos hc, um, un]
          subst hc
          refine hold_via11 _ u _ S w a n c b m d a' n' c' b' m' d' h1 h2 (fun S w l1 l2 => ?_)
          exact hold_ctx (T.mk 11 n it m nm) u (fun i _ => ih i) S w 11 a n c b m d 11 a' n' c' b' m' d' l1 l2
        · rw [if_neg hc]
          by_cases hf : k = 13
          · rw [if_pos hf, un]
            subst hf
            by_cases ht : n - 1 ≠ n' - 1
            · rw [if_pos ht]
              exact hold_via13 _ u _ S w a n c b m d a' n' c' b' m' d' h1 h2 (fun S w l1 l2 => hold_takes _ u S w 13 a n c b m d 13 a' n' c' b' m' d' l1 l2 ht)
            · rw [if_neg ht]
              simp only [eg]
              exact hold_via13 _ u _ S w a n c b m d a' n' c' b' m' d' h1 h2 (fun S w l1 l2 => hold_funs (T.mk 13 n it m nm) u (fun i _ => ih i) hgi S w 13 a n c b m d 13 a' n' c' b' m' d' l1 l2 (by omega))
          · rw [if_neg hf]
            exact hold_same _ u S w k a n c b m d a' n' c' b' m' d' h1 h2 (fun q => hl (.inl q)) hc (fun q => hl (.inr q)) hf
end Go.Proofs.Ytielmfchbgajnaa

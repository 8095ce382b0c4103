/-
  Types copied, made, and held against one another: the exported functions.
-/
import Derived.Test.YtielmfchbgajnaaJl
import Derived.Test.YtielmfchbgajnaaSh2
namespace Go.Proofs.Ytielmfchbgajnaa
open Go.RowKit

theorem ownsRow_names {w : World} {base m : Nat} {v : Value} {nm : Nat → ByteArray} (ho : w.ownsRow base 9 1 v m ((List.range m).map fun i => .string (nm i))) (hv : v ≠ .slice none 0 0) (hs : ∀ i, i < m → Short (nm i)) :
    ∃ g d, v = .slice (some ⟨g, 0, none⟩) m d ∧ (m ≤ d ∧ d ≤ maxLen) ∧ base ≤ g ∧ NamesAt (fun g => base ≤ g) w (some ⟨g, 0, none⟩) m nm := by
  rcases ho.2 with ⟨e, _⟩ | ⟨g, cap, cur, rfl, hb, _, h1, h2, _⟩
  · exact absurd e hv
  · refine ⟨g, cap, rfl, ⟨h1, h2⟩, hb, fun i hi => ⟨g, 0, rfl, hb, ?_, hs i hi⟩⟩
    rw [Nat.zero_add, ho.cellAt i (by omega)]
    simp [hi]
/-- slices.Clone of names. -/
theorem clone_walk (S : Nat → Prop) (w : World) (b : Option Addr) (m d : Nat) (nm : Nat → ByteArray) (h : NamesAt S w b m nm) (hm : m ≤ 8796093021952) (hd : m ≤ d) (hb : b = none → d = 0) :
    Calls Try.prog 54 #[.slice b m d] w fun e w' => ∃ (b' : Option Addr) (d' : Nat), e = .returned (.slice b' m d') ∧ NamesAt (New w) w' b' m nm ∧ (m ≤ d' ∧ d' ≤ maxLen) ∧ (b' = none → d' = 0) ∧ Below w.heap.size w w' := by
  obtain ⟨i9, hi9, hz9, hs9, hb9⟩ := info_parts info9
  rcases b with _ | ad
  · obtain rfl : m = 0 := by have := hb rfl; omega
    refine (Try.slices_Clone_nil 0 d w).mono ?_
    rintro e w' ⟨rfl, rfl⟩
    exact ⟨none, 0, rfl, fun i hi => absurd hi (Nat.not_lt_zero _), ⟨Nat.le_refl _, Nat.zero_le _⟩, fun _ => rfl, Below.refl _ _⟩
  · by_cases h0 : m = 0
    · subst h0
      refine (Try.slices_Clone_string_zero ad d w).mono ?_
      rintro e w' ⟨v', rfl, ho, hv, hB⟩
      obtain ⟨g, d', rfl, hd', hg, N⟩ := ownsRow_names (nm := nm) ho hv (fun i hi => absurd hi (Nat.not_lt_zero _))
      exact ⟨_, d', rfl, N, hd', fun e => (by cases e), hB⟩
    · obtain ⟨g, o, e, -, -, -⟩ := h 0 (by omega)
      injection e with e
      subst e
      refine (Try.slices_Clone i9 _ 1 16 hi9 hz9 hs9 hb9 rfl (by decide) (fun w => by kernel_rfl) g o m d ((List.range m).map fun i => .string (nm i)) w (by simp) (by unfold maxLen; omega) (by omega) (fun j u hu => ?_) (fun u hu => ?_)).mono ?_
      · rw [List.getElem?_map] at hu
        rcases q : (List.range m)[j]? with _ | i
        · rw [q] at hu; cases hu
        · rw [q] at hu
          have hj : j < m := by
            have := (List.getElem?_eq_some_iff.1 q).1
            simpa using this
          rw [List.getElem?_range hj] at q
          injection q with q
          subst q
          injection hu with hu
          subst hu
          obtain ⟨g', o', e', -, hc, -⟩ := h j hj
          injection e' with e'
          injection e' with e1 e2
          subst e1 e2
          exact hc
      · obtain ⟨i, -, rfl⟩ := List.mem_map.1 hu
        rfl
      · rintro e w' ⟨v', rfl, ho, hv, hB⟩
        obtain ⟨g', d', rfl, hd', hg, N⟩ := ownsRow_names (nm := nm) ho hv (fun i hi => by obtain ⟨_, _, _, _, _, s⟩ := h i hi; exact s)
        exact ⟨_, d', rfl, N, hd', fun e => (by cases e), hB⟩
/-- copiedAll, of however many. -/
theorem copiedAll_any (S : Nat → Prop) (w : World) (a : Option Addr) (n c : Nat) (it : Nat → T) (hf : n ≤ 2513169434843) (h : ItemsAt S w a n it) (ih : ∀ i, i < n → CopiesFor (it i)) :
    Calls Try.prog 53 #[.slice a n c] w fun e w' => ∃ (a' : Option Addr) (c' : Nat), e = .returned (.slice a' n c') ∧ ItemsAt (New w) w' a' n it ∧ (n ≤ c' ∧ c' ≤ maxLen) ∧ (a' = none → c' = 0) ∧ Below w.heap.size w w' := by
  by_cases h0 : n = 0
  · subst h0
    refine (copiedAll_none a c w).mono ?_
    rintro e w' ⟨rfl, hb⟩
    exact ⟨none, 0, rfl, fun i hi => absurd hi (Nat.not_lt_zero _), ⟨Nat.le_refl _, Nat.zero_le _⟩, fun _ => rfl, hb⟩
  · refine (copiedAll_some S w a n c it (by omega) hf h ih).mono ?_
    rintro e w' ⟨rfl, hi, hb⟩
    exact ⟨_, n, rfl, hi, ⟨Nat.le_refl _, by unfold maxLen; omega⟩, fun e => (by cases e), hb⟩
set_option linter.unusedSimpArgs false in
set_option linter.unusedVariables false in
set_option maxRecDepth 100000 in
set_option maxHeartbeats 2000000 in
theorem copied_step (t : T) (ih : ∀ i, i < t.n → CopiesFor (t.it i)) : CopiesFor t := by
  intro S w k a n c b m d h
  obtain ⟨F1, F2, F3, I1, Z1, Z2⟩ := h.few
  have HF := Lib.hid (And.intro F1 I1)
  have CA := Lib.hid (fun (W : World) (hb : Below w.heap.size w W) => copiedAll_any S W a n c t.it F1.1 (h.items.on hb) (fun i hi => ih i (by rw [h.nn]; exact hi)))
  have CN := Lib.hid (fun (W : World) (hb : Below w.heap.size w W) => clone_walk S W b m d t.nm (h.names.on hb) F1.2 F3.1 Z2)
  have HT := Lib.hid (show t = .mk k n t.it m t.nm from by cases h; rfl)
  clear h F1 F2 F3 I1 Z1 Z2 ih
  go_enter Try.func35, Try.ntmps35
  go_wp2
  go_region_held3 (fun w' => w'.cell? ⟨w.heap.size, 0, none⟩ = some (.int .i64 k) ∧ w'.cell? ⟨w.heap.size, 1, none⟩ = some (.slice a n c) ∧ w'.cell? ⟨w.heap.size, 2, none⟩ = some (.slice b m d))
    (first | (simp [go_sem]; done) | (repeat' (first | (with_reducible assumption) | (with_reducible refine keep3 ?_ (by with_reducible assumption)) | (with_reducible refine keep3d ?_) | (with_reducible refine keep3n (by with_reducible assumption) _ ?_) | (with_reducible refine keep3a ?_ _) | (with_reducible refine keep3s ?_ ?_ _) | (show _ ≠ _; (try dsimp only); omega) | (show _ < _; (try dsimp only); (try simp only [World.size_alloc, World.size_drew]); omega))))
    (first
      | (go_at_call 53; (with_reducible refine (CA.out _ ?_).mono ?_); (· (repeat' (first | (with_reducible assumption) | (with_reducible exact Below.refl _ _) | (with_reducible refine Below.drew ?_) | (with_reducible refine ballD1 ?_ _) | (with_reducible refine Below.set1 ?_ _ _ ?_ _) | (show _ ≤ _; (try simp only [World.size_alloc, World.size_drew]); omega)))); rintro e w1 ⟨a1, c1, rfl, I1, C1, A1, hb1⟩; have sz1 := hb1.size; (try simp only [World.size_alloc, World.size_drew] at sz1); obtain ⟨hc1, hf1⟩ := bcell (hb1); have z1_0 : w.heap.size < w1.heap.size := (by omega); have z1_1 : w.heap.size + 1 < w1.heap.size := (by omega))
      | (go_at_call 54; (with_reducible refine (CN.out _ ?_).mono ?_); (· (repeat' (first | (with_reducible assumption) | (with_reducible exact Below.refl _ _) | (with_reducible refine Below.drew ?_) | (with_reducible refine ballD1 ?_ _) | (with_reducible refine Below.set1 ?_ _ _ ?_ _) | (show _ ≤ _; (try simp only [World.size_alloc, World.size_drew]); omega) | (refine bstep ?_ hb1)))); rintro e w2 ⟨b2, d2, rfl, N2, D2, B2, hb2⟩; have sz2 := hb2.size; (try simp only [World.size_alloc, World.size_drew] at sz2); obtain ⟨hc2, hf2⟩ := bcell (hb2); have z2_0 : w.heap.size < w2.heap.size := (by omega); have z2_1 : w.heap.size + 1 < w2.heap.size := (by omega)))
  go_wp2
  have BB : Below w.heap.size w w2 := (by (repeat' (first | (with_reducible assumption) | (with_reducible exact Below.refl _ _) | (with_reducible refine Below.drew ?_) | (with_reducible refine ballD1 ?_ _) | (with_reducible refine Below.set1 ?_ _ _ ?_ _) | (show _ ≤ _; (try simp only [World.size_alloc, World.size_drew]); omega) | (refine bstep ?_ hb2) | (refine bstep ?_ hb1))))
  refine bodyPost_ret (v := TV k a1 n c1 b2 m d2) (by simp [results, Try.results35, go_sem, *]) rfl ⟨k, a1, n, c1, b2, m, d2, rfl, ?_, ?_⟩
  · rw [HT.out]
    refine lies_mk HF.out.2 HF.out.1 C1 D2 A1 B2 ?_ ?_
    · have q := ItemsAt.frm (N := w.heap.size + 1 + 1) (ItemsAt.on I1 hb2) (by (try simp only [World.size_alloc, World.size_drew]); omega)
      exact ItemsAt.wide (ItemsAt.set (ItemsAt.set (ItemsAt.set q _ _ _ (not_from (by omega))) _ _ _ (not_from (by omega))) _ _ _ (not_from (by omega))) (fun g _ s => by have s' : w.heap.size + 1 + 1 ≤ g := s; show w.heap.size ≤ g; omega)
    · have q := NamesAt.frm (N := w.heap.size + 1 + 1) N2 (by (try simp only [World.size_alloc, World.size_drew]); omega)
      exact NamesAt.wide (NamesAt.set (NamesAt.set (NamesAt.set q _ _ _ (not_from (by omega))) _ _ _ (not_from (by omega))) _ _ _ (not_from (by omega))) (fun g _ s => by have s' : w.heap.size + 1 + 1 ≤ g := s; show w.heap.size ≤ g; omega)
  · (repeat' (first | (with_reducible assumption) | (with_reducible exact Below.refl _ _) | (with_reducible refine Below.drew ?_) | (with_reducible refine ballD1 ?_ _) | (with_reducible refine Below.set1 ?_ _ _ ?_ _) | (show _ ≤ _; (try simp only [World.size_alloc, World.size_drew]); omega) | (with_reducible exact BB)))
/-- copied comes to the same type, in new memory. -/
theorem copied_any : ∀ t, CopiesFor t := by
  intro t
  induction t with
  | z => intro S w k a n c b m d h; cases h
  | mk k n it m nm ih => exact copied_step _ (fun i _ => ih i)
end Go.Proofs.Ytielmfchbgajnaa

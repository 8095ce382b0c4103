/-
  A region that draws its order and stores into cells that it also loads: loads may be taken first as long as the first of the stores waits for them: what the loads read is asked only while that store has not come up (Run). My own addition to the library's laws on such regions.
-/
import Derived.Test.YtielmfchbgajnaaC0
import Derived.OrdersHeld
import Derived.Deep.RegionHeld
namespace Go.Proofs.Ytielmfchbgajnaa
open Go

section
variable {P : Program} {ops : Array Oper} {Q : Exit → Act → World → Prop} {md : Region.Mode} {S : World → Prop} {g : Nat}

/-- While operation g has not come up S holds. -/
def Yet (S : World → Prop) (g : Nat) (l : Array Bool) (w : World) : Prop := l.getD g true = false → S w
/-- Whatever order is drawn from here on comes to Q; and S holds behind each operation, as long as g has not come up. -/
def Run (P : Program) (md : Region.Mode) (ops : Array Oper) (Q : Exit → Act → World → Prop) (S : World → Prop) (g : Nat) : Nat → Array Bool → Act → World → Prop
  | 0, l, a, w => Region.ready md ops l = [] ∧ Q .normal a w
  | n + 1, l, a, w => (Region.ready md ops l = [] → Q .normal a w) ∧ ∀ i ∈ Region.ready md ops l, wpOp P ops Q i (fun a' w' => Yet S g (l.setIfInBounds i true) w' ∧ Run P md ops Q S g n (l.setIfInBounds i true) a' w') a w
theorem Run.any : ∀ (n : Nat) (l : Array Bool) (a : Act) (w : World), Run P md ops Q S g n l a w → wpAny P md ops Q n l a w
  | 0, _, _, _, h => h
  | n + 1, _, _, _, h => ⟨h.1, fun i hi => wpOp_mono (fun a' w' q => Run.any n _ a' w' q.2) (h.2 i hi)⟩
theorem run_start {id : Nat} {a : Act} {w : World} (hm : P.follows .mixedOrders = true) (h : Run P .any ops Q S g ops.size (Array.replicate ops.size false) a w.drew) : (Code.region id ops true).wp P Q a w :=
  wp_region_any hm (Run.any _ _ _ _ h)
/-- Does operation g wait for operation i? -/
def waits (md : Region.Mode) (ops : Array Oper) (g i : Nat) : Bool :=
  match ops[g]? with
  | some o => o.after.any fun e => Region.binds md e && e.on == i
  | none => false
theorem waits_ready {i : Nat} {l : Array Bool} (hw : waits md ops g i = true) (hg : g ∈ Region.ready md ops l) : l.getD i false = true := by
  obtain ⟨-, o, ho, hall⟩ := mem_ready.1 hg
  unfold waits at hw
  rw [ho] at hw
  obtain ⟨k, hk, e⟩ := Array.any_eq_true.1 hw
  rw [Bool.and_eq_true, beq_iff_eq] at e
  have := hall (o.after[k]) (Array.getElem_mem hk) e.1
  rw [e.2] at this
  exact this
theorem unlisted {i : Nat} {l : Array Bool} (h : l.getD i true = false) : l.getD i false = false := by
  rcases Nat.lt_or_ge i l.size with q | q
  · simp [q] at h ⊢; exact h
  · simp [Array.getElem?_eq_none q] at h
/-- Whatever has come up, what it waits for has come up before. -/
def closedB (md : Region.Mode) (ops : Array Oper) (l : Array Bool) : Bool :=
  (List.range ops.size).all fun j => !l.getD j false || (match ops[j]? with | some o => o.after.all fun e => !Region.binds md e || l.getD e.on false | none => true)
def Closed (md : Region.Mode) (ops : Array Oper) (l : Array Bool) : Prop := ∀ j o, ops[j]? = some o → l.getD j false = true → ∀ e ∈ o.after, Region.binds md e = true → l.getD e.on false = true
theorem closed_of {l : Array Bool} (h : closedB md ops l = true) : Closed md ops l := by
  intro j o ho hj e he hb
  have hlt : j < ops.size := by
    rcases Nat.lt_or_ge j ops.size with q | q
    · exact q
    · rw [Array.getElem?_eq_none q] at ho; cases ho
  have := List.all_eq_true.1 h j (List.mem_range.2 hlt)
  rw [ho, hj] at this
  simp only [Bool.not_true, Bool.false_or] at this
  obtain ⟨k, hk, ek⟩ := Array.mem_iff_getElem.1 he
  have := Array.all_eq_true.1 this k hk
  rw [ek, hb] at this
  simpa using this
theorem Closed.set {i : Nat} {l : Array Bool} (h : Closed md ops l) (hi : i ∈ Region.ready md ops l) : Closed md ops (l.setIfInBounds i true) := by
  intro j o ho hj e he hb
  refine getD_set_true ?_
  by_cases q : j = i
  · subst q
    obtain ⟨-, o', ho', hall⟩ := mem_ready.1 hi
    obtain rfl : o' = o := by rw [ho] at ho'; injection ho' with r; exact r.symm
    exact hall e he hb
  · rw [getD_set_ne false (Ne.symm q)] at hj
    exact h j o ho hj e he hb
/-- Where g has come up, or may come up next, i has come up. -/
def Need (md : Region.Mode) (ops : Array Oper) (i g : Nat) : Prop := ∀ l, Closed md ops l → (l.getD g false = true ∨ g ∈ Region.ready md ops l) → l.getD i false = true
theorem need_one {i : Nat} (hw : waits md ops g i = true) : Need md ops i g := by
  intro l hc h
  rcases h with h | h
  · unfold waits at hw
    rcases ho : ops[g]? with _ | o
    · rw [ho] at hw; cases hw
    · rw [ho] at hw
      obtain ⟨k, hk, e⟩ := Array.any_eq_true.1 hw
      rw [Bool.and_eq_true, beq_iff_eq] at e
      have := hc g o ho h (o.after[k]) (Array.getElem_mem hk) e.1
      rw [e.2] at this
      exact this
  · exact waits_ready hw h
theorem Need.step {i x : Nat} (h : Need md ops i x) (hw : waits md ops g x = true) : Need md ops i g := fun l hc q => h l hc (.inl (need_one hw l hc q))
theorem run_first {i : Nat} {oi : Oper} {v : Value} (hi : ops[i]? = some oi) (hsel : ∀ (j : Nat) (o : Oper) cs b, ops[j]? = some o → o.op ≠ .select cs b) (hw : Need md ops i g)
    (hQ : ∀ c a w, Q (.panic c) (a.put oi.dst v) w → Q (.panic c) a w) :
    ∀ (n : Nat) (l : Array Bool) (a : Act) (w : World),
      (∀ j oj, ops[j]? = some oj → j ≠ i → l.getD j true = false → (∀ e ∈ oj.after, Region.binds md e = true → e.on ≠ i) → oi.apart ops oj = true) →
      Closed md ops l → i ∈ Region.ready md ops l → YieldsIf P ops S oi v a → l.getD g true = false → S w → Run P md ops Q S g n (l.setIfInBounds i true) (a.put oi.dst v) w → Run P md ops Q S g (n + 1) l a w
  | n, l, a, w, hf, hc, hr, hy, hg, hS, H => by
    refine ⟨fun e => (by rw [e] at hr; cases hr), fun j hj => ?_⟩
    by_cases hji : j = i
    · subst hji
      exact hy.wpOp hi hS ⟨fun _ => hS, H⟩
    · have li := (mem_ready.1 hr).1
      have gi : i ≠ g := fun e => by
        have : l.getD i false = true := hw l hc (.inr (e ▸ hr))
        rw [unlisted li] at this
        cases this
      have gj : j ≠ g := fun e => by
        have : l.getD i false = true := hw l hc (.inr (e ▸ hj))
        rw [unlisted li] at this
        cases this
      match n, H with
      | 0, H => exact absurd (ready_mono hj hji) (by rw [H.1]; exact List.not_mem_nil)
      | n + 1, H =>
        obtain ⟨lj, oj, hoj, hall⟩ := mem_ready.1 hj
        have nw : ∀ e ∈ oj.after, Region.binds md e = true → e.on ≠ i := fun e he hb q => by
          have := hall e he hb
          rw [q, unlisted li] at this
          cases this
        have h2 := wpOp_putIf hoj (hf j oj hoj hji lj nw) (fun cs b => hsel i oi cs b hi) (fun cs b => hsel j oj cs b hoj) hQ hy (H.2 j (ready_mono hj hji))
        refine wpOp_mono (fun a' w' q => ?_) h2
        have eg : ((l.setIfInBounds i true).setIfInBounds j true).getD g true = l.getD g true := (getD_set_ne true gj).trans (getD_set_ne true gi)
        have S' : S w' := q.2.1 (eg.trans hg)
        refine ⟨fun _ => S', run_first hi hsel hw hQ n (l.setIfInBounds j true) a' w' (fun k ok hk hki hun hno => ?_) (hc.set hj) (ready_mono hr (Ne.symm hji)) q.1 ((getD_set_ne true gj).trans hg) S' ?_⟩
        · refine hf k ok hk hki ?_ hno
          by_cases e : j = k
          · subst e; exact lj
          · rw [getD_set_ne true e] at hun; exact hun
        · rw [Array.setIfInBounds_comm _ _ hji]
          exact q.2.2
/-- Take operation i first. -/
theorem run_take {i : Nat} {oi : Oper} {v : Value} {n : Nat} {l : Array Bool} {a : Act} {w : World} (hi : ops[i]? = some oi) (hs : Region.noSelect ops = true) (hf : Region.free md ops l i = true) (hr : (Region.ready md ops l).contains i = true) (hw : Need md ops i g) (hc : closedB md ops l = true) (hg : l.getD g true = false)
    (hQ : ∀ c a w, Q (.panic c) (a.put oi.dst v) w → Q (.panic c) a w) (hy : YieldsIf P ops S oi v a) (hS : S w) (h : Run P md ops Q S g n (l.setIfInBounds i true) (a.put oi.dst v) w) : Run P md ops Q S g (n + 1) l a w :=
  run_first hi (Region.noSelect_spec hs) hw hQ n l a w (Region.free_spec hi hf) (closed_of hc) (by simpa using hr) hy hg hS h
/-- Each of these comes up next. -/
def RunAll (P : Program) (md : Region.Mode) (ops : Array Oper) (Q : Exit → Act → World → Prop) (S : World → Prop) (g n : Nat) (l : Array Bool) (a : Act) (w : World) (rs : List Nat) : Prop :=
  ∀ i ∈ rs, wpOp P ops Q i (fun a' w' => Yet S g (l.setIfInBounds i true) w' ∧ Run P md ops Q S g n (l.setIfInBounds i true) a' w') a w
theorem RunAll.nil {n : Nat} {l : Array Bool} {a : Act} {w : World} : RunAll P md ops Q S g n l a w [] := fun _ h => (by cases h)
theorem RunAll.cons {n : Nat} {l : Array Bool} {a : Act} {w : World} {i : Nat} {o : Oper} {rs : List Nat} (ho : ops[i]? = some o)
    (h : ∀ K' : Act → World → Prop, Shut (∀ a' w', Yet S g (l.setIfInBounds i true) w' → Run P md ops Q S g n (l.setIfInBounds i true) a' w' → K' a' w') → if Region.wanted o (yielded ops a.tmps) = true then Oper.wp P o a w K' Q else K' (a.put o.dst undef) w)
    (hs : RunAll P md ops Q S g n l a w rs) : RunAll P md ops Q S g n l a w (i :: rs) := fun j hj => by
  rcases List.mem_cons.1 hj with rfl | hj
  · exact wpOp_step ho (fun K' hK => h K' (fun a w hY hW => hK a w ⟨hY, hW⟩))
  · exact hs j hj
theorem run_ready {rs : List Nat} {n : Nat} {l : Array Bool} {a : Act} {w : World} (hr : Region.ready md ops l = rs) (hne : rs ≠ []) (h : RunAll P md ops Q S g n l a w rs) : Run P md ops Q S g (n + 1) l a w :=
  ⟨fun h0 => absurd (hr ▸ h0) hne, fun i hi => h i (hr ▸ hi)⟩
theorem run_done {l : Array Bool} {a : Act} {w : World} (hr : Region.ready md ops l = []) (h : Q .normal a w) : ∀ n, Run P md ops Q S g n l a w
  | 0 => ⟨hr, h⟩
  | _ + 1 => ⟨fun _ => h, fun i hi => (by rw [hr] at hi; cases hi)⟩
end
end Go.Proofs.Ytielmfchbgajnaa

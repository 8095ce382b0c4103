/-
  Comparisons and products of package wide, each as a contract of its call.
-/
import Derived.Test.YtncpdoeikebomaaDoorB
namespace Go.Proofs.YtncpdoeikebomaaDoor
open Go.RowKit

theorem cmpN_words (ah al bh bl : Nat) (ha : WW ah al) (hb : WW bh bl) (h : ah ≠ bh) : cmpN ah bh = cmpN (nv ah al) (nv bh bl) := by
  obtain ⟨_, _⟩ := ha; obtain ⟨_, _⟩ := hb
  unfold cmpN nv
  split <;> split <;> (try split) <;> (try split) <;> (try rfl) <;> omega
theorem cmpN_low (ah al bl : Nat) : cmpN al bl = cmpN (nv ah al) (nv ah bl) := by
  unfold cmpN nv
  split <;> split <;> (try split) <;> (try split) <;> (try rfl) <;> omega

set_option maxHeartbeats 400000 in
theorem cmp_any (ah al bh bl : Nat) (ha : WW ah al) (hb : WW bh bl) (w : World) :
    Calls Tryd.prog 67 #[U ah al, U bh bl] w (RetI (cmpN (nv ah al) (nv bh bl)) w) := by
  by_cases h : ah = bh
  · subst h
    rw [← cmpN_low ah al bl]
    go_enter Tryd.func67, Tryd.ntmps67
    go_wp2_with fail
    refine (compare_any al bl _).mono ?_
    rintro e w1 ⟨rfl, rfl⟩
    go_wp2
    go_ret
    exact ⟨rfl, by go_grown⟩
  · rw [← cmpN_words ah al bh bl ha hb h]
    go_enter Tryd.func67, Tryd.ntmps67
    go_wp2_with fail
    refine (compare_any ah bh _).mono ?_
    rintro e w1 ⟨rfl, rfl⟩
    go_wp2
    go_ret
    exact ⟨rfl, by go_grown⟩

theorem cmpN_range (a b : Nat) : (cmpN a b = -1 ∧ a < b) ∨ (cmpN a b = 0 ∧ a = b) ∨ (cmpN a b = 1 ∧ b < a) := by
  unfold cmpN
  split
  · left; omega
  · split
    · right; right; omega
    · right; left; omega

theorem nv_lt {h l : Nat} (h1 : WW h l) : nv h l < B128 := by obtain ⟨_, _⟩ := h1; unfold nv B128; omega
theorem nv_inj {h l h' l' : Nat} (a : WW h l) (b : WW h' l') (e : nv h l = nv h' l') : h = h' ∧ l = l' := by
  obtain ⟨_, _⟩ := a; obtain ⟨_, _⟩ := b; unfold nv at e; omega

/-- A number of 256 bits. -/
def nv2 (h l h' l' : Nat) : Nat := nv h l * B128 + nv h' l'

theorem cmp2_hi {ah al bh bl ch cl dh dl : Nat} (hb : WW bh bl) (hd : WW dh dl) (h : nv ah al ≠ nv ch cl) : cmpN (nv ah al) (nv ch cl) = cmpN (nv2 ah al bh bl) (nv2 ch cl dh dl) := by
  have := nv_lt hb; have := nv_lt hd
  unfold cmpN nv2
  generalize nv ah al = x at *
  generalize nv bh bl = y at *
  generalize nv ch cl = z at *
  generalize nv dh dl = t at *
  unfold B128 at *
  split <;> split <;> (try split) <;> (try split) <;> (try rfl) <;> omega
theorem cmp2_lo {ah al bh bl ch cl dh dl : Nat} (h : nv ah al = nv ch cl) : cmpN (nv bh bl) (nv dh dl) = cmpN (nv2 ah al bh bl) (nv2 ch cl dh dl) := by
  unfold cmpN nv2
  rw [h]
  generalize nv ch cl = z at *
  generalize nv bh bl = y at *
  generalize nv dh dl = t at *
  unfold B128 at *
  split <;> split <;> (try split) <;> (try split) <;> (try rfl) <;> omega

set_option maxHeartbeats 400000 in
theorem cmp2_any (ah al bh bl ch cl dh dl : Nat) (ha : WW ah al) (hb : WW bh bl) (hcc : WW ch cl) (hd : WW dh dl) (w : World) :
    Calls Tryd.prog 90 #[U ah al, U bh bl, U ch cl, U dh dl] w (RetI (cmpN (nv2 ah al bh bl) (nv2 ch cl dh dl)) w) := by
  by_cases h : nv ah al = nv ch cl
  · rw [← cmp2_lo h]
    have E : cmpN (nv ah al) (nv ch cl) = 0 := by rw [h, cmpN_eq]
    have C := cmp_any ah al ch cl ha hcc
    rw [E] at C
    clear E h
    go_enter Tryd.func90, Tryd.ntmps90
    go_wp2_with fail
    refine (C _).mono ?_
    clear C
    rintro e w1 ⟨rfl, hb1⟩
    have Hb1 : Below w.heap.size w w1 := bstep (by go_grown) hb1
    obtain ⟨hc, hf⟩ := bcell hb1
    go_wp2_with fail
    refine (cmp_any bh bl dh dl hb hd _).mono ?_
    rintro e w2 ⟨rfl, hb2⟩
    go_wp2
    go_ret
    exact ⟨rfl, bstep Hb1 hb2⟩
  · have E : (cmpN (nv ah al) (nv ch cl) != 0) = true := by
      rcases cmpN_range (nv ah al) (nv ch cl) with ⟨e, _⟩ | ⟨e, e'⟩ | ⟨e, _⟩
      · rw [e]; rfl
      · exact absurd e' h
      · rw [e]; rfl
    rw [← cmp2_hi hb hd h]
    have C := cmp_any ah al ch cl ha hcc
    generalize cmpN (nv ah al) (nv ch cl) = r at *
    clear h
    go_enter Tryd.func90, Tryd.ntmps90
    go_wp2_with fail
    refine (C _).mono ?_
    clear C
    rintro e w1 ⟨rfl, hb1⟩
    have Hb1 : Below w.heap.size w w1 := bstep (by go_grown) hb1
    go_wp2
    go_ret
    exact ⟨rfl, Hb1⟩

set_option maxHeartbeats 400000 in
theorem zero_any (h l : Nat) (w : World) : Calls Tryd.prog 33 #[U h l] w (RetB (decide (nv h l = 0)) w) := by
  by_cases h0 : h = 0
  · subst h0
    by_cases l0 : l = 0
    · subst l0
      rw [show decide (nv 0 0 = 0) = true from by decide]
      go_enter Tryd.func33, Tryd.ntmps33
      go_wp2
      go_ret
      exact ⟨rfl, by go_grown⟩
    · rw [show decide (nv 0 l = 0) = false from by unfold nv; simp; omega]
      have e1 : ((l : Int) == 0) = false := by simp; omega
      go_enter Tryd.func33, Tryd.ntmps33
      go_wp2
      go_ret
      exact ⟨rfl, by go_grown⟩
  · rw [show decide (nv h l = 0) = false from by unfold nv; simp; omega]
    have e1 : ((h : Int) == 0) = false := by simp; omega
    go_enter Tryd.func33, Tryd.ntmps33
    go_wp2
    go_ret
    exact ⟨rfl, by go_grown⟩

def RetU (F : Nat → Nat → Prop) (w : World) (e : Ending) (w' : World) : Prop := ∃ h l : Nat, F h l ∧ e = .returned (U h l) ∧ Below w.heap.size w w'
/-- Of hands back the word itself; the world has one new block. -/
theorem of_any (x : Nat) (w : World) : Calls Tryd.prog 59 #[.int .u64 (x : Int)] w fun e w' => e = .returned (.agg #[.int .u64 0, .int .u64 (x : Int)]) ∧ ∃ c, w' = w.alloc (.cells c 24) := by
  go_enter Tryd.func59, Tryd.ntmps59
  go_wp2
  go_returns
  exact ⟨rfl, _, rfl⟩
end Go.Proofs.YtncpdoeikebomaaDoor

/-
  The law's at (layer 13): what a context's type has by a name.
-/
import Derived.Test.YtielmfchbgajnaaJz
namespace Go.Proofs.Ytielmfchbgajnaa
open Go.RowKit Go.Shelf

/-- A call answers a type and whether there is one. -/
def RetTO (S : Nat → Prop) (t : T) (ok : Bool) (w : World) (e : Ending) (w' : World) : Prop := ∃ (k : Int) (a : Option Addr) (n c : Nat) (b : Option Addr) (m d : Nat), e = .returned (.tuple #[TV k a n c b m d, .bool ok]) ∧ Lies S w' (TV k a n c b m d) t ∧ Below w.heap.size w w'
/-- What the law's at lays first. -/
abbrev atW (w : World) (k : Int) (a : Option Addr) (n c : Nat) (b : Option Addr) (m d : Nat) : World := (w.alloc (.cells #[.int .i64 k, .slice a n c, .slice b m d] 26)).alloc (.cells #[.int .i64 0, .slice none 0 0, .slice none 0 0] 26)
theorem atW_below (w : World) (k : Int) (a : Option Addr) (n c : Nat) (b : Option Addr) (m d : Nat) : Below w.heap.size w (atW w k a n c b m d) := ((Below.refl _ _).alloc (Nat.le_refl _) _).alloc (by simp only [World.size_alloc]; omega) _
set_option linter.unusedSimpArgs false in
set_option linter.unusedVariables false in
set_option maxRecDepth 100000 in
set_option maxHeartbeats 4000000 in
theorem at_yes (S : Nat → Prop) (w : World) (k : Int) (a : Option Addr) (n c : Nat) (b : Option Addr) (m d : Nat) (t : T) (h : Lies S w (TV k a n c b m d) t) (s : ByteArray) (j : Nat) (hj : j < m) (hjn : j < n) (e : t.nm j = s) (hno : ∀ i, i < j → t.nm i ≠ s) :
    Calls Try.prog 19 #[TV k a n c b m d, .string s] w (RetTO S (t.it j) true w) := by
  obtain ⟨FW, hc, hd, hk, -, -⟩ := h.few
  have MB : (m : Int) ≤ 9223372036854775806 := by have := FW.2; omega
  have HC := Lib.hid (And.intro hc hd)
  obtain ⟨g3, o3, rfl, k3, a3, n3, c3, b3, m3, d3, t0, t1, t2, tg, L3⟩ := h.item j hjn
  have BB := Lib.hid (atW_below w k (some ⟨g3, o3, none⟩) n c b m d)
  have L4 := Lib.hid (L3.on BB.out)
  replace t0 := cell_below t0 BB.out
  replace t1 := cell_below t1 BB.out
  replace t2 := cell_below t2 BB.out
  have H3 := Lib.hid L3
  have HN := Lib.hid (fun i (hi : i < m) => h.name i hi)
  have hjj : (0 : Int) ≤ (j : Int) ∧ (j : Int) < (n : Int) := by omega
  have HNO := Lib.hid hno
  have HE := Lib.hid e
  unfold atW at t0 t1 t2
  clear h hc hd hk L3 FW tg hno e
  go_enter Try.func19, Try.ntmps19
  go_wp2
  go_loopg [6] m (fun gg i wr => ∃ (kk : Nat), kk ≤ j ∧ m - kk ≤ gg ∧ i = .int .i64 (kk : Int) ∧ wr = atW w k (some ⟨g3, o3, none⟩) n c b m d)
  case atStart => exact ⟨0, Nat.zero_le _, Nat.le_refl _, rfl, rfl⟩
  case round =>
    obtain ⟨kk, hkk, hg, rfl, rfl⟩ := hrel
    obtain ⟨gN, oN, rfl, nc, ng, -⟩ := HN.out kk (by omega)
    replace nc := cell_below nc BB.out
    unfold atW at nc
    have hlti : (0 : Int) ≤ (kk : Int) ∧ (kk : Int) < (m : Int) := by omega
    by_cases hlt : kk < j
    · have hb := bytes_ne (HNO.out kk hlt)
      generalize t.nm kk = sk at nc hb
      unfold atW
      go_wp2
      go_roundg (m - (kk + 1))
      case measure => omega
      case rel => exact ⟨kk + 1, by omega, Nat.le_refl _, by go_num, rfl⟩
    · obtain rfl : kk = j := by omega
      rw [HE.out] at nc
      unfold atW
      go_wp2
      refine bodyPost_ret (v := .tuple #[TV k3 a3 n3 c3 b3 m3 d3, .bool true]) (by simp [results, Try.results19, go_sem, *]) rfl ⟨k3, a3, n3, c3, b3, m3, d3, rfl, ?_, ?_⟩
      · exact H3.out.on (by (repeat' (first | (with_reducible assumption) | (with_reducible exact Below.refl _ _) | (with_reducible refine Below.drew ?_) | (with_reducible refine ballD1 ?_ _) | (with_reducible refine Below.set1 ?_ _ _ ?_ _) | (show _ ≤ _; (try simp only [World.size_alloc, World.size_drew]); omega))))
      · (repeat' (first | (with_reducible assumption) | (with_reducible exact Below.refl _ _) | (with_reducible refine Below.drew ?_) | (with_reducible refine ballD1 ?_ _) | (with_reducible refine Below.set1 ?_ _ _ ?_ _) | (show _ ≤ _; (try simp only [World.size_alloc, World.size_drew]); omega)))
set_option linter.unusedSimpArgs false in
set_option linter.unusedVariables false in
set_option maxRecDepth 100000 in
set_option maxHeartbeats 4000000 in
theorem at_no (S : Nat → Prop) (w : World) (k : Int) (a : Option Addr) (n c : Nat) (b : Option Addr) (m d : Nat) (t : T) (h : Lies S w (TV k a n c b m d) t) (s : ByteArray) (hno : ∀ i, i < m → t.nm i ≠ s) :
    Calls Try.prog 19 #[TV k a n c b m d, .string s] w (RetTO S T.zero false w) := by
  obtain ⟨FW, hc, hd, hk, -, -⟩ := h.few
  have MB : (m : Int) ≤ 9223372036854775806 := by have := FW.2; omega
  have HC := Lib.hid (And.intro hc hd)
  have BB := Lib.hid (atW_below w k a n c b m d)
  have HN := Lib.hid (fun i (hi : i < m) => h.name i hi)
  have HNO := Lib.hid hno
  clear h hc hd hk FW hno
  go_enter Try.func19, Try.ntmps19
  go_wp2
  go_loopg [6] m (fun gg i wr => ∃ (kk : Nat), kk ≤ m ∧ m - kk ≤ gg ∧ i = .int .i64 (kk : Int) ∧ wr = atW w k a n c b m d)
  case atStart => exact ⟨0, Nat.zero_le _, Nat.le_refl _, rfl, rfl⟩
  case round =>
    obtain ⟨kk, hkk, hg, rfl, rfl⟩ := hrel
    by_cases hlt : kk < m
    · obtain ⟨gN, oN, rfl, nc, ng, -⟩ := HN.out kk hlt
      replace nc := cell_below nc BB.out
      unfold atW at nc
      have hlti : (0 : Int) ≤ (kk : Int) ∧ (kk : Int) < (m : Int) := by omega
      have hb := bytes_ne (HNO.out kk hlt)
      generalize t.nm kk = sk at nc hb
      unfold atW
      go_wp2
      go_roundg (m - (kk + 1))
      case measure => omega
      case rel => exact ⟨kk + 1, by omega, Nat.le_refl _, by go_num, rfl⟩
    · obtain rfl : kk = m := by omega
      unfold atW
      go_wp2
      refine bodyPost_ret (v := .tuple #[TV 0 none 0 0 none 0 0, .bool false]) (by simp [results, Try.results19, go_sem, *]) rfl ⟨0, none, 0, 0, none, 0, 0, rfl, lies_zero, ?_⟩
      (repeat' (first | (with_reducible assumption) | (with_reducible exact Below.refl _ _) | (with_reducible refine Below.drew ?_) | (with_reducible refine ballD1 ?_ _) | (with_reducible refine Below.set1 ?_ _ _ ?_ _) | (show _ ≤ _; (try simp only [World.size_alloc, World.size_drew]); omega)))
end Go.Proofs.Ytielmfchbgajnaa

/-
  A text's digits as the document reads them, as a contract of its call.
-/
import Derived.Test.YtlcpbmjipplcdaaDoorRt
namespace Go.Proofs.YtlcpbmjipplcdaaDoor
open Go.RowKit

/-- A sign's digit. -/
def dgt (b : UInt8) : Nat := b.toNat - 48
theorem foldl_val (l : List UInt8) : ∀ n : Nat, l.foldl (fun n b => n * 10 + (b.toNat - 48)) n = n * 10 ^ l.length + Dg.val (l.map dgt).reverse := by
  induction l with
  | nil => intro n; simp [Dg.val]
  | cons b r ih =>
    intro n
    rw [List.foldl_cons, ih, List.map_cons, List.reverse_cons, Dg.val_append, List.length_reverse, List.length_map, List.length_cons, Nat.pow_succ, Nat.add_mul]
    have e : Dg.val [dgt b] = b.toNat - 48 := by simp [Dg.val, dgt]
    rw [e, Nat.mul_comm (10 ^ r.length) (b.toNat - 48), Nat.mul_assoc, Nat.mul_comm 10]
    omega
theorem dv_val (l : List UInt8) : dv l = Dg.val (l.map dgt).reverse := by
  unfold dv
  rw [foldl_val, Nat.zero_mul, Nat.zero_add]

def RdRel (w : World) (l : List UInt8) (j : Nat) (d k : Value) (W : World) : Prop :=
  k = .int .i64 ((j : Int) - 1) ∧ j ≤ l.length ∧ AllD (l.drop j) ∧ W.ownsRow w.heap.size 3 1 d (l.length - j) (((l.drop j).map dgt).reverse.map fun d : Nat => Value.int .i64 (d : Int)) ∧ Below w.heap.size w W

def RetRd (l : List UInt8) (w : World) (e : Ending) (w' : World) : Prop :=
  ∃ v ok, e = .returned (.tuple #[v, .bool ok]) ∧ Below w.heap.size w w' ∧ (ok = true ∧ (AllD l ∧ l ≠ []) ∧ Row w' v (Dg.dg (dv l)) ∨ ok = false ∧ ¬ (AllD l ∧ l ≠ []))

set_option maxRecDepth 100000 in
set_option maxHeartbeats 4000000 in
theorem rread_any (s : ByteArray) (hs : s.size ≤ 20000) (w : World) : Calls Tryd.prog 22 #[.string s] w (RetRd s.data.toList w) := by
  obtain ⟨i0, hi0, hz0, hz1, hz2⟩ := info_parts int_info
  have hl : s.data.toList.length = s.size := rfl
  have HB0 := Lib.hid (fun i (h : i < s.size) => (show s.data.toList[i]? = some (s[i]'h) from List.getElem?_eq_getElem h))
  go_enter Tryd.func22, Tryd.ntmps22
  go_wp2
  go_loopg [4, 5] s.size (fun j d k W => RdRel w s.data.toList j d k W)
  case atStart =>
    refine ⟨rfl, Nat.le_refl _, ?_, ?_, Below.refl _ _⟩
    · rw [List.drop_eq_nil_of_le (Nat.le_of_eq hl)]; intro b hb; cases hb
    · rw [List.drop_eq_nil_of_le (Nat.le_of_eq hl), hl, Nat.sub_self]
      exact ⟨rfl, .inl ⟨rfl, rfl⟩⟩
  case round =>
    obtain ⟨rfl, r1, ad, own, HB⟩ := hrel
    have base := HB.size
    have AD := Lib.hid ad
    clear ad
    rcases Nat.eq_zero_or_pos gk with g0 | g0
    · subst g0
      have ek : (((0 : Nat) : Int) - 1) = -1 := rfl
      rw [ek]
      rw [List.drop_zero, Nat.sub_zero] at own
      have AD' := AD.out
      rw [List.drop_zero] at AD'
      obtain ⟨D, hD⟩ : ∃ D : List Nat, D = (s.data.toList.map dgt).reverse := ⟨_, rfl⟩
      rw [← hD] at own
      have R : Row wr u4 D := by
        refine row_of (b := w.heap.size) ?_
        rw [hD]
        rw [hD] at own
        simpa using own
      have HR := Lib.hid R
      have dl : ∀ d ∈ D, d < 10 := by
        intro d hd
        rw [hD] at hd
        obtain ⟨b, hb, rfl⟩ := List.mem_map.1 (List.mem_reverse.1 hd)
        have := AD' b hb
        unfold dgt
        omega
      have HDL := Lib.hid dl
      have DLEN : D.length ≤ 20000 := by rw [hD]; simp; omega
      have TV : trim D = Dg.dg (dv s.data.toList) := by unfold trim; rw [hD, ← dv_val]
      have HTV := Lib.hid TV
      have HAD := Lib.hid AD'
      clear ek own R dl TV hD AD'
      by_cases z : 0 < s.size
      · have t0 : decide (0 < (s.size : Int)) = true := by simpa using z
        have NE := Lib.hid (show s.data.toList ≠ [] from fun k => by rw [← hl, k] at z; simp at z)
        go_wp2_with fail
        refine (trim_any _ D (by omega) HDL.out _ HR.out).mono ?_
        rintro e w1 ⟨v1, rfl, R1, hb1⟩
        have HR1 := Lib.hid R1
        clear R1
        go_wp2
        go_ret2
        exact ⟨_, _, rfl, bstep HB hb1, .inl ⟨rfl, ⟨HAD.out, NE.out⟩, by rw [← HTV.out]; exact HR1.out⟩⟩
      · have t0 : decide (0 < (s.size : Int)) = false := decide_eq_false (by omega)
        have NE := Lib.hid (show ¬ (AllD s.data.toList ∧ s.data.toList ≠ []) from fun k => k.2 (List.eq_nil_of_length_eq_zero (by rw [hl]; omega)))
        go_wp2_with fail
        refine (trim_any _ D (by omega) HDL.out _ HR.out).mono ?_
        rintro e w1 ⟨v1, rfl, R1, hb1⟩
        clear R1
        go_wp2
        go_ret2
        exact ⟨_, _, rfl, bstep HB hb1, .inr ⟨rfl, NE.out⟩⟩
    · obtain ⟨i, rfl⟩ : ∃ i, gk = i + 1 := ⟨gk - 1, by omega⟩
      have hi : i < s.size := by omega
      have ek : (((i + 1 : Nat) : Int) - 1) = (i : Int) := by omega
      rw [ek]
      have k0 : (0 : Int) ≤ (i : Int) := by omega
      have k1 : (i : Int) < (s.size : Int) := by omega
      obtain ⟨x, hx⟩ : ∃ x : Nat, (s[i]'hi).toNat = x := ⟨_, rfl⟩
      have dr : s.data.toList.drop i = (s[i]'hi) :: s.data.toList.drop (i + 1) := List.drop_eq_getElem_cons hi
      have mem : (s[i]'hi) ∈ s.data.toList := byte_mem s i hi
      clear ek
      by_cases bad : 48 ≤ x ∧ x ≤ 57
      · obtain ⟨b1, b2⟩ := bad
        have t1 : decide ((x : Int) < 48) = false := by simp; omega
        have t2 : decide (57 < (x : Int)) = false := by simp; omega
        have e1 : IntKind.u8.wrap ((x : Int) - 48) = ((x - 48 : Nat) : Int) := by rw [IntKind.wrap_u8]; omega
        have e0 : (x : Int) - 48 = ((x - 48 : Nat) : Int) := by omega
        obtain ⟨d, hd⟩ : ∃ d : Nat, d = x - 48 := ⟨_, rfl⟩
        rw [← hd] at e1 e0
        have d9 : d ≤ 9 := by omega
        have AL : AllD (s.data.toList.drop i) := by
          rw [dr]
          intro b hb
          rcases List.mem_cons.1 hb with rfl | hb
          · rw [hx]; exact ⟨b1, b2⟩
          · exact AD.out b hb
        have HAL := Lib.hid AL
        have HDR := Lib.hid dr
        have HDX := Lib.hid (show dgt (s[i]'hi) = d by unfold dgt; rw [hx, hd])
        obtain ⟨xs, hxs⟩ : ∃ xs : List Value, xs = ((s.data.toList.drop (i + 1)).map dgt).reverse.map fun d : Nat => Value.int .i64 (d : Int) := ⟨_, rfl⟩
        rw [← hxs] at own
        have HXS := Lib.hid hxs
        rw [hl] at own
        clear dr AL hxs hd b1 b2 mem
        go_wp2_with (at_builtin; refine wpList_append_own _ rfl (.tmp 23) (.tmp 29) _ rfl w.heap.size 3 i0 _ 1 8 Tryd.underlying29 hi0 hz0 hz1 hz2 rfl (by omega) u4 (s.size - (i + 1)) xs rfl (own.alloc _) ⟨wr.heap.size, 0, none⟩ 1 1 [.int .i64 (d : Int)] rfl rfl (cell_one_new _ _ _) (by intro u hu; rw [List.mem_singleton.1 hu]; rfl) (by simp only [maxLen]; omega) (by omega) (by simp; omega) ?_)
        intro v' w' hown hg _
        have OW := Lib.hid hown
        have BB : Below w.heap.size w w' := (HB.alloc base _).grown hg (by simp; omega) (fun k hk => (own.lt k hk).1)
        clear hown hg
        go_wp2
        go_roundg i
        case measure => omega
        case rel =>
          refine ⟨rfl, by omega, HAL.out, ?_, BB⟩
          rw [HDR.out, List.map_cons, List.reverse_cons, List.map_append, HDX.out, hl, show s.size - i = s.size - (i + 1) + 1 by omega]
          have q := OW.out
          rw [HXS.out] at q
          exact q
      · have NE := Lib.hid (show ¬ (AllD s.data.toList ∧ s.data.toList ≠ []) from fun k => bad (by have := k.1 _ mem; rw [hx] at this; exact this))
        clear dr mem
        by_cases lo : x < 48
        · have t1 : decide ((x : Int) < 48) = true := by simp; omega
          clear bad lo
          go_wp2
          go_ret2
          exact ⟨_, _, rfl, HB, .inr ⟨rfl, NE.out⟩⟩
        · have t1 : decide ((x : Int) < 48) = false := by simp; omega
          have t2 : decide (57 < (x : Int)) = true := by simp; omega
          clear bad lo
          go_wp2
          go_ret2
          exact ⟨_, _, rfl, HB, .inr ⟨rfl, NE.out⟩⟩
end Go.Proofs.YtlcpbmjipplcdaaDoor

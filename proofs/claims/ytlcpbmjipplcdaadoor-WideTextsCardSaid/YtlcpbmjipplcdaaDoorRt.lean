/-
  The document's digits as a text, and a text's digits, each as a contract of its call.
-/
import Derived.Test.YtlcpbmjipplcdaaDoorR7
import Derived.Test.YtlcpbmjipplcdaaDoorRe
import Derived.Test.YtlcpbmjipplcdaaDoorTx
namespace Go.Proofs.YtlcpbmjipplcdaaDoor
open Go.RowKit

/-- A digit's sign. -/
def sg (d : Nat) : UInt8 := UInt8.ofNat (48 + d)
theorem sg_toNat {d : Nat} (h : d < 10) : (sg d).toNat = 48 + d := by
  unfold sg
  rw [UInt8.toNat_ofNat']
  exact Nat.mod_eq_of_lt (by omega)
theorem dec_of_dg {n : Nat} (h : n ≠ 0) : Lib.decDigits n = (Dg.dg n).reverse.map sg := by
  induction n using Nat.strongRecOn with
  | _ n ih =>
    rw [Dg.dg_pos h, List.reverse_cons, List.map_append]
    by_cases z : n < 10
    · rw [Lib.decDigits_one z, Nat.div_eq_of_lt z, Dg.dg_zero, Nat.mod_eq_of_lt z]
      rfl
    · rw [Dx.dec_big z, ih (n / 10) (by omega) (by omega)]
      rfl

theorem byte_info : (Tryd.prog.info? 5).map (fun i => (i.zero, i.size, i.bytes)) = some (some (.int .u8 0), 1, 1) := by kernel_rfl

def TxRel (w : World) (a : List Nat) (j : Nat) (o k : Value) (W : World) : Prop :=
  k = .int .i64 ((j : Int) - 1) ∧ j ≤ a.length ∧ W.ownsRow w.heap.size 5 1 o (a.length - j) ((a.drop j).reverse.map fun d : Nat => Value.int .u8 ((48 + d : Nat) : Int)) ∧ Below w.heap.size w W

set_option maxRecDepth 100000 in
set_option maxHeartbeats 4000000 in
theorem rtext_any (v : Value) (m : Nat) (la : (Dg.dg m).length ≤ 20000) (w : World) (h : Row w v (Dg.dg m)) : Calls Tryd.prog 26 #[v] w (RetS (Lib.decDigits m) w) := by
  by_cases m0 : m = 0
  · subst m0
    rw [Dg.dg_zero] at h
    have hd : Lib.decDigits 0 = [48] := by rw [Lib.decDigits_one (by decide)]; rfl
    rw [hd]
    rcases h.form with ⟨rfl, _⟩ | ⟨g, cap, rfl, _⟩
    · clear h
      go_enter Tryd.func26, Tryd.ntmps26
      go_wp2
      go_ret
      exact ⟨rfl, Below.refl _ _⟩
    · clear h
      go_enter Tryd.func26, Tryd.ntmps26
      go_wp2
      go_ret
      exact ⟨rfl, Below.refl _ _⟩
  · obtain ⟨i0, hi0, hz0, hz1, hz2⟩ := info_parts byte_info
    rw [dec_of_dg m0]
    have F := Lib.hid h.form
    obtain ⟨A, ca, rfl⟩ := slice_of h
    have a0 : (Dg.dg m).length ≠ 0 := by rw [Dg.dg_pos m0]; simp
    have DL := Lib.hid (Dg.dg_lt m)
    generalize Dg.dg m = a at *
    clear m m0 h
    obtain ⟨L, hL⟩ : ∃ L : List UInt8, L = a.reverse.map sg := ⟨_, rfl⟩
    rw [← hL]
    have HL := Lib.hid hL
    have LL : L.length = a.length := by rw [hL]; simp
    clear hL
    have t0 : ((a.length : Int) == 0) = false := by rw [beq_eq_false_iff_ne]; omega
    go_enter Tryd.func26, Tryd.ntmps26
    go_wp2
    go_loopg [3, 4] a.length (fun j o k W => TxRel w a j o k W)
    case atStart =>
      refine ⟨rfl, Nat.le_refl _, ?_, Below.refl _ _⟩
      rw [List.drop_length, Nat.sub_self]
      exact ⟨rfl, .inl ⟨rfl, rfl⟩⟩
    case round =>
      obtain ⟨rfl, r1, own, HB⟩ := hrel
      have base := HB.size
      rcases Nat.eq_zero_or_pos gk with g0 | g0
      · subst g0
        rw [List.drop_zero, Nat.sub_zero] at own
        have ek : (((0 : Nat) : Int) - 1) = -1 := rfl
        rw [ek]
        have own' : wr.ownsRow w.heap.size 5 1 u3 a.length (L.map fun b : UInt8 => Value.int .u8 (b.toNat : Int)) := by
          rw [HL.out, List.map_map]
          have e : (a.reverse.map fun d : Nat => Value.int .u8 ((48 + d : Nat) : Int)) = a.reverse.map ((fun b : UInt8 => Value.int .u8 (b.toNat : Int)) ∘ sg) := by
            refine List.map_congr_left fun d hd => ?_
            show _ = Value.int .u8 ((sg d).toNat : Int)
            rw [sg_toNat (DL.out d (List.mem_reverse.1 hd))]
          rw [← e]
          exact own
        have OW := Lib.hid own'
        obtain ⟨g, cap, hg, hl⟩ : ∃ g cap, u3 = .slice (some ⟨g, 0, none⟩) a.length cap ∧ True := by
          rcases own'.2 with ⟨_, h0⟩ | ⟨g, cap, cur, e, _⟩
          · exact absurd h0 a0
          · exact ⟨g, cap, e, trivial⟩
        have hcv : (convert 101 9 (.slice (some ⟨g, 0, none⟩) a.length cap)).run Tryd.prog wr = .ok (.string ⟨L.toArray⟩) wr := by
          have h := run_convert_bytes_back (P := Tryd.prog) wr 101 9 5 ⟨g, 0, none⟩ cap L Tryd.underlying101 Tryd.underlying5 Tryd.underlying9 (fun j hj => by
            have q := OW.out
            rw [hg] at q
            rw [Lib.add_plain, Nat.zero_add, World.ownsRow.cellAt q j (by omega), List.getElem?_map, List.getElem?_eq_getElem hj]
            rfl)
          rw [LL] at h
          exact h
        rw [hg]
        clear ek own own' hg hl
        go_wp2
        go_ret
        exact ⟨rfl, HB⟩
      · obtain ⟨i, rfl⟩ : ∃ i, gk = i + 1 := ⟨gk - 1, by omega⟩
        obtain ⟨g2, c2, p1, p2, p3, p4⟩ : ∃ g c, Value.slice A a.length ca = .slice (some ⟨g, 0, none⟩) a.length c ∧ a.length ≤ c ∧ g < w.heap.size ∧ ∀ k, k < a.length → w.cell? ⟨g, k, none⟩ = some (.int .i64 ((a.getD k 0 : Nat) : Int)) := by
          rcases F.out with ⟨_, e⟩ | ⟨g, c, e, f1, _, f2, f3⟩
          · subst e; simp at r1
          · exact ⟨g, c, e, f1, f2, f3⟩
        have c := (HB.cell (p := ⟨g2, i, none⟩) p3).trans (p4 i (by omega))
        injection p1 with p1 _ p1'
        subst p1 p1'
        have ek : (((i + 1 : Nat) : Int) - 1) = (i : Int) := by omega
        rw [ek]
        have dd : a.drop i = a.getD i 0 :: a.drop (i + 1) := by rw [List.drop_eq_getElem_cons (by omega)]; simp [List.getD, show i < a.length by omega]
        have HDD := Lib.hid dd
        have d9 := Dg.getD_lt DL.out i
        generalize a.getD i 0 = d at *
        have e1 : IntKind.i64.wrap (48 + (d : Int)) = ((48 + d : Nat) : Int) := by rw [IntKind.wrap_i64]; omega
        have e2 : IntKind.u8.wrap ((48 + d : Nat) : Int) = ((48 + d : Nat) : Int) := by rw [IntKind.wrap_u8]; omega
        obtain ⟨x, hx⟩ : ∃ x : Nat, x = 48 + d := ⟨_, rfl⟩
        rw [← hx] at e1 e2
        have k0 : (0 : Int) ≤ (i : Int) := by omega
        have k1 : (i : Int) < (a.length : Int) := by omega
        have k2 : i < a.length := by omega
        have HX := Lib.hid hx
        obtain ⟨xs, hxs⟩ : ∃ xs : List Value, xs = (a.drop (i + 1)).reverse.map fun d : Nat => Value.int .u8 ((48 + d : Nat) : Int) := ⟨_, rfl⟩
        rw [← hxs] at own
        have HXS := Lib.hid hxs
        clear p4 ek dd d9 hx hxs
        go_wp2_with (at_builtin; refine wpList_append_own _ rfl (.tmp 15) (.tmp 22) _ rfl w.heap.size 5 i0 _ 1 1 Tryd.underlying101 hi0 hz0 hz1 hz2 rfl (by omega) u3 (a.length - (i + 1)) xs rfl (own.alloc _) ⟨wr.heap.size, 0, none⟩ 1 1 [.int .u8 (x : Int)] rfl rfl (cell_one_new _ _ _) (by intro u hu; rw [List.mem_singleton.1 hu]; rfl) (by simp only [maxLen]; omega) (by omega) (by simp; omega) ?_)
        intro v' w' hown hg _
        have OW := Lib.hid hown
        have BB : Below w.heap.size w w' := (HB.alloc base _).grown hg (by simp; omega) (fun k hk => (own.lt k hk).1)
        clear hown hg
        go_wp2
        go_roundg i
        case measure => omega
        case rel =>
          refine ⟨rfl, by omega, ?_, BB⟩
          rw [HDD.out, List.reverse_cons, List.map_append, show a.length - i = a.length - (i + 1) + 1 by omega]
          have q := OW.out
          rw [HX.out, HXS.out] at q
          exact q
end Go.Proofs.YtlcpbmjipplcdaaDoor

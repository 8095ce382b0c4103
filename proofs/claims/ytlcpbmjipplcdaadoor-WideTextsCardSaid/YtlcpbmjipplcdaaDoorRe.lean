/-
  Reading a number's text (Read of package wide), as a contract of its call, at every string.
-/
import Derived.Test.YtlcpbmjipplcdaaDoorF
import Derived.Lib.OthersKept
namespace Go.Proofs.YtlcpbmjipplcdaaDoor
open Go.RowKit

/-- The number of some decimal digits, the highest first. -/
def dv (l : List UInt8) : Nat := l.foldl (fun n b => n * 10 + (b.toNat - 48)) 0
def AllD (l : List UInt8) : Prop := ∀ b ∈ l, 48 ≤ b.toNat ∧ b.toNat ≤ 57
theorem dv_snoc (l : List UInt8) (b : UInt8) : dv (l ++ [b]) = dv l * 10 + (b.toNat - 48) := by simp [dv]
theorem dv_ge (n : Nat) (l : List UInt8) : n ≤ l.foldl (fun n b => n * 10 + (b.toNat - 48)) n := by
  induction l generalizing n with
  | nil => exact Nat.le_refl _
  | cons b r ih =>
    have := ih (n * 10 + (b.toNat - 48))
    simp only [List.foldl_cons]
    omega
theorem dv_take (l : List UInt8) (k : Nat) : dv (l.take k) ≤ dv l := by
  conv => rhs; rw [← List.take_append_drop k l]
  unfold dv
  rw [List.foldl_append]
  exact dv_ge _ _
theorem AllD.snoc {l : List UInt8} {b : UInt8} (h : AllD l) (k : 48 ≤ b.toNat ∧ b.toNat ≤ 57) : AllD (l ++ [b]) := by
  intro x hx
  rcases List.mem_append.1 hx with hx | hx
  · exact h x hx
  · rw [List.mem_singleton.1 hx]; exact k

/-- What is read. -/
def ReadF (s : List UInt8) (h l : Nat) (ok : Bool) : Prop := WW h l ∧ (ok = true ∧ (s ≠ [] ∧ AllD s ∧ nv h l = dv s) ∨ ok = false ∧ (h = 0 ∧ l = 0) ∧ ¬ (s ≠ [] ∧ AllD s ∧ dv s < B128))

theorem readF_no {s : List UInt8} (h : ¬ (s ≠ [] ∧ AllD s ∧ dv s < B128)) : ReadF s 0 0 false := ⟨⟨by decide, by decide⟩, .inr ⟨rfl, ⟨rfl, rfl⟩, h⟩⟩

theorem Holds2.iter {W : World} {g h l : Nat} (H : Holds2 W g h l) {k : Nat} (hk : g ≠ k) (s : ByteArray) (pos : Nat) : Holds2 (W.iterAt k s pos) g h l := by
  obtain ⟨a, b, c, d, e⟩ := H
  have q := Lib.iterAt_other W k g s pos hk
  exact ⟨(World.cell?_of_block (a := ⟨g, 0, none⟩) q).trans a, (World.cell?_of_block (a := ⟨g, 1, none⟩) q).trans b, (World.frozen?_of_block (a := ⟨g, 0, none⟩) q).trans c, (World.frozen?_of_block (a := ⟨g, 1, none⟩) q).trans d, by rw [Lib.iterAt_size]; exact e⟩

def ReadRel (w : World) (s : ByteArray) (k : Nat) (W : World) : Prop :=
  ∃ pos h l : Nat, W.heap[w.heap.size + 1 + 1]? = some (.stringIter s pos) ∧ pos + k = s.size ∧ WW h l ∧ nv h l = dv (s.data.toList.take pos) ∧ AllD (s.data.toList.take pos) ∧ Holds2 W w.heap.size 0 0 ∧ Holds2 W (w.heap.size + 1) h l ∧ Below w.heap.size w W

theorem byte_at (s : ByteArray) (pos : Nat) (h : pos < s.size) : s.data.toList.take (pos + 1) = s.data.toList.take pos ++ [s[pos]'h] := by
  have h' : pos < s.data.toList.length := h
  rw [List.take_succ_eq_append_getElem h']
  rfl
theorem byte_mem (s : ByteArray) (pos : Nat) (h : pos < s.size) : s[pos]'h ∈ s.data.toList := by
  have h' : pos < s.data.toList.length := h
  exact List.getElem_mem h'

theorem bundrew' {W w1 : World} (h : Below W.drew.heap.size W.drew w1) : Below W.heap.size W w1 := ⟨h.os, h.tape, h.output, h.size, h.block⟩
theorem nnA {a b : Nat} (h : a + 1 + 1 ≤ b) : a < b ∧ a + 1 < b ∧ a < b + 1 ∧ a + 1 < b + 1 := by omega
theorem nnB {a b : Nat} (h : a + 1 ≤ b) : a < b ∧ True ∧ a < b + 1 ∧ True := ⟨by omega, trivial, by omega, trivial⟩
theorem keepP {V W : World} {g : Nat} {x y : Value} (h : V.cell? ⟨g, 0, none⟩ = some x) (k : V.cell? ⟨g, 1, none⟩ = some y) (hb : Below V.heap.size V W) : W.cell? ⟨g, 0, none⟩ = some x ∧ W.cell? ⟨g, 1, none⟩ = some y ∧ Below V.heap.size V W := by
  have lt : g < V.heap.size := by
    rcases Nat.lt_or_ge g V.heap.size with x | x
    · exact x
    · rw [World.cell?, Array.getElem?_eq_none x] at h; cases h
  exact ⟨(hb.cell lt).trans h, (hb.cell lt).trans k, hb⟩
/-- What stands at a place: no digit, or one. -/
theorem digit_or (s : ByteArray) (pos : Nat) (h : pos < s.size) : (∃ rv p' : Nat, (Utf8.decode s pos).1 = rv ∧ pos + (Utf8.decode s pos).2 = p' ∧ (rv < 48 ∨ 57 < rv) ∧ ¬ (48 ≤ (s[pos]'h).toNat ∧ (s[pos]'h).toNat ≤ 57)) ∨ ((s[pos]'h).toNat < 128 ∧ 48 ≤ (s[pos]'h).toNat ∧ (s[pos]'h).toNat ≤ 57) := by
  by_cases ha : (s[pos]'h).toNat < 128
  · by_cases hd : 48 ≤ (s[pos]'h).toNat ∧ (s[pos]'h).toNat ≤ 57
    · exact .inr ⟨ha, hd⟩
    · refine .inl ⟨_, _, rfl, rfl, ?_, hd⟩
      rw [decode_ascii s pos h ha]
      show (s[pos]'h).toNat < 48 ∨ 57 < (s[pos]'h).toNat
      omega
  · refine .inl ⟨_, _, rfl, rfl, ?_, by omega⟩
    have := (decode_high s pos h (by omega)).1
    omega
/-- One digit more. -/
theorem read_step {h l o ph pl sh sl c d : Nat} (m : MulWordF h l 10 o ph pl) (f : SumF ph pl 0 d 0 sh sl c) (hd : d ≤ 9) : (o = 0 ∧ c = 0 ∧ nv sh sl = nv h l * 10 + d ∧ WW sh sl) ∨ ((o ≠ 0 ∨ c ≠ 0) ∧ B128 ≤ nv h l * 10 + d) := by
  obtain ⟨m1, m2, m3⟩ := m
  obtain ⟨f1, f2, f3⟩ := f
  have e : nv 0 d = d := by simp [nv]
  rw [e, Nat.add_zero] at f3
  have a := nv_lt f1
  have b := nv_lt m2
  rw [← m3]
  generalize nv ph pl = x at *
  generalize nv sh sl = y at *
  rcases Nat.eq_zero_or_pos o with z | z
  · subst z
    rw [Nat.zero_mul, Nat.add_zero]
    have hc : c = 0 ∨ c = 1 := by omega
    rcases hc with rfl | rfl
    · left; rw [Nat.zero_mul, Nat.add_zero] at f3; exact ⟨rfl, rfl, f3, f1⟩
    · right; rw [Nat.one_mul] at f3; exact ⟨.inr (by omega), by omega⟩
  · right
    refine ⟨.inl (by omega), ?_⟩
    have := Nat.le_mul_of_pos_left B128 z
    generalize o * B128 = q at *
    omega

set_option maxRecDepth 100000 in
set_option maxHeartbeats 4000000 in
theorem read_any (s : ByteArray) (w : World) : Calls Tryd.prog 24 #[.string s] w (RetUB (fun h l ok => ReadF s.data.toList h l ok) w) := by
  by_cases e : s.data.toList = []
  · have es : s = ⟨#[]⟩ := by apply ByteArray.ext; simpa using e
    have R := Lib.hid (readF_no (s := s.data.toList) (fun k => k.1 e))
    subst es
    clear e
    go_enter Tryd.func24, Tryd.ntmps24
    go_wp2
    refine bodyPost_ret (v := .tuple #[U 0 0, .bool false]) (by simp [results, Tryd.results24, go_sem, *]) rfl ⟨_, _, _, R.out, rfl, by go_grown⟩
  · have t0 : s.toList.isEmpty = false := by
      rw [Lib.toList_data]
      cases h : s.data.toList with
      | nil => exact absurd h e
      | cons b r => rfl
    have E := Lib.hid e
    have NO := Lib.hid (fun k => @readF_no s.data.toList k)
    clear e
    go_enter Tryd.func24, Tryd.ntmps24
    go_wp2
    go_loopg [] s.size (fun k W => ReadRel w s k W)
    case atStart =>
      refine ⟨0, 0, 0, ?_, by omega, ⟨by decide, by decide⟩, (by rw [List.take_zero]; rfl), (by rw [List.take_zero]; intro b hb; cases hb), ?_, ?_, ?_⟩
      · have := World.iter_heap ((w.alloc (.cells #[.int .u64 0, .int .u64 0] 24)).alloc (.cells #[.int .u64 0, .int .u64 0] 24)) s 0
        simpa using this
      · exact Holds2.alloc (Holds2.alloc (Holds2.new2 (h := 0) (l := 0) rfl) _) _
      · exact Holds2.alloc (Holds2.new2 (h := 0) (l := 0) (by simp)) _
      · exact Below.alloc (((Below.refl _ w).alloc (Nat.le_refl _) _).alloc (by simp) _) (by simp; omega) _
    case round =>
      obtain ⟨pos, h, l, hit, hp, hw, hv, hd, A0, A1, HB⟩ := hrel
      have HV := Lib.hid hv
      have HD := Lib.hid hd
      have HW := Lib.hid hw
      have HIT := Lib.hid hit
      have hsz : w.heap.size + 1 + 1 < wr.heap.size := (Array.getElem?_eq_some_iff.1 hit).1
      clear hv hd hw
      obtain ⟨a1, a2, a3, a4, a5⟩ := id A0
      obtain ⟨b1, b2, b3, b4, b5⟩ := id A1
      by_cases hlt : pos < s.size
      · have D := digit_or s pos hlt
        have HM := Lib.hid (byte_at s pos hlt)
        rcases D with ⟨rv, p', d1, d2, d3, d4⟩ | ⟨d1, d2⟩
        · have hnx : ∀ ty, (Instr.next (.pointer (some ⟨w.heap.size + 1 + 1, 0, none⟩)) true ty).run Tryd.prog wr = _ := fun ty => Lib.run_next_any_at wr (w.heap.size + 1 + 1) s pos ty hit hlt
          rw [d1, d2] at hnx
          have F := Lib.hid (NO.out (fun k => d4 (k.2.1 _ (byte_mem s pos hlt))))
          have C0 := Lib.hid (A0.iter (k := w.heap.size + 1 + 1) (by omega) s p')
          have HB1 := Lib.below_iterAt HB (k := w.heap.size + 1 + 1) (by omega) s p'
          clear d1 d2 d4 hit hlt a1 a2 a3 a4 a5 b1 b2 b3 b4 b5 A0 A1 HB HM
          generalize wr.iterAt (w.heap.size + 1 + 1) s p' = W1 at *
          obtain ⟨a1, a2, a3, a4, a5⟩ := C0.out
          rcases d3 with d3 | d3
          · have t1 : decide ((rv : Int) < 48) = true := by simp; omega
            go_wp2
            refine bodyPost_ret (v := .tuple #[U 0 0, .bool false]) (by simp [results, Tryd.results24, go_sem, *]) rfl ⟨_, _, _, F.out, rfl, ?_⟩
            clear a1 a2 a3 a4
            go_grown
          · have t1 : decide ((rv : Int) < 48) = false := by simp; omega
            have t2 : decide (57 < (rv : Int)) = true := by simp; omega
            go_wp2
            refine bodyPost_ret (v := .tuple #[U 0 0, .bool false]) (by simp [results, Tryd.results24, go_sem, *]) rfl ⟨_, _, _, F.out, rfl, ?_⟩
            clear a1 a2 a3 a4
            go_grown
        · have hnx : ∀ ty, (Instr.next (.pointer (some ⟨w.heap.size + 1 + 1, 0, none⟩)) true ty).run Tryd.prog wr = _ := fun ty => Lib.run_next_ascii_at wr (w.heap.size + 1 + 1) s pos ty hit hlt d1
          have AL := Lib.hid (HD.out.snoc d2)
          rw [← HM.out] at AL
          have DV := Lib.hid (dv_snoc (s.data.toList.take pos) (s[pos]'hlt))
          rw [← HM.out, ← HV.out] at DV
          have TK := Lib.hid (dv_take s.data.toList (pos + 1))
          have HLT := Lib.hid hlt
          have hit2 := Lib.hid (Lib.iterAt_heap wr (w.heap.size + 1 + 1) s pos (pos + 1) hit)
          have C0 := Lib.hid (A0.iter (k := w.heap.size + 1 + 1) (by omega) s (pos + 1))
          have C1 := Lib.hid (A1.iter (k := w.heap.size + 1 + 1) (by omega) s (pos + 1))
          have HB1 := Lib.below_iterAt HB (k := w.heap.size + 1 + 1) (by omega) s (pos + 1)
          have hsz1 : w.heap.size + 1 + 1 < (wr.iterAt (w.heap.size + 1 + 1) s (pos + 1)).heap.size := by rw [Lib.iterAt_size]; exact hsz
          generalize (s[pos]'hlt).toNat = x at *
          clear d1 hit hlt a1 a2 a3 a4 a5 b1 b2 b3 b4 b5 A0 A1 HB HM HD HV HIT hsz
          generalize wr.iterAt (w.heap.size + 1 + 1) s (pos + 1) = W1 at *
          obtain ⟨d3, d4⟩ := d2
          obtain ⟨d, hdx⟩ : ∃ d : Nat, d = x - 48 := ⟨_, rfl⟩
          have d9 : d ≤ 9 := by omega
          rw [← hdx] at DV
          have t1 : decide ((x : Int) < 48) = false := by simp; omega
          have t2 : decide (57 < (x : Int)) = false := by simp; omega
          have e1 : IntKind.i32.wrap ((x : Int) - 48) = (d : Int) := by rw [IntKind.wrap_i32]; omega
          have e2 : IntKind.u64.wrap (d : Int) = (d : Int) := by rw [IntKind.wrap_u64]; omega
          have D9 := Lib.hid d9
          clear hdx d3 d4 d9
          obtain ⟨b1, b2, b3, b4, b5⟩ := C1.out
          go_wp2_with fail
          refine (mulWord_any h l 10 HW.out (by decide) _).mono ?_
          rintro e v1 ⟨o, ph, pl, M, rfl, hb1⟩
          have HM := Lib.hid M
          have hit3 := Lib.hid ((hb1.block _ hsz1).trans hit2.out)
          have C0 := Lib.hid (C0.out.below hb1)
          have C1 := Lib.hid (C1.out.below hb1)
          have HB2 : Below w.heap.size w v1 := bstep HB1 hb1
          have hsz2 : w.heap.size + 1 + 1 < v1.heap.size := Nat.lt_of_lt_of_le hsz1 hb1.size
          clear M hb1 b1 b2 b3 b4 b5 HB1 hsz1 hit2
          have P8 := Lib.hid (Holds2.new2 rfl : Holds2 (v1.alloc (.cells #[.int .u64 (ph : Int), .int .u64 (pl : Int)] 24)) v1.heap.size ph pl)
          have C0 := Lib.hid (C0.out.alloc (.cells #[.int .u64 (ph : Int), .int .u64 (pl : Int)] 24))
          have C1 := Lib.hid (C1.out.alloc (.cells #[.int .u64 (ph : Int), .int .u64 (pl : Int)] 24))
          have HB3 := HB2.alloc HB2.size (.cells #[.int .u64 (ph : Int), .int .u64 (pl : Int)] 24)
          have hit4 := Lib.hid ((((Below.refl _ v1).alloc (Nat.le_refl _) (.cells #[.int .u64 (ph : Int), .int .u64 (pl : Int)] 24)).block _ hsz2).trans hit3.out)
          have hsz3 : w.heap.size + 1 + 1 < (v1.alloc (.cells #[.int .u64 (ph : Int), .int .u64 (pl : Int)] 24)).heap.size := by simp; omega
          clear HB2 hit3
          go_upto_region 10 with fail
          generalize v1.alloc (.cells #[.int .u64 (ph : Int), .int .u64 (pl : Int)] 24) = V0 at *
          obtain ⟨b1, b2, b3, b4, b5⟩ := P8.out
          go_cut [9, 10] (fun p c W => ∃ g sh sl cc : Nat, p = .pointer (some ⟨g, 0, none⟩) ∧ c = .int .u64 (cc : Int) ∧ SumF ph pl 0 d 0 sh sl cc ∧ Holds2 W g sh sl ∧ V0.heap.size ≤ g ∧ Below V0.heap.size V0 W)
          case first =>
            go_region_held3 (fun w' => w'.cell? ⟨v1.heap.size, 0, none⟩ = some (.int .u64 (ph : Int)) ∧ w'.cell? ⟨v1.heap.size, 1, none⟩ = some (.int .u64 (pl : Int)) ∧ Below V0.heap.size V0 w')
              (first | assumption | exact ⟨b1, b2, (Below.refl _ _).drew⟩ | exact keepP b1 b2 (by first | assumption | (go_grown; done) | (go_grown; exact Below.size (by assumption))))
              (first
                | (go_at_call 50; refine (of_any d _).mono ?_; rintro e w' ⟨rfl, o1, rfl⟩)
                | (go_at_call 28; refine (add_any ph pl 0 d HM.out.2.1 ⟨by decide, (by have := D9.out; omega)⟩ _).mono ?_; rintro e v2 ⟨sh, sl, c, F, rfl, hb2⟩; (first | obtain ⟨hc2, hf2⟩ := bcell (bundrew' hb2) | obtain ⟨hc2, hf2⟩ := bcell hb2); have sz := hb2.size; simp only [World.size_alloc, World.size_drew] at sz; (first | obtain ⟨u1, u2, u3, u4⟩ := nnA sz | obtain ⟨u1, u2, u3, u4⟩ := nnB sz); have Bv : Below V0.heap.size V0 v2 := (bstep (by first | exact (And.right (And.right (by assumption))) | (go_grown; done)) hb2)))
            all_goals
              go_wp2_with fail
              go_meet
              case rel =>
                refine ⟨_, sh, sl, c, rfl, rfl, F, ?_, ?_, ?_⟩
                · clear hc2 hf2
                  repeat' (first | ((with_reducible refine Holds2.new2 ?_); simp; done) | (with_reducible refine Holds2.put (a := 0) (b := 0) ?_) | (with_reducible refine Holds2.alloc ?_ _) | (with_reducible refine Holds2.drew ?_) | (with_reducible refine Holds2.far (Holds2.far ?_ ?_ _) ?_ _) | ((with_reducible refine Holds2.below ?_ hb2); simp [Holds2, go_sem]; done) | (show _ ≠ _; (try dsimp only); omega))
                · first | omega | (simp; omega)
                · clear hc2 hf2
                  repeat' (first | (with_reducible exact Bv) | (with_reducible refine Below.drew ?_) | (with_reducible refine Below.alloc ?_ ?_ _) | (with_reducible refine Below.setCell ?_ ?_ _) | (exact Bv.size) | (show _ ≤ _; (try dsimp only); omega))
          case rest =>
            obtain ⟨g, sh, sl, c, rfl, rfl, F, G, hg, BC⟩ := hcut
            have C0 := Lib.hid (C0.out.below BC)
            have C1 := Lib.hid (C1.out.below BC)
            have HB4 := bstep HB3 BC
            have hit5 := Lib.hid ((BC.block _ hsz3).trans hit4.out)
            have FF := Lib.hid (read_step HM.out F D9.out)
            have GG := Lib.hid G
            clear b1 b2 b3 b4 b5 F G BC hit4 HB3 P8
            obtain ⟨a1, a2, a3, a4, a5⟩ := C0.out
            rcases FF.out with ⟨rfl, rfl, f3, f4⟩ | ⟨f3, f4⟩
            · have F3 := Lib.hid f3
              have F4 := Lib.hid f4
              clear f3 f4 FF a1 a2 a3 a4 a5
              obtain ⟨b1, b2, b3, b4, b5⟩ := C1.out
              obtain ⟨c1, c2, c3, c4, c5⟩ := GG.out
              go_wp2
              go_roundg (gk - 1)
              case measure => have := HLT.out; omega
              case rel =>
                refine ⟨pos + 1, sh, sl, ?_, by have := HLT.out; omega, F4.out, by rw [F3.out, DV.out], AL.out, ?_, ?_, ?_⟩
                · exact (Below.heap_setCell _ _ _ _ (by show _ ≠ _; dsimp only; omega)).trans ((Below.heap_setCell _ _ _ _ (by show _ ≠ _; dsimp only; omega)).trans hit5.out)
                · exact Holds2.far (Holds2.far C0.out (by show _ ≠ _; dsimp only; omega) _) (by show _ ≠ _; dsimp only; omega) _
                · exact Holds2.put C1.out
                · clear b1 b2 b3 b4 c1 c2 c3 c4
                  go_grown
            · have R := Lib.hid (NO.out (fun k => by have := TK.out; rw [DV.out] at this; have := k.2.2; omega))
              rcases f3 with f3 | f3
              · have t3 : ((o : Int) != 0) = true := by simp; omega
                clear f4 FF
                go_wp2
                refine bodyPost_ret (v := .tuple #[U 0 0, .bool false]) (by simp [results, Tryd.results24, go_sem, *]) rfl ⟨_, _, _, R.out, rfl, ?_⟩
                clear a1 a2 a3 a4
                go_grown
              · rcases Nat.eq_zero_or_pos o with o0 | o0
                · subst o0
                  have t4 : ((c : Int) != 0) = true := by simp; omega
                  clear f4 FF
                  go_wp2
                  refine bodyPost_ret (v := .tuple #[U 0 0, .bool false]) (by simp [results, Tryd.results24, go_sem, *]) rfl ⟨_, _, _, R.out, rfl, ?_⟩
                  clear a1 a2 a3 a4
                  go_grown
                · have t3 : ((o : Int) != 0) = true := by simp; omega
                  clear f4 FF
                  go_wp2
                  refine bodyPost_ret (v := .tuple #[U 0 0, .bool false]) (by simp [results, Tryd.results24, go_sem, *]) rfl ⟨_, _, _, R.out, rfl, ?_⟩
                  clear a1 a2 a3 a4
                  go_grown
      · have hnx : ∀ ty, (Instr.next (.pointer (some ⟨w.heap.size + 1 + 1, 0, none⟩)) true ty).run Tryd.prog wr = _ := fun ty => Lib.run_next_end_at wr (w.heap.size + 1 + 1) s pos ty hit hlt
        have full : s.data.toList.take pos = s.data.toList := List.take_of_length_le (by show s.size ≤ pos; omega)
        have FULL := Lib.hid full
        clear full hit
        go_wp2
        refine bodyPost_ret (v := .tuple #[U h l, .bool true]) (by simp [results, Tryd.results24, go_sem, *]) rfl ⟨_, _, _, ⟨HW.out, .inl ⟨rfl, E.out, by rw [← FULL.out]; exact HD.out, by rw [HV.out, FULL.out]⟩⟩, rfl, ?_⟩
        clear a1 a2 a3 a4 b1 b2 b3 b4
        go_grown
end Go.Proofs.YtlcpbmjipplcdaaDoor

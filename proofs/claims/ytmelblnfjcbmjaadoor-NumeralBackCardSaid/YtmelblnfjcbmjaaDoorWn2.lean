/-
  The statement NumeralBack, walked: it answers true, where the document's examples do.
-/
import Derived.Test.YtmelblnfjcbmjaaDoorWn1
namespace Go.Proofs.YtmelblnfjcbmjaaDoor
open Go.RowKit

/-- The text of what is read of one that has no sign. -/
theorem text_unsigned {c : Nat} {x : Int} : textL false c x = sizeL c x := by
  unfold textL sgn
  by_cases z : c = 0
  · rw [if_pos z, if_neg (by decide)]
  · rw [if_neg z]; rfl
theorem sgn_up (c : Nat) : decide (0 ≤ sgn false c) = true := by
  refine decide_eq_true ?_
  unfold sgn
  by_cases z : c = 0
  · rw [if_pos z]; decide
  · rw [if_neg z, if_neg (by decide)]; decide
theorem shape_of_read {l : List UInt8} {r : Bool × Nat × Int} (h : readL l = some r) : shapeL l = true := by
  unfold readL at h
  unfold shapeL
  cases e : runS l rd0 with
  | none => rw [e] at h; cases h
  | some t =>
    rw [e] at h
    have h2 : (if endS t = true then fitF 1 false t.2.1 t.2.2.2.2.1 (expS t) else none) = some r := h
    split at h2
    · rename_i k; exact k
    · cases h2
theorem size_200 {c : Nat} {x : Int} (h : NumD c x) : (⟨(sizeL c x).toArray⟩ : ByteArray).size ≤ 200000000000000 := by
  refine Nat.le_trans (Nat.le_of_eq ?_) (Nat.le_trans (size_len h) (by decide))
  simp [ByteArray.size]
set_option linter.unusedSimpArgs false in
set_option maxRecDepth 100000 in
set_option maxHeartbeats 8000000 in
theorem numeralBack_walk0 (AW : Aw5C) (s : ByteArray) (hs : s.size ≤ 200000000000000) (w : World) (ht : Tab w) (ht2 : Tab2 w) :
    Calls Tryd.prog 8 #[.string s] w (RetB true w) := by
  have HT := Lib.hid (And.intro ht ht2)
  have AWH := Lib.hid AW
  have RD := Lib.hid (read_any s hs)
  obtain ⟨o, ho⟩ : ∃ o, o = readL s.data.toList := ⟨_, rfl⟩
  rw [← ho] at RD
  cases o with
  | none =>
    clear ht ht2 AW ho
    go_enter Tryd.func8, Tryd.ntmps8
    go_wp2_with fail
    refine (AWH.out _ (HT.out.1.below (by go_grown)) (HT.out.2.below (by go_grown))).mono ?_
    rintro e w1 ⟨rfl, hb⟩
    have B : Below w.heap.size w w1 := bstep (by go_grown) hb
    clear hb AWH
    go_wp2_with fail
    refine (RD.out _ (HT.out.1.below B)).mono ?_
    rintro e v ⟨n, h, l, x, ok, N, rfl, hb⟩
    replace B := bstep B hb
    obtain ⟨-, rfl, rfl, rfl, rfl, rfl⟩ := N
    clear hb RD
    go_wp2
    go_ret
    exact ⟨rfl, ballD1 B _⟩
  | some r =>
    obtain ⟨m, c, y⟩ := r
    have M := readL_may ho.symm hs
    obtain ⟨rfl, ND⟩ := M
    have SH0 := shape_any s hs
    rw [shape_of_read ho.symm] at SH0
    have SH := Lib.hid SH0
    obtain ⟨T, hT⟩ : ∃ T : ByteArray, T = ⟨(sizeL c y).toArray⟩ := ⟨_, rfl⟩
    have hT200 : T.size ≤ 200000000000000 := by rw [hT]; exact size_200 ND
    have RD2 := read_any T hT200
    rw [show readL T.data.toList = some (false, c, y) by rw [hT]; simpa using read_size ND] at RD2
    have R2 := Lib.hid RD2
    have HND := Lib.hid ND
    have H2 := Lib.hid hT
    clear ht ht2 AW ho SH0 hT hT200 RD2 ND
    go_enter Tryd.func8, Tryd.ntmps8
    go_wp2_with fail
    refine (AWH.out _ (HT.out.1.below (by go_grown)) (HT.out.2.below (by go_grown))).mono ?_
    rintro e w1 ⟨rfl, hb⟩
    have B : Below w.heap.size w w1 := bstep (by go_grown) hb
    clear hb AWH
    go_wp2_with fail
    refine (RD.out _ (HT.out.1.below B)).mono ?_
    rintro e v ⟨n, h, l, x, ok, N, rfl, hb⟩
    replace B := bstep B hb
    obtain ⟨hw, rfl, rfl, rfl, rfl⟩ := N
    have TX := Lib.hid (show ∀ w : World, Tab w → Tab2 w → Calls Tryd.prog 26 #[Dv false h l x] w (fun e w' => e = .returned (.string T) ∧ Below w.heap.size w w') from fun w a b => by rw [H2.out, ← text_unsigned]; exact textN_any false h l x hw HND.out w a b)
    have MY := Lib.hid (may_any false h l x hw)
    rw [mayD_of HND.out (fun _ => rfl)] at MY
    have SG := Lib.hid (sign_any false h l x)
    have su := sgn_up (nv h l)
    generalize sgn false (nv h l) = sg at *
    have HW := Lib.hid hw
    have P := Lib.hid (HoldsD.new4 rfl : HoldsD (v.alloc (.cells #[.bool false, .int .u64 (h : Int), .int .u64 (l : Int), .int .i64 x] 28)) v.heap.size false h l x)
    replace B := ballD1 B (.cells #[.bool false, .int .u64 (h : Int), .int .u64 (l : Int), .int .i64 x] 28)
    clear hb RD hw HND H2
    obtain ⟨⟨a1, a2, a3, a4⟩, -, a9⟩ := P.out
    go_wp2_with fail
    refine (TX.out _ (HT.out.1.below B) (HT.out.2.below B)).mono ?_
    rintro e v1 ⟨rfl, hb⟩
    replace P := Lib.hid (P.out.below hb)
    replace B := bstep B hb
    clear hb TX a1 a2 a3 a4 a9
    go_wp2_with fail
    refine (R2.out _ (HT.out.1.below B)).mono ?_
    rintro e v2 ⟨n', h', l', x', ok', N', rfl, hb⟩
    obtain ⟨hw', rfl, rfl, e3, rfl⟩ := N'
    obtain ⟨rfl, rfl⟩ := nv_inj hw' HW.out e3
    replace P := Lib.hid ((P.out.below hb).alloc (.cells #[.bool false, .int .u64 (h' : Int), .int .u64 (l' : Int), .int .i64 x'] 28))
    have P2 := Lib.hid (HoldsD.new4 rfl : HoldsD (v2.alloc (.cells #[.bool false, .int .u64 (h' : Int), .int .u64 (l' : Int), .int .i64 x'] 28)) v2.heap.size false h' l' x')
    replace B := ballD1 (bstep B hb) (.cells #[.bool false, .int .u64 (h' : Int), .int .u64 (l' : Int), .int .i64 x'] 28)
    clear hb R2 e3 hw' HW
    go_upto_region 7 with fail
    generalize v2.alloc (.cells #[.bool false, .int .u64 (h' : Int), .int .u64 (l' : Int), .int .i64 x'] 28) = V at *
    obtain ⟨g, hg⟩ : ∃ g, g = v.heap.size := ⟨_, rfl⟩
    rw [← hg] at P ⊢
    clear hg
    obtain ⟨g2, hg⟩ : ∃ g, g = v2.heap.size := ⟨_, rfl⟩
    rw [← hg] at P2 ⊢
    clear hg
    obtain ⟨⟨a1, a2, a3, a4⟩, -, a9⟩ := P.out
    obtain ⟨⟨b1, b2, b3, b4⟩, -, b9⟩ := P2.out
    go_wp2_with fail
    refine (MY.out _ (HT.out.1.below B)).mono ?_
    rintro e v3 ⟨rfl, hb⟩
    replace P := Lib.hid (P.out.below hb)
    replace B := bstep B hb
    clear hb MY a1 a2 a3 a4 a9 b1 b2 b3 b4 b9 P2
    obtain ⟨⟨a1, a2, a3, a4⟩, -, a9⟩ := P.out
    go_wp2_with fail
    refine (SG.out _).mono ?_
    rintro e v4 ⟨rfl, hb⟩
    replace B := bstep B hb
    clear hb SG a1 a2 a3 a4 a9 P
    go_wp2_with fail
    refine (SH.out _).mono ?_
    rintro e v5 ⟨rfl, hb⟩
    replace B := bstep B hb
    clear hb SH
    go_wp2
    go_ret
    exact ⟨rfl, B⟩
end Go.Proofs.YtmelblnfjcbmjaaDoor

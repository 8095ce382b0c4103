/-
  Products of numbers, whole numbers of ints, and the number that is handed in (Mul, Int of package dec; Make, of of the laws), each as a contract of its call.
-/
import Derived.Test.YtkkddflclakphaaDoorE8
namespace Go.Proofs.YtkkddflclakphaaDoor
open Go.RowKit

set_option maxRecDepth 100000 in
set_option maxHeartbeats 2000000 in
theorem mulD_any (na : Bool) (ah al : Nat) (ea : Int) (nb : Bool) (bh bl : Nat) (eb : Int) (ha : WW ah al) (hb : WW bh bl) (h1 : -6176 ≤ ea) (h2 : ea ≤ 6111) (h3 : -6176 ≤ eb) (h4 : eb ≤ 6111) (w : World) (ht : Tab w) :
    Calls Tryd.prog 17 #[Dv na ah al ea, Dv nb bh bl eb] w (RetDO (mulF na (nv ah al) ea nb (nv bh bl) eb) w) := by
  have HT := Lib.hid ht
  have MU := Lib.hid (mul_any ah al bh bl ha hb)
  have FI := Lib.hid (fun h l h' l' (p : ProdF ah al bh bl h l h' l') => fit_any 1 (.inl rfl) (na != nb) h l h' l' (ea + eb) false p.1 p.2.1 (by omega) (by omega))
  unfold mulF
  have e1 : IntKind.i64.wrap (ea + eb) = ea + eb := by rw [IntKind.wrap_i64]; omega
  clear ht ha hb h1 h2 h3 h4
  generalize hs : (na != nb) = s at *
  go_enter Tryd.func17, Tryd.ntmps17
  have hs' : (!na == nb) = s := hs
  go_wp2_with fail
  refine (MU.out _).mono ?_
  rintro e w1 ⟨h, l, h', l', P, rfl, hb1⟩
  have FJ := Lib.hid (FI.out h l h' l' P)
  rw [P.2.2] at FJ
  have B1 : Below w.heap.size w w1 := bstep (by go_grown) hb1
  have D2 := Lib.hid ((show HoldsD _ (w.heap.size + 1 + 1) false 0 0 0 from by simp [HoldsD, go_sem]).below hb1)
  have D3 := Lib.hid ((show HoldsW _ (w.heap.size + 1 + 1 + 1) s 0 0 0 0 (ea + eb) false from by simp [HoldsW, go_sem]).below hb1)
  clear hb1 P FI MU hs hs'
  obtain ⟨⟨a1, a2, a3, a4, a5, a6, a7⟩, ⟨a8, a9, a10, a11, a12, a13, a14⟩, a15⟩ := D3.out
  go_wp2_with fail
  refine (FJ.out _ (HT.out.below ?_)).mono ?_
  · exact Below.setCell (Below.setCell (Below.setCell (Below.setCell B1 (by dsimp only; omega) _) (by dsimp only; omega) _) (by dsimp only; omega) _) (by dsimp only; omega) _
  rintro e w2 ⟨n2, h2, l2, x2, ok, NO, rfl, hb2⟩
  have HN := Lib.hid NO
  replace D2 := Lib.hid (HoldsD.below (HoldsD.far (HoldsD.far (HoldsD.far (HoldsD.far D2.out (by show _ ≠ _; dsimp only; omega) _) (by show _ ≠ _; dsimp only; omega) _) (by show _ ≠ _; dsimp only; omega) _) (by show _ ≠ _; dsimp only; omega) _) hb2)
  have B2 : Below w.heap.size w w2 := bstep (Below.setCell (Below.setCell (Below.setCell (Below.setCell B1 (by dsimp only; omega) _) (by dsimp only; omega) _) (by dsimp only; omega) _) (by dsimp only; omega) _) hb2
  clear hb2 NO a1 a2 a3 a4 a5 a6 a7 a8 a9 a10 a11 a12 a13 a14 a15 B1 D3 FJ
  obtain ⟨⟨b1, b2, b3, b4⟩, ⟨b5, b6, b7, b8⟩, b15⟩ := D2.out
  go_wp2
  refine bodyPost_ret (v := .tuple #[Dv n2 h2 l2 x2, .bool ok]) (by simp [results, Tryd.results17, go_sem, *]) rfl ⟨_, _, _, _, _, HN.out, rfl, ?_⟩
  clear b1 b2 b3 b4 b5 b6 b7 b8
  go_grown
end Go.Proofs.YtkkddflclakphaaDoor

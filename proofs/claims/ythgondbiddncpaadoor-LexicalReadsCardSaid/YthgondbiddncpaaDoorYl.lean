/-
  The statement LexicalReads, walked: it answers true.
-/
import Derived.Test.YthgondbiddncpaaDoorYj
import Derived.Test.YthgondbiddncpaaDoorYe
namespace Go.Proofs.YthgondbiddncpaaDoor
open Go.RowKit

set_option linter.unusedSimpArgs false in
set_option linter.unusedVariables false in
set_option maxRecDepth 100000 in
set_option maxHeartbeats 4000000 in
theorem lexicalReads_walk (s : ByteArray) (hs : s.size ≤ 200000000000000) (w : World) (ht : Tab2 w) : Calls Tryd.prog 4 #[.string s] w (Ret (.bool true) w) := by
  have HT := Lib.hid ht
  have AW := Lib.hid awake9
  have RD := Lib.hid (readDate_any s hs)
  have RT := Lib.hid (readTime_any s hs)
  have RM := Lib.hid (readMoment_any s hs)
  clear ht hs
  go_enter Tryd.func4, Tryd.ntmps4
  go_wp2_with fail
  refine (AW.out _ (HT.out.below (by go_grown))).mono ?_
  rintro e w1 ⟨rfl, hb⟩
  have B : Below w.heap.size w w1 := bstep (by go_grown) hb
  clear hb AW
  go_wp2_with fail
  refine (RD.out _ (HT.out.below B)).mono ?_
  rintro e w2 ⟨⟨y, m, d, ok, rfl, h1, h2⟩, hb⟩
  replace B := bstep B hb
  clear hb RD
  have H1 := Lib.hid h1
  have Z1 := Lib.hid h2
  clear h1 h2
  have PD := Lib.hid (HoldsT.new rfl : HoldsT (w2.alloc (DtC y m d)) w2.heap.size y m d)
  replace B := ballD1 B (DtC y m d)
  go_upto_region 4 with fail
  change Code.wp _ _ _ _ (w2.alloc (DtC y m d))
  generalize w2.alloc (DtC y m d) = w3 at *
  obtain ⟨gPD, hg⟩ : ∃ g, g = w2.heap.size := ⟨_, rfl⟩
  rw [← hg] at PD ⊢
  clear hg
  obtain ⟨⟨c0_0, c0_1, c0_2⟩, -, c0z⟩ := PD.out
  go_wp2_with fail
  refine (RT.out _ (HT.out.below B)).mono ?_
  rintro e w4 ⟨⟨a, z, o, ok', rfl, h1, h2⟩, hb⟩
  replace PD := Lib.hid (PD.out.below hb)
  replace B := bstep B hb
  clear hb RT
  clear c0_0 c0_1 c0_2 c0z
  have H2 := Lib.hid h1
  have Z2 := Lib.hid h2
  clear h1 h2
  replace PD := Lib.hid (PD.out.alloc (TmC a z o))
  have PT := Lib.hid (HoldsM.new rfl : HoldsM (w4.alloc (TmC a z o)) w4.heap.size a z o)
  replace B := ballD1 B (TmC a z o)
  go_upto_region 5 with fail
  change Code.wp _ _ _ _ (w4.alloc (TmC a z o))
  generalize w4.alloc (TmC a z o) = w5 at *
  obtain ⟨gPT, hg⟩ : ∃ g, g = w4.heap.size := ⟨_, rfl⟩
  rw [← hg] at PT ⊢
  clear hg
  obtain ⟨⟨c0_0, c0_1, c0_2⟩, -, c0z⟩ := PD.out
  obtain ⟨⟨c1_0, c1_1, c1_2⟩, -, c1z⟩ := PT.out
  go_wp2_with fail
  refine (RM.out _ (HT.out.below B)).mono ?_
  rintro e w6 ⟨⟨y', m', d', a', z', o', ok'', rfl, h1, h2⟩, hb⟩
  replace PD := Lib.hid (PD.out.below hb)
  replace PT := Lib.hid (PT.out.below hb)
  replace B := bstep B hb
  clear hb RM
  clear c0_0 c0_1 c0_2 c0z c1_0 c1_1 c1_2 c1z
  have H3 := Lib.hid h1
  have Z3 := Lib.hid h2
  clear h1 h2
  replace PD := Lib.hid (PD.out.alloc (MoC y' m' d' a' z' o'))
  replace PT := Lib.hid (PT.out.alloc (MoC y' m' d' a' z' o'))
  have PN := Lib.hid (HoldsN.new rfl : HoldsN (w6.alloc (MoC y' m' d' a' z' o')) w6.heap.size y' m' d' a' z' o')
  replace B := ballD1 B (MoC y' m' d' a' z' o')
  go_upto_region 6 with fail
  change Code.wp _ _ _ _ (w6.alloc (MoC y' m' d' a' z' o'))
  generalize w6.alloc (MoC y' m' d' a' z' o') = w7 at *
  obtain ⟨gPN, hg⟩ : ∃ g, g = w6.heap.size := ⟨_, rfl⟩
  rw [← hg] at PN ⊢
  clear hg
  cases ok <;> cases ok' <;> cases ok''
  · obtain ⟨rfl, rfl, rfl⟩ := Z1.out rfl
    obtain ⟨rfl, rfl, rfl⟩ := Z2.out rfl
    obtain ⟨rfl, rfl, rfl, rfl, rfl, rfl⟩ := Z3.out rfl
    clear H1 H2 H3 Z1 Z2 Z3
    obtain ⟨⟨c0_0, c0_1, c0_2⟩, -, c0z⟩ := PD.out
    obtain ⟨⟨c1_0, c1_1, c1_2⟩, -, c1z⟩ := PT.out
    obtain ⟨⟨c2_0, c2_1, c2_2, c2_3, c2_4, c2_5⟩, -, c2z⟩ := PN.out
    go_wp2
    go_ret
    exact ⟨rfl, B⟩
  · obtain ⟨rfl, rfl, rfl⟩ := Z1.out rfl
    obtain ⟨rfl, rfl, rfl⟩ := Z2.out rfl
    obtain ⟨k1, k2⟩ := H3.out rfl
    have MC := Lib.hid (show ∀ w, Calls Tryd.prog 23 #[Mo y' m' d' a' z' o'] w (Ret (.bool true) w) from fun w => by rw [← k1]; exact mayN_any y' m' d' a' z' o' w)
    have DC := Lib.hid (show ∀ w, Tab2 w → Calls Tryd.prog 14 #[Mo y' m' d' a' z' o'] w (Ret (.string s) w) from fun w k => by have e := moment_any y' m' d' a' z' o' w k; rw [k2] at e; exact e)
    clear k1 k2
    clear H1 H2 H3 Z1 Z2 Z3
    obtain ⟨⟨c0_0, c0_1, c0_2⟩, -, c0z⟩ := PD.out
    obtain ⟨⟨c1_0, c1_1, c1_2⟩, -, c1z⟩ := PT.out
    obtain ⟨⟨c2_0, c2_1, c2_2, c2_3, c2_4, c2_5⟩, -, c2z⟩ := PN.out
    go_wp2_with fail
    refine (MC.out _).mono ?_
    rintro e w8 ⟨rfl, hb⟩
    replace PD := Lib.hid (PD.out.below hb)
    replace PT := Lib.hid (PT.out.below hb)
    replace PN := Lib.hid (PN.out.below hb)
    replace B := bstep B hb
    clear hb MC
    clear c0_0 c0_1 c0_2 c0z c1_0 c1_1 c1_2 c1z c2_0 c2_1 c2_2 c2_3 c2_4 c2_5 c2z
    obtain ⟨⟨c0_0, c0_1, c0_2⟩, -, c0z⟩ := PD.out
    obtain ⟨⟨c1_0, c1_1, c1_2⟩, -, c1z⟩ := PT.out
    obtain ⟨⟨c2_0, c2_1, c2_2, c2_3, c2_4, c2_5⟩, -, c2z⟩ := PN.out
    go_wp2_with fail
    refine (DC.out _ (HT.out.below B)).mono ?_
    rintro e w9 ⟨rfl, hb⟩
    replace PD := Lib.hid (PD.out.below hb)
    replace PT := Lib.hid (PT.out.below hb)
    replace PN := Lib.hid (PN.out.below hb)
    replace B := bstep B hb
    clear hb DC
    clear c0_0 c0_1 c0_2 c0z c1_0 c1_1 c1_2 c1z c2_0 c2_1 c2_2 c2_3 c2_4 c2_5 c2z
    obtain ⟨⟨c0_0, c0_1, c0_2⟩, -, c0z⟩ := PD.out
    obtain ⟨⟨c1_0, c1_1, c1_2⟩, -, c1z⟩ := PT.out
    obtain ⟨⟨c2_0, c2_1, c2_2, c2_3, c2_4, c2_5⟩, -, c2z⟩ := PN.out
    go_wp2
    go_ret
    exact ⟨rfl, B⟩
  · obtain ⟨rfl, rfl, rfl⟩ := Z1.out rfl
    obtain ⟨k1, k2⟩ := H2.out rfl
    have MB := Lib.hid (show ∀ w, Calls Tryd.prog 22 #[Tm a z o] w (Ret (.bool true) w) from fun w => by rw [← k1]; exact mayM_any a z o w)
    have DB := Lib.hid (show ∀ w, Tab2 w → Calls Tryd.prog 12 #[Tm a z o] w (Ret (.string s) w) from fun w k => by have e := time_any a z o w k; rw [k2] at e; exact e)
    clear k1 k2
    obtain ⟨rfl, rfl, rfl, rfl, rfl, rfl⟩ := Z3.out rfl
    clear H1 H2 H3 Z1 Z2 Z3
    obtain ⟨⟨c0_0, c0_1, c0_2⟩, -, c0z⟩ := PD.out
    obtain ⟨⟨c1_0, c1_1, c1_2⟩, -, c1z⟩ := PT.out
    obtain ⟨⟨c2_0, c2_1, c2_2, c2_3, c2_4, c2_5⟩, -, c2z⟩ := PN.out
    go_wp2_with fail
    refine (MB.out _).mono ?_
    rintro e w8 ⟨rfl, hb⟩
    replace PD := Lib.hid (PD.out.below hb)
    replace PT := Lib.hid (PT.out.below hb)
    replace PN := Lib.hid (PN.out.below hb)
    replace B := bstep B hb
    clear hb MB
    clear c0_0 c0_1 c0_2 c0z c1_0 c1_1 c1_2 c1z c2_0 c2_1 c2_2 c2_3 c2_4 c2_5 c2z
    obtain ⟨⟨c0_0, c0_1, c0_2⟩, -, c0z⟩ := PD.out
    obtain ⟨⟨c1_0, c1_1, c1_2⟩, -, c1z⟩ := PT.out
    obtain ⟨⟨c2_0, c2_1, c2_2, c2_3, c2_4, c2_5⟩, -, c2z⟩ := PN.out
    go_wp2_with fail
    refine (DB.out _ (HT.out.below B)).mono ?_
    rintro e w9 ⟨rfl, hb⟩
    replace PD := Lib.hid (PD.out.below hb)
    replace PT := Lib.hid (PT.out.below hb)
    replace PN := Lib.hid (PN.out.below hb)
    replace B := bstep B hb
    clear hb DB
    clear c0_0 c0_1 c0_2 c0z c1_0 c1_1 c1_2 c1z c2_0 c2_1 c2_2 c2_3 c2_4 c2_5 c2z
    obtain ⟨⟨c0_0, c0_1, c0_2⟩, -, c0z⟩ := PD.out
    obtain ⟨⟨c1_0, c1_1, c1_2⟩, -, c1z⟩ := PT.out
    obtain ⟨⟨c2_0, c2_1, c2_2, c2_3, c2_4, c2_5⟩, -, c2z⟩ := PN.out
    go_wp2
    go_ret
    exact ⟨rfl, B⟩
  · obtain ⟨rfl, rfl, rfl⟩ := Z1.out rfl
    obtain ⟨k1, k2⟩ := H2.out rfl
    have MB := Lib.hid (show ∀ w, Calls Tryd.prog 22 #[Tm a z o] w (Ret (.bool true) w) from fun w => by rw [← k1]; exact mayM_any a z o w)
    have DB := Lib.hid (show ∀ w, Tab2 w → Calls Tryd.prog 12 #[Tm a z o] w (Ret (.string s) w) from fun w k => by have e := time_any a z o w k; rw [k2] at e; exact e)
    clear k1 k2
    obtain ⟨k1, k2⟩ := H3.out rfl
    have MC := Lib.hid (show ∀ w, Calls Tryd.prog 23 #[Mo y' m' d' a' z' o'] w (Ret (.bool true) w) from fun w => by rw [← k1]; exact mayN_any y' m' d' a' z' o' w)
    have DC := Lib.hid (show ∀ w, Tab2 w → Calls Tryd.prog 14 #[Mo y' m' d' a' z' o'] w (Ret (.string s) w) from fun w k => by have e := moment_any y' m' d' a' z' o' w k; rw [k2] at e; exact e)
    clear k1 k2
    clear H1 H2 H3 Z1 Z2 Z3
    obtain ⟨⟨c0_0, c0_1, c0_2⟩, -, c0z⟩ := PD.out
    obtain ⟨⟨c1_0, c1_1, c1_2⟩, -, c1z⟩ := PT.out
    obtain ⟨⟨c2_0, c2_1, c2_2, c2_3, c2_4, c2_5⟩, -, c2z⟩ := PN.out
    go_wp2_with fail
    refine (MB.out _).mono ?_
    rintro e w8 ⟨rfl, hb⟩
    replace PD := Lib.hid (PD.out.below hb)
    replace PT := Lib.hid (PT.out.below hb)
    replace PN := Lib.hid (PN.out.below hb)
    replace B := bstep B hb
    clear hb MB
    clear c0_0 c0_1 c0_2 c0z c1_0 c1_1 c1_2 c1z c2_0 c2_1 c2_2 c2_3 c2_4 c2_5 c2z
    obtain ⟨⟨c0_0, c0_1, c0_2⟩, -, c0z⟩ := PD.out
    obtain ⟨⟨c1_0, c1_1, c1_2⟩, -, c1z⟩ := PT.out
    obtain ⟨⟨c2_0, c2_1, c2_2, c2_3, c2_4, c2_5⟩, -, c2z⟩ := PN.out
    go_wp2_with fail
    refine (DB.out _ (HT.out.below B)).mono ?_
    rintro e w9 ⟨rfl, hb⟩
    replace PD := Lib.hid (PD.out.below hb)
    replace PT := Lib.hid (PT.out.below hb)
    replace PN := Lib.hid (PN.out.below hb)
    replace B := bstep B hb
    clear hb DB
    clear c0_0 c0_1 c0_2 c0z c1_0 c1_1 c1_2 c1z c2_0 c2_1 c2_2 c2_3 c2_4 c2_5 c2z
    obtain ⟨⟨c0_0, c0_1, c0_2⟩, -, c0z⟩ := PD.out
    obtain ⟨⟨c1_0, c1_1, c1_2⟩, -, c1z⟩ := PT.out
    obtain ⟨⟨c2_0, c2_1, c2_2, c2_3, c2_4, c2_5⟩, -, c2z⟩ := PN.out
    go_wp2_with fail
    refine (MC.out _).mono ?_
    rintro e w10 ⟨rfl, hb⟩
    replace PD := Lib.hid (PD.out.below hb)
    replace PT := Lib.hid (PT.out.below hb)
    replace PN := Lib.hid (PN.out.below hb)
    replace B := bstep B hb
    clear hb MC
    clear c0_0 c0_1 c0_2 c0z c1_0 c1_1 c1_2 c1z c2_0 c2_1 c2_2 c2_3 c2_4 c2_5 c2z
    obtain ⟨⟨c0_0, c0_1, c0_2⟩, -, c0z⟩ := PD.out
    obtain ⟨⟨c1_0, c1_1, c1_2⟩, -, c1z⟩ := PT.out
    obtain ⟨⟨c2_0, c2_1, c2_2, c2_3, c2_4, c2_5⟩, -, c2z⟩ := PN.out
    go_wp2_with fail
    refine (DC.out _ (HT.out.below B)).mono ?_
    rintro e w11 ⟨rfl, hb⟩
    replace PD := Lib.hid (PD.out.below hb)
    replace PT := Lib.hid (PT.out.below hb)
    replace PN := Lib.hid (PN.out.below hb)
    replace B := bstep B hb
    clear hb DC
    clear c0_0 c0_1 c0_2 c0z c1_0 c1_1 c1_2 c1z c2_0 c2_1 c2_2 c2_3 c2_4 c2_5 c2z
    obtain ⟨⟨c0_0, c0_1, c0_2⟩, -, c0z⟩ := PD.out
    obtain ⟨⟨c1_0, c1_1, c1_2⟩, -, c1z⟩ := PT.out
    obtain ⟨⟨c2_0, c2_1, c2_2, c2_3, c2_4, c2_5⟩, -, c2z⟩ := PN.out
    go_wp2
    go_ret
    exact ⟨rfl, B⟩
  · obtain ⟨k1, k2⟩ := H1.out rfl
    have MA := Lib.hid (show ∀ w, Calls Tryd.prog 21 #[Dt y m d] w (Ret (.bool true) w) from fun w => by rw [← k1]; exact mayDay_any y m d w)
    have DA := Lib.hid (show ∀ w, Tab2 w → Calls Tryd.prog 10 #[Dt y m d] w (Ret (.string s) w) from fun w k => by have e := date_any y m d w k; rw [k2] at e; exact e)
    clear k1 k2
    obtain ⟨rfl, rfl, rfl⟩ := Z2.out rfl
    obtain ⟨rfl, rfl, rfl, rfl, rfl, rfl⟩ := Z3.out rfl
    clear H1 H2 H3 Z1 Z2 Z3
    obtain ⟨⟨c0_0, c0_1, c0_2⟩, -, c0z⟩ := PD.out
    obtain ⟨⟨c1_0, c1_1, c1_2⟩, -, c1z⟩ := PT.out
    obtain ⟨⟨c2_0, c2_1, c2_2, c2_3, c2_4, c2_5⟩, -, c2z⟩ := PN.out
    go_wp2_with fail
    refine (MA.out _).mono ?_
    rintro e w8 ⟨rfl, hb⟩
    replace PD := Lib.hid (PD.out.below hb)
    replace PT := Lib.hid (PT.out.below hb)
    replace PN := Lib.hid (PN.out.below hb)
    replace B := bstep B hb
    clear hb MA
    clear c0_0 c0_1 c0_2 c0z c1_0 c1_1 c1_2 c1z c2_0 c2_1 c2_2 c2_3 c2_4 c2_5 c2z
    obtain ⟨⟨c0_0, c0_1, c0_2⟩, -, c0z⟩ := PD.out
    obtain ⟨⟨c1_0, c1_1, c1_2⟩, -, c1z⟩ := PT.out
    obtain ⟨⟨c2_0, c2_1, c2_2, c2_3, c2_4, c2_5⟩, -, c2z⟩ := PN.out
    go_wp2_with fail
    refine (DA.out _ (HT.out.below B)).mono ?_
    rintro e w9 ⟨rfl, hb⟩
    replace PD := Lib.hid (PD.out.below hb)
    replace PT := Lib.hid (PT.out.below hb)
    replace PN := Lib.hid (PN.out.below hb)
    replace B := bstep B hb
    clear hb DA
    clear c0_0 c0_1 c0_2 c0z c1_0 c1_1 c1_2 c1z c2_0 c2_1 c2_2 c2_3 c2_4 c2_5 c2z
    obtain ⟨⟨c0_0, c0_1, c0_2⟩, -, c0z⟩ := PD.out
    obtain ⟨⟨c1_0, c1_1, c1_2⟩, -, c1z⟩ := PT.out
    obtain ⟨⟨c2_0, c2_1, c2_2, c2_3, c2_4, c2_5⟩, -, c2z⟩ := PN.out
    go_wp2
    go_ret
    exact ⟨rfl, B⟩
  · obtain ⟨k1, k2⟩ := H1.out rfl
    have MA := Lib.hid (show ∀ w, Calls Tryd.prog 21 #[Dt y m d] w (Ret (.bool true) w) from fun w => by rw [← k1]; exact mayDay_any y m d w)
    have DA := Lib.hid (show ∀ w, Tab2 w → Calls Tryd.prog 10 #[Dt y m d] w (Ret (.string s) w) from fun w k => by have e := date_any y m d w k; rw [k2] at e; exact e)
    clear k1 k2
    obtain ⟨rfl, rfl, rfl⟩ := Z2.out rfl
    obtain ⟨k1, k2⟩ := H3.out rfl
    have MC := Lib.hid (show ∀ w, Calls Tryd.prog 23 #[Mo y' m' d' a' z' o'] w (Ret (.bool true) w) from fun w => by rw [← k1]; exact mayN_any y' m' d' a' z' o' w)
    have DC := Lib.hid (show ∀ w, Tab2 w → Calls Tryd.prog 14 #[Mo y' m' d' a' z' o'] w (Ret (.string s) w) from fun w k => by have e := moment_any y' m' d' a' z' o' w k; rw [k2] at e; exact e)
    clear k1 k2
    clear H1 H2 H3 Z1 Z2 Z3
    obtain ⟨⟨c0_0, c0_1, c0_2⟩, -, c0z⟩ := PD.out
    obtain ⟨⟨c1_0, c1_1, c1_2⟩, -, c1z⟩ := PT.out
    obtain ⟨⟨c2_0, c2_1, c2_2, c2_3, c2_4, c2_5⟩, -, c2z⟩ := PN.out
    go_wp2_with fail
    refine (MA.out _).mono ?_
    rintro e w8 ⟨rfl, hb⟩
    replace PD := Lib.hid (PD.out.below hb)
    replace PT := Lib.hid (PT.out.below hb)
    replace PN := Lib.hid (PN.out.below hb)
    replace B := bstep B hb
    clear hb MA
    clear c0_0 c0_1 c0_2 c0z c1_0 c1_1 c1_2 c1z c2_0 c2_1 c2_2 c2_3 c2_4 c2_5 c2z
    obtain ⟨⟨c0_0, c0_1, c0_2⟩, -, c0z⟩ := PD.out
    obtain ⟨⟨c1_0, c1_1, c1_2⟩, -, c1z⟩ := PT.out
    obtain ⟨⟨c2_0, c2_1, c2_2, c2_3, c2_4, c2_5⟩, -, c2z⟩ := PN.out
    go_wp2_with fail
    refine (DA.out _ (HT.out.below B)).mono ?_
    rintro e w9 ⟨rfl, hb⟩
    replace PD := Lib.hid (PD.out.below hb)
    replace PT := Lib.hid (PT.out.below hb)
    replace PN := Lib.hid (PN.out.below hb)
    replace B := bstep B hb
    clear hb DA
    clear c0_0 c0_1 c0_2 c0z c1_0 c1_1 c1_2 c1z c2_0 c2_1 c2_2 c2_3 c2_4 c2_5 c2z
    obtain ⟨⟨c0_0, c0_1, c0_2⟩, -, c0z⟩ := PD.out
    obtain ⟨⟨c1_0, c1_1, c1_2⟩, -, c1z⟩ := PT.out
    obtain ⟨⟨c2_0, c2_1, c2_2, c2_3, c2_4, c2_5⟩, -, c2z⟩ := PN.out
    go_wp2_with fail
    refine (MC.out _).mono ?_
    rintro e w10 ⟨rfl, hb⟩
    replace PD := Lib.hid (PD.out.below hb)
    replace PT := Lib.hid (PT.out.below hb)
    replace PN := Lib.hid (PN.out.below hb)
    replace B := bstep B hb
    clear hb MC
    clear c0_0 c0_1 c0_2 c0z c1_0 c1_1 c1_2 c1z c2_0 c2_1 c2_2 c2_3 c2_4 c2_5 c2z
    obtain ⟨⟨c0_0, c0_1, c0_2⟩, -, c0z⟩ := PD.out
    obtain ⟨⟨c1_0, c1_1, c1_2⟩, -, c1z⟩ := PT.out
    obtain ⟨⟨c2_0, c2_1, c2_2, c2_3, c2_4, c2_5⟩, -, c2z⟩ := PN.out
    go_wp2_with fail
    refine (DC.out _ (HT.out.below B)).mono ?_
    rintro e w11 ⟨rfl, hb⟩
    replace PD := Lib.hid (PD.out.below hb)
    replace PT := Lib.hid (PT.out.below hb)
    replace PN := Lib.hid (PN.out.below hb)
    replace B := bstep B hb
    clear hb DC
    clear c0_0 c0_1 c0_2 c0z c1_0 c1_1 c1_2 c1z c2_0 c2_1 c2_2 c2_3 c2_4 c2_5 c2z
    obtain ⟨⟨c0_0, c0_1, c0_2⟩, -, c0z⟩ := PD.out
    obtain ⟨⟨c1_0, c1_1, c1_2⟩, -, c1z⟩ := PT.out
    obtain ⟨⟨c2_0, c2_1, c2_2, c2_3, c2_4, c2_5⟩, -, c2z⟩ := PN.out
    go_wp2
    go_ret
    exact ⟨rfl, B⟩
  · obtain ⟨k1, k2⟩ := H1.out rfl
    have MA := Lib.hid (show ∀ w, Calls Tryd.prog 21 #[Dt y m d] w (Ret (.bool true) w) from fun w => by rw [← k1]; exact mayDay_any y m d w)
    have DA := Lib.hid (show ∀ w, Tab2 w → Calls Tryd.prog 10 #[Dt y m d] w (Ret (.string s) w) from fun w k => by have e := date_any y m d w k; rw [k2] at e; exact e)
    clear k1 k2
    obtain ⟨k1, k2⟩ := H2.out rfl
    have MB := Lib.hid (show ∀ w, Calls Tryd.prog 22 #[Tm a z o] w (Ret (.bool true) w) from fun w => by rw [← k1]; exact mayM_any a z o w)
    have DB := Lib.hid (show ∀ w, Tab2 w → Calls Tryd.prog 12 #[Tm a z o] w (Ret (.string s) w) from fun w k => by have e := time_any a z o w k; rw [k2] at e; exact e)
    clear k1 k2
    obtain ⟨rfl, rfl, rfl, rfl, rfl, rfl⟩ := Z3.out rfl
    clear H1 H2 H3 Z1 Z2 Z3
    obtain ⟨⟨c0_0, c0_1, c0_2⟩, -, c0z⟩ := PD.out
    obtain ⟨⟨c1_0, c1_1, c1_2⟩, -, c1z⟩ := PT.out
    obtain ⟨⟨c2_0, c2_1, c2_2, c2_3, c2_4, c2_5⟩, -, c2z⟩ := PN.out
    go_wp2_with fail
    refine (MA.out _).mono ?_
    rintro e w8 ⟨rfl, hb⟩
    replace PD := Lib.hid (PD.out.below hb)
    replace PT := Lib.hid (PT.out.below hb)
    replace PN := Lib.hid (PN.out.below hb)
    replace B := bstep B hb
    clear hb MA
    clear c0_0 c0_1 c0_2 c0z c1_0 c1_1 c1_2 c1z c2_0 c2_1 c2_2 c2_3 c2_4 c2_5 c2z
    obtain ⟨⟨c0_0, c0_1, c0_2⟩, -, c0z⟩ := PD.out
    obtain ⟨⟨c1_0, c1_1, c1_2⟩, -, c1z⟩ := PT.out
    obtain ⟨⟨c2_0, c2_1, c2_2, c2_3, c2_4, c2_5⟩, -, c2z⟩ := PN.out
    go_wp2_with fail
    refine (DA.out _ (HT.out.below B)).mono ?_
    rintro e w9 ⟨rfl, hb⟩
    replace PD := Lib.hid (PD.out.below hb)
    replace PT := Lib.hid (PT.out.below hb)
    replace PN := Lib.hid (PN.out.below hb)
    replace B := bstep B hb
    clear hb DA
    clear c0_0 c0_1 c0_2 c0z c1_0 c1_1 c1_2 c1z c2_0 c2_1 c2_2 c2_3 c2_4 c2_5 c2z
    obtain ⟨⟨c0_0, c0_1, c0_2⟩, -, c0z⟩ := PD.out
    obtain ⟨⟨c1_0, c1_1, c1_2⟩, -, c1z⟩ := PT.out
    obtain ⟨⟨c2_0, c2_1, c2_2, c2_3, c2_4, c2_5⟩, -, c2z⟩ := PN.out
    go_wp2_with fail
    refine (MB.out _).mono ?_
    rintro e w10 ⟨rfl, hb⟩
    replace PD := Lib.hid (PD.out.below hb)
    replace PT := Lib.hid (PT.out.below hb)
    replace PN := Lib.hid (PN.out.below hb)
    replace B := bstep B hb
    clear hb MB
    clear c0_0 c0_1 c0_2 c0z c1_0 c1_1 c1_2 c1z c2_0 c2_1 c2_2 c2_3 c2_4 c2_5 c2z
    obtain ⟨⟨c0_0, c0_1, c0_2⟩, -, c0z⟩ := PD.out
    obtain ⟨⟨c1_0, c1_1, c1_2⟩, -, c1z⟩ := PT.out
    obtain ⟨⟨c2_0, c2_1, c2_2, c2_3, c2_4, c2_5⟩, -, c2z⟩ := PN.out
    go_wp2_with fail
    refine (DB.out _ (HT.out.below B)).mono ?_
    rintro e w11 ⟨rfl, hb⟩
    replace PD := Lib.hid (PD.out.below hb)
    replace PT := Lib.hid (PT.out.below hb)
    replace PN := Lib.hid (PN.out.below hb)
    replace B := bstep B hb
    clear hb DB
    clear c0_0 c0_1 c0_2 c0z c1_0 c1_1 c1_2 c1z c2_0 c2_1 c2_2 c2_3 c2_4 c2_5 c2z
    obtain ⟨⟨c0_0, c0_1, c0_2⟩, -, c0z⟩ := PD.out
    obtain ⟨⟨c1_0, c1_1, c1_2⟩, -, c1z⟩ := PT.out
    obtain ⟨⟨c2_0, c2_1, c2_2, c2_3, c2_4, c2_5⟩, -, c2z⟩ := PN.out
    go_wp2
    go_ret
    exact ⟨rfl, B⟩
  · obtain ⟨k1, k2⟩ := H1.out rfl
    have MA := Lib.hid (show ∀ w, Calls Tryd.prog 21 #[Dt y m d] w (Ret (.bool true) w) from fun w => by rw [← k1]; exact mayDay_any y m d w)
    have DA := Lib.hid (show ∀ w, Tab2 w → Calls Tryd.prog 10 #[Dt y m d] w (Ret (.string s) w) from fun w k => by have e := date_any y m d w k; rw [k2] at e; exact e)
    clear k1 k2
    obtain ⟨k1, k2⟩ := H2.out rfl
    have MB := Lib.hid (show ∀ w, Calls Tryd.prog 22 #[Tm a z o] w (Ret (.bool true) w) from fun w => by rw [← k1]; exact mayM_any a z o w)
    have DB := Lib.hid (show ∀ w, Tab2 w → Calls Tryd.prog 12 #[Tm a z o] w (Ret (.string s) w) from fun w k => by have e := time_any a z o w k; rw [k2] at e; exact e)
    clear k1 k2
    obtain ⟨k1, k2⟩ := H3.out rfl
    have MC := Lib.hid (show ∀ w, Calls Tryd.prog 23 #[Mo y' m' d' a' z' o'] w (Ret (.bool true) w) from fun w => by rw [← k1]; exact mayN_any y' m' d' a' z' o' w)
    have DC := Lib.hid (show ∀ w, Tab2 w → Calls Tryd.prog 14 #[Mo y' m' d' a' z' o'] w (Ret (.string s) w) from fun w k => by have e := moment_any y' m' d' a' z' o' w k; rw [k2] at e; exact e)
    clear k1 k2
    clear H1 H2 H3 Z1 Z2 Z3
    obtain ⟨⟨c0_0, c0_1, c0_2⟩, -, c0z⟩ := PD.out
    obtain ⟨⟨c1_0, c1_1, c1_2⟩, -, c1z⟩ := PT.out
    obtain ⟨⟨c2_0, c2_1, c2_2, c2_3, c2_4, c2_5⟩, -, c2z⟩ := PN.out
    go_wp2_with fail
    refine (MA.out _).mono ?_
    rintro e w8 ⟨rfl, hb⟩
    replace PD := Lib.hid (PD.out.below hb)
    replace PT := Lib.hid (PT.out.below hb)
    replace PN := Lib.hid (PN.out.below hb)
    replace B := bstep B hb
    clear hb MA
    clear c0_0 c0_1 c0_2 c0z c1_0 c1_1 c1_2 c1z c2_0 c2_1 c2_2 c2_3 c2_4 c2_5 c2z
    obtain ⟨⟨c0_0, c0_1, c0_2⟩, -, c0z⟩ := PD.out
    obtain ⟨⟨c1_0, c1_1, c1_2⟩, -, c1z⟩ := PT.out
    obtain ⟨⟨c2_0, c2_1, c2_2, c2_3, c2_4, c2_5⟩, -, c2z⟩ := PN.out
    go_wp2_with fail
    refine (DA.out _ (HT.out.below B)).mono ?_
    rintro e w9 ⟨rfl, hb⟩
    replace PD := Lib.hid (PD.out.below hb)
    replace PT := Lib.hid (PT.out.below hb)
    replace PN := Lib.hid (PN.out.below hb)
    replace B := bstep B hb
    clear hb DA
    clear c0_0 c0_1 c0_2 c0z c1_0 c1_1 c1_2 c1z c2_0 c2_1 c2_2 c2_3 c2_4 c2_5 c2z
    obtain ⟨⟨c0_0, c0_1, c0_2⟩, -, c0z⟩ := PD.out
    obtain ⟨⟨c1_0, c1_1, c1_2⟩, -, c1z⟩ := PT.out
    obtain ⟨⟨c2_0, c2_1, c2_2, c2_3, c2_4, c2_5⟩, -, c2z⟩ := PN.out
    go_wp2_with fail
    refine (MB.out _).mono ?_
    rintro e w10 ⟨rfl, hb⟩
    replace PD := Lib.hid (PD.out.below hb)
    replace PT := Lib.hid (PT.out.below hb)
    replace PN := Lib.hid (PN.out.below hb)
    replace B := bstep B hb
    clear hb MB
    clear c0_0 c0_1 c0_2 c0z c1_0 c1_1 c1_2 c1z c2_0 c2_1 c2_2 c2_3 c2_4 c2_5 c2z
    obtain ⟨⟨c0_0, c0_1, c0_2⟩, -, c0z⟩ := PD.out
    obtain ⟨⟨c1_0, c1_1, c1_2⟩, -, c1z⟩ := PT.out
    obtain ⟨⟨c2_0, c2_1, c2_2, c2_3, c2_4, c2_5⟩, -, c2z⟩ := PN.out
    go_wp2_with fail
    refine (DB.out _ (HT.out.below B)).mono ?_
    rintro e w11 ⟨rfl, hb⟩
    replace PD := Lib.hid (PD.out.below hb)
    replace PT := Lib.hid (PT.out.below hb)
    replace PN := Lib.hid (PN.out.below hb)
    replace B := bstep B hb
    clear hb DB
    clear c0_0 c0_1 c0_2 c0z c1_0 c1_1 c1_2 c1z c2_0 c2_1 c2_2 c2_3 c2_4 c2_5 c2z
    obtain ⟨⟨c0_0, c0_1, c0_2⟩, -, c0z⟩ := PD.out
    obtain ⟨⟨c1_0, c1_1, c1_2⟩, -, c1z⟩ := PT.out
    obtain ⟨⟨c2_0, c2_1, c2_2, c2_3, c2_4, c2_5⟩, -, c2z⟩ := PN.out
    go_wp2_with fail
    refine (MC.out _).mono ?_
    rintro e w12 ⟨rfl, hb⟩
    replace PD := Lib.hid (PD.out.below hb)
    replace PT := Lib.hid (PT.out.below hb)
    replace PN := Lib.hid (PN.out.below hb)
    replace B := bstep B hb
    clear hb MC
    clear c0_0 c0_1 c0_2 c0z c1_0 c1_1 c1_2 c1z c2_0 c2_1 c2_2 c2_3 c2_4 c2_5 c2z
    obtain ⟨⟨c0_0, c0_1, c0_2⟩, -, c0z⟩ := PD.out
    obtain ⟨⟨c1_0, c1_1, c1_2⟩, -, c1z⟩ := PT.out
    obtain ⟨⟨c2_0, c2_1, c2_2, c2_3, c2_4, c2_5⟩, -, c2z⟩ := PN.out
    go_wp2_with fail
    refine (DC.out _ (HT.out.below B)).mono ?_
    rintro e w13 ⟨rfl, hb⟩
    replace PD := Lib.hid (PD.out.below hb)
    replace PT := Lib.hid (PT.out.below hb)
    replace PN := Lib.hid (PN.out.below hb)
    replace B := bstep B hb
    clear hb DC
    clear c0_0 c0_1 c0_2 c0z c1_0 c1_1 c1_2 c1z c2_0 c2_1 c2_2 c2_3 c2_4 c2_5 c2z
    obtain ⟨⟨c0_0, c0_1, c0_2⟩, -, c0z⟩ := PD.out
    obtain ⟨⟨c1_0, c1_1, c1_2⟩, -, c1z⟩ := PT.out
    obtain ⟨⟨c2_0, c2_1, c2_2, c2_3, c2_4, c2_5⟩, -, c2z⟩ := PN.out
    go_wp2
    go_ret
    exact ⟨rfl, B⟩
end Go.Proofs.YthgondbiddncpaaDoor

/-
  The statement DecRing, walked: it answers true, where the document's examples do.
-/
import Derived.Test.YteboohejlkionaaDoorE9
import Derived.Test.YteboohejlkionaaDoorEm
import Derived.Test.YteboohejlkionaaDoorAc
import Derived.Deep.RegionHeld3
namespace Go.Proofs.YteboohejlkionaaDoor
open Go.RowKit

set_option maxRecDepth 100000 in
set_option maxHeartbeats 8000000 in
theorem decRing_walk0 (AW : AwC) (AD : AddC) (n : Bool) (h l : Nat) (x : Int) (n' : Bool) (h' l' : Nat) (x' : Int) (h0 : WW h l) (x1 : -9223372036854775808 ≤ x) (x2 : x ≤ 9223372036854775807) (h0' : WW h' l') (x1' : -9223372036854775808 ≤ x') (x2' : x' ≤ 9223372036854775807) (w : World) (ht : Tab w) :
    Calls Tryd.prog 4 #[Dv n h l x, Dv n' h' l' x'] w (RetB true w) := by
  have HT := Lib.hid ht
  have AWH := Lib.hid AW
  have ADH := Lib.hid AD
  have M1 := Lib.hid (make_any n h l x h0 x1 x2)
  have M2 := Lib.hid (make_any n' h' l' x' h0' x1' x2')
  clear ht AW AD h0 h0' x1 x2 x1' x2'
  go_enter Tryd.func4, Tryd.ntmps4
  go_wp2_with fail
  refine (AWH.out _ (HT.out.below (by go_grown))).mono ?_
  rintro e w1 ⟨rfl, hb1⟩
  have A0 := Lib.hid (HoldsD.below (by simp [HoldsD, go_sem]) hb1 : HoldsD w1 w.heap.size n h l x)
  have A1 := Lib.hid (HoldsD.below (by simp [HoldsD, go_sem]) hb1 : HoldsD w1 (w.heap.size + 1) n' h' l' x')
  have B1 : Below w.heap.size w w1 := bstep (by go_grown) hb1
  clear hb1 AWH
  go_upto_region 3 with fail
  obtain ⟨⟨a1, a2, a3, a4⟩, -, a9⟩ := A0.out
  obtain ⟨⟨b1, b2, b3, b4⟩, -, b9⟩ := A1.out
  go_cut [5, 6] (fun p q W => ∃ (g k : Nat) (na : Bool) (ah al : Nat) (ea : Int) (nb : Bool) (bh bl : Nat) (eb : Int), p = .pointer (some ⟨g, 0, none⟩) ∧ q = .pointer (some ⟨k, 0, none⟩) ∧ NumOk na ah al ea ∧ NumOk nb bh bl eb ∧ HoldsD W g na ah al ea ∧ HoldsD W k nb bh bl eb ∧ Below w.heap.size w W)
  case first =>
    go_region_held3 (fun w' => w'.cell? ⟨w.heap.size, 0, none⟩ = some (.bool n) ∧ w'.cell? ⟨w.heap.size, 1, none⟩ = some (.int .u64 (h : Int)) ∧ w'.cell? ⟨w.heap.size, 2, none⟩ = some (.int .u64 (l : Int)) ∧ w'.cell? ⟨w.heap.size, 3, none⟩ = some (.int .i64 x) ∧ w'.cell? ⟨w.heap.size + 1, 0, none⟩ = some (.bool n') ∧ w'.cell? ⟨w.heap.size + 1, 1, none⟩ = some (.int .u64 (h' : Int)) ∧ w'.cell? ⟨w.heap.size + 1, 2, none⟩ = some (.int .u64 (l' : Int)) ∧ w'.cell? ⟨w.heap.size + 1, 3, none⟩ = some (.int .i64 x'))
      (repeat' (first | (with_reducible assumption) | (with_reducible refine keep44a ?_) | (with_reducible refine keep44d ?_) | (with_reducible refine keep44s ?_ ?_ ?_) | (with_reducible exact ⟨a1, a2, a3, a4, b1, b2, b3, b4⟩) | (with_reducible refine keep44 (by with_reducible assumption) ?_) | (show _ ≠ _; (try dsimp only); omega)))
      (first
        | (go_at_call 14; (with_reducible refine (M1.out _ ?_).mono ?_); (exact HT.out.below (by repeat' (first | (with_reducible exact B1) | (with_reducible refine Below.drew ?_) | (with_reducible refine ballD1 ?_ _) | (with_reducible refine bstep ?_ (by with_reducible assumption))))); rintro e wM1 ⟨nM1, hM1, lM1, xM1, NM1, rfl, hbM1⟩; obtain ⟨hcM1, hfM1⟩ := bcell hbM1; have szM1 := hbM1.size; (try simp only [World.size_alloc, World.size_drew] at szM1); (try (have : w1.heap.size < wM1.heap.size := (by omega))); (try (have : w1.heap.size + 1 < wM1.heap.size := (by omega))); (try (have : w1.heap.size < wM1.heap.size + 1 := (by omega))))
        | (go_at_call 14; (with_reducible refine (M2.out _ ?_).mono ?_); (exact HT.out.below (by repeat' (first | (with_reducible exact B1) | (with_reducible refine Below.drew ?_) | (with_reducible refine ballD1 ?_ _) | (with_reducible refine bstep ?_ (by with_reducible assumption))))); rintro e wM2 ⟨nM2, hM2, lM2, xM2, NM2, rfl, hbM2⟩; obtain ⟨hcM2, hfM2⟩ := bcell hbM2; have szM2 := hbM2.size; (try simp only [World.size_alloc] at szM2); (try (have : w1.heap.size < wM2.heap.size := (by omega))); (try (have : w1.heap.size + 1 < wM2.heap.size := (by omega))); (try (have : wM1.heap.size < wM2.heap.size := (by omega))); (try (have : wM1.heap.size + 1 < wM2.heap.size := (by omega))); (try (have : w1.heap.size < wM2.heap.size + 1 := (by omega))); (try (have : wM1.heap.size < wM2.heap.size + 1 := (by omega)))))
    all_goals
      go_wp2
      go_meet
      case rel =>
        refine ⟨_, _, nM1, hM1, lM1, xM1, nM2, hM2, lM2, xM2, rfl, rfl, NM1, NM2, ?_, ?_, ?_⟩
        · clear a1 a2 a3 a4 b1 b2 b3 b4 A0 A1 hcM1 hfM1 hcM2 hfM2
          repeat' (first | (with_reducible refine HoldsD.put4 (a := false) (b := 0) (c := 0) (d := 0) ?_) | (with_reducible refine HoldsD.far ?_ ?_ _) | ((with_reducible refine HoldsD.new4 ?_); (first | rfl | (simp; done))) | ((with_reducible refine HoldsD.zero4 ?_); (first | rfl | (simp; done))) | (with_reducible refine HoldsD.alloc ?_ _) | (with_reducible refine HoldsD.drew2 ?_) | (with_reducible refine HoldsD.below ?_ (by with_reducible assumption)) | (show _ ≠ _; (try dsimp only); omega))
        · clear a1 a2 a3 a4 b1 b2 b3 b4 A0 A1 hcM1 hfM1 hcM2 hfM2
          repeat' (first | (with_reducible refine HoldsD.put4 (a := false) (b := 0) (c := 0) (d := 0) ?_) | (with_reducible refine HoldsD.far ?_ ?_ _) | ((with_reducible refine HoldsD.new4 ?_); (first | rfl | (simp; done))) | ((with_reducible refine HoldsD.zero4 ?_); (first | rfl | (simp; done))) | (with_reducible refine HoldsD.alloc ?_ _) | (with_reducible refine HoldsD.drew2 ?_) | (with_reducible refine HoldsD.below ?_ (by with_reducible assumption)) | (show _ ≠ _; (try dsimp only); omega))
        · clear hcM1 hfM1 hcM2 hfM2
          repeat' (first | (with_reducible exact B1) | (with_reducible refine Below.drew ?_) | (with_reducible refine ballD1 ?_ _) | (with_reducible refine Below.set1' ?_ _ _ ?_ _) | (with_reducible refine bstep ?_ (by with_reducible assumption)) | omega)
  case rest =>
  obtain ⟨g, k, na, ah, al, ea, nb, bh, bl, eb, rfl, rfl, N1, N2, P5, P6, B2⟩ := hcut
  clear a1 a2 a3 a4 a9 b1 b2 b3 b4 b9 A0 A1 B1 M1 M2
  replace P5 := Lib.hid P5
  replace P6 := Lib.hid P6
  have AB := Lib.hid (ADH.out na ah al ea nb bh bl eb N1.1 N2.1 N1.2.1 N2.2.1)
  have BA := Lib.hid (ADH.out nb bh bl eb na ah al ea N2.1 N1.1 N2.2.1 N1.2.1)
  rw [addF_comm N2.2.2 N1.2.2] at BA
  have MA := Lib.hid (mulD_any na ah al ea nb bh bl eb N1.1 N2.1 N1.2.1.2.1 N1.2.1.2.2 N2.2.1.2.1 N2.2.1.2.2)
  have MB := Lib.hid (mulD_any nb bh bl eb na ah al ea N2.1 N1.1 N2.2.1.2.1 N2.2.1.2.2 N1.2.1.2.1 N1.2.1.2.2)
  rw [mulF_comm] at MB
  obtain ⟨o, ho⟩ : ∃ o, o = addF na (nv ah al) ea nb (nv bh bl) eb := ⟨_, rfl⟩
  obtain ⟨p, hp⟩ : ∃ o, o = mulF na (nv ah al) ea nb (nv bh bl) eb := ⟨_, rfl⟩
  rw [← ho] at AB BA
  rw [← hp] at MA MB
  have HO := Lib.hid ho
  have HP := Lib.hid hp
  have HN1 := Lib.hid N1
  have HN2 := Lib.hid N2
  clear ho hp N1 N2
  generalize wc = V at *
  obtain ⟨⟨a1, a2, a3, a4⟩, -, a9⟩ := P5.out
  obtain ⟨⟨b1, b2, b3, b4⟩, -, b9⟩ := P6.out
  go_wp2_with fail
  refine (AB.out _ (HT.out.below B2)).mono ?_
  rintro e y0 ⟨ns, hs, ls, xs, ks, N, rfl, hb⟩
  clear a1 a2 a3 a4 a9 b1 b2 b3 b4 b9 AB
  have Ns := Lib.hid N
  clear N
  replace P5 := Lib.hid ((P5.out.below hb).alloc (.cells #[.bool ns, .int .u64 (hs : Int), .int .u64 (ls : Int), .int .i64 xs] 28))
  replace P6 := Lib.hid ((P6.out.below hb).alloc (.cells #[.bool ns, .int .u64 (hs : Int), .int .u64 (ls : Int), .int .i64 xs] 28))
  replace B2 := ballD1 (bstep B2 hb) (.cells #[.bool ns, .int .u64 (hs : Int), .int .u64 (ls : Int), .int .i64 xs] 28)
  have P7 := Lib.hid (HoldsD.new4 rfl : HoldsD (y0.alloc (.cells #[.bool ns, .int .u64 (hs : Int), .int .u64 (ls : Int), .int .i64 xs] 28)) y0.heap.size ns hs ls xs)
  clear hb
  go_upto_region 5 with fail
  obtain ⟨g7, hg⟩ : ∃ g, g = y0.heap.size := ⟨_, rfl⟩
  rw [← hg] at P7
  rw [← hg]
  generalize y0.alloc (.cells #[.bool ns, .int .u64 (hs : Int), .int .u64 (ls : Int), .int .i64 xs] 28) = V1 at *
  clear hg
  obtain ⟨⟨a1, a2, a3, a4⟩, -, a9⟩ := P5.out
  obtain ⟨⟨b1, b2, b3, b4⟩, -, b9⟩ := P6.out
  go_wp2_with fail
  refine (BA.out _ (HT.out.below B2)).mono ?_
  rintro e y1 ⟨nt, ht, lt, xt, kt, N, rfl, hb⟩
  clear a1 a2 a3 a4 a9 b1 b2 b3 b4 b9 BA
  obtain ⟨rfl, rfl, rfl, rfl, rfl⟩ := numO_inj Ns.out N
  clear N
  replace P5 := Lib.hid ((P5.out.below hb).alloc (.cells #[.bool ns, .int .u64 (hs : Int), .int .u64 (ls : Int), .int .i64 xs] 28))
  replace P6 := Lib.hid ((P6.out.below hb).alloc (.cells #[.bool ns, .int .u64 (hs : Int), .int .u64 (ls : Int), .int .i64 xs] 28))
  replace P7 := Lib.hid ((P7.out.below hb).alloc (.cells #[.bool ns, .int .u64 (hs : Int), .int .u64 (ls : Int), .int .i64 xs] 28))
  replace B2 := ballD1 (bstep B2 hb) (.cells #[.bool ns, .int .u64 (hs : Int), .int .u64 (ls : Int), .int .i64 xs] 28)
  have P9 := Lib.hid (HoldsD.new4 rfl : HoldsD (y1.alloc (.cells #[.bool ns, .int .u64 (hs : Int), .int .u64 (ls : Int), .int .i64 xs] 28)) y1.heap.size ns hs ls xs)
  clear hb
  go_upto_region 6 with fail
  obtain ⟨g9, hg⟩ : ∃ g, g = y1.heap.size := ⟨_, rfl⟩
  rw [← hg] at P9
  rw [← hg]
  generalize y1.alloc (.cells #[.bool ns, .int .u64 (hs : Int), .int .u64 (ls : Int), .int .i64 xs] 28) = V2 at *
  clear hg
  obtain ⟨⟨a1, a2, a3, a4⟩, -, a9⟩ := P5.out
  obtain ⟨⟨b1, b2, b3, b4⟩, -, b9⟩ := P6.out
  go_wp2_with fail
  refine (MA.out _ (HT.out.below B2)).mono ?_
  rintro e y2 ⟨nm, hm, lm, xm, km, N, rfl, hb⟩
  clear a1 a2 a3 a4 a9 b1 b2 b3 b4 b9 MA
  have Nm := Lib.hid N
  clear N
  replace P5 := Lib.hid ((P5.out.below hb).alloc (.cells #[.bool nm, .int .u64 (hm : Int), .int .u64 (lm : Int), .int .i64 xm] 28))
  replace P6 := Lib.hid ((P6.out.below hb).alloc (.cells #[.bool nm, .int .u64 (hm : Int), .int .u64 (lm : Int), .int .i64 xm] 28))
  replace P7 := Lib.hid ((P7.out.below hb).alloc (.cells #[.bool nm, .int .u64 (hm : Int), .int .u64 (lm : Int), .int .i64 xm] 28))
  replace P9 := Lib.hid ((P9.out.below hb).alloc (.cells #[.bool nm, .int .u64 (hm : Int), .int .u64 (lm : Int), .int .i64 xm] 28))
  replace B2 := ballD1 (bstep B2 hb) (.cells #[.bool nm, .int .u64 (hm : Int), .int .u64 (lm : Int), .int .i64 xm] 28)
  have P11 := Lib.hid (HoldsD.new4 rfl : HoldsD (y2.alloc (.cells #[.bool nm, .int .u64 (hm : Int), .int .u64 (lm : Int), .int .i64 xm] 28)) y2.heap.size nm hm lm xm)
  clear hb
  go_upto_region 7 with fail
  obtain ⟨g11, hg⟩ : ∃ g, g = y2.heap.size := ⟨_, rfl⟩
  rw [← hg] at P11
  rw [← hg]
  generalize y2.alloc (.cells #[.bool nm, .int .u64 (hm : Int), .int .u64 (lm : Int), .int .i64 xm] 28) = V3 at *
  clear hg
  obtain ⟨⟨a1, a2, a3, a4⟩, -, a9⟩ := P5.out
  obtain ⟨⟨b1, b2, b3, b4⟩, -, b9⟩ := P6.out
  go_wp2_with fail
  refine (MB.out _ (HT.out.below B2)).mono ?_
  rintro e y3 ⟨nq, hq, lq, xq, kq, N, rfl, hb⟩
  clear a1 a2 a3 a4 a9 b1 b2 b3 b4 b9 MB
  obtain ⟨rfl, rfl, rfl, rfl, rfl⟩ := numO_inj Nm.out N
  clear N
  replace P5 := Lib.hid ((P5.out.below hb).alloc (.cells #[.bool nm, .int .u64 (hm : Int), .int .u64 (lm : Int), .int .i64 xm] 28))
  replace P6 := Lib.hid ((P6.out.below hb).alloc (.cells #[.bool nm, .int .u64 (hm : Int), .int .u64 (lm : Int), .int .i64 xm] 28))
  replace P7 := Lib.hid ((P7.out.below hb).alloc (.cells #[.bool nm, .int .u64 (hm : Int), .int .u64 (lm : Int), .int .i64 xm] 28))
  replace P9 := Lib.hid ((P9.out.below hb).alloc (.cells #[.bool nm, .int .u64 (hm : Int), .int .u64 (lm : Int), .int .i64 xm] 28))
  replace P11 := Lib.hid ((P11.out.below hb).alloc (.cells #[.bool nm, .int .u64 (hm : Int), .int .u64 (lm : Int), .int .i64 xm] 28))
  replace B2 := ballD1 (bstep B2 hb) (.cells #[.bool nm, .int .u64 (hm : Int), .int .u64 (lm : Int), .int .i64 xm] 28)
  have P13 := Lib.hid (HoldsD.new4 rfl : HoldsD (y3.alloc (.cells #[.bool nm, .int .u64 (hm : Int), .int .u64 (lm : Int), .int .i64 xm] 28)) y3.heap.size nm hm lm xm)
  clear hb
  go_upto_region 8 with fail
  obtain ⟨g13, hg⟩ : ∃ g, g = y3.heap.size := ⟨_, rfl⟩
  rw [← hg] at P13
  rw [← hg]
  generalize y3.alloc (.cells #[.bool nm, .int .u64 (hm : Int), .int .u64 (lm : Int), .int .i64 xm] 28) = V4 at *
  clear hg
  obtain ⟨sg, hsg⟩ : ∃ sg, sg = (!na && !decide (nv ah al = 0)) := ⟨_, rfl⟩
  have NG := Lib.hid (neg_any na ah al ea)
  rw [← hsg] at NG
  have AN := Lib.hid (ADH.out na ah al ea sg ah al ea HN1.out.1 HN1.out.1 HN1.out.2.1 HN1.out.2.1)
  obtain ⟨yz, hyz⟩ := addF_neg HN1.out.2.1 HN1.out.2.2
  rw [hsg, hyz, ← hsg] at AN
  clear hyz hsg
  obtain ⟨⟨a1, a2, a3, a4⟩, -, a9⟩ := P5.out
  have z0 : g < V4.heap.size + 1 := by omega
  go_cut [15, 16] (fun p q W => ∃ (g15 : Nat), p = .pointer (some ⟨g15, 0, none⟩) ∧ q = .bool true ∧ HoldsD W g15 false 0 0 yz ∧ Below V4.heap.size V4 W)
  case first =>
    go_region_held3 (fun w' => w'.cell? ⟨g, 0, none⟩ = some (.bool na) ∧ w'.cell? ⟨g, 1, none⟩ = some (.int .u64 (ah : Int)) ∧ w'.cell? ⟨g, 2, none⟩ = some (.int .u64 (al : Int)) ∧ w'.cell? ⟨g, 3, none⟩ = some (.int .i64 ea))
      (repeat' (first | (with_reducible assumption) | (with_reducible refine keep4a ?_) | (with_reducible refine keep4d ?_) | (with_reducible refine keep4s ?_ ?_) | (with_reducible exact ⟨a1, a2, a3, a4⟩) | (with_reducible refine keep4 (by with_reducible assumption) ?_) | (show _ ≠ _; (try dsimp only); omega)))
      (first
        | (go_at_call 19; (with_reducible refine (NG.out _).mono ?_); rintro e wN ⟨nN, hN, lN, xN, ⟨rfl, rfl, rfl, rfl⟩, rfl, hbN⟩; obtain ⟨hcN, hfN⟩ := bcell hbN; have szN := hbN.size; (try simp only [World.size_alloc, World.size_drew] at szN); (try (have : V4.heap.size < wN.heap.size := (by omega))))
        | (go_at_call 24; (with_reducible refine (AN.out _ ?_).mono ?_); (exact HT.out.below (by repeat' (first | (with_reducible exact B2) | (with_reducible refine Below.drew ?_) | (with_reducible refine ballD1 ?_ _) | (with_reducible refine bstep ?_ (by with_reducible assumption))))); rintro e wA ⟨nA, hA, lA, xA, kA, NA, rfl, hbA⟩; obtain ⟨nA1, rfl, rfl, nA2, rfl⟩ := NA; obtain ⟨hcA, hfA⟩ := bcell hbA; have szA := hbA.size; (try simp only [World.size_alloc] at szA); (try (have : V4.heap.size < wA.heap.size := (by omega))); (try (have : wN.heap.size < wA.heap.size := (by omega)))))
    all_goals
      go_wp2
      go_meet
      case rel =>
        obtain ⟨rfl, rfl⟩ : hA = 0 ∧ lA = 0 := by unfold nv at nA2; omega
        refine ⟨_, rfl, rfl, ?_, ?_⟩
        · clear a1 a2 a3 a4 hcN hfN hcA hfA
          repeat' (first | (with_reducible refine HoldsD.put4 (a := false) (b := 0) (c := 0) (d := 0) ?_) | (with_reducible refine HoldsD.far ?_ ?_ _) | ((with_reducible refine HoldsD.new4 ?_); (first | rfl | (simp; done))) | ((with_reducible refine HoldsD.zero4 ?_); (first | rfl | (simp; done))) | (with_reducible refine HoldsD.alloc ?_ _) | (with_reducible refine HoldsD.drew2 ?_) | (with_reducible refine HoldsD.below ?_ (by with_reducible assumption)) | (show _ ≠ _; (try dsimp only); omega))
        · clear a1 a2 a3 a4 hcN hfN hcA hfA
          repeat' (first | (with_reducible exact Below.refl _ _) | (with_reducible refine Below.drew ?_) | (with_reducible refine ballD1 ?_ _) | (with_reducible refine Below.set1' ?_ _ _ ?_ _) | (with_reducible refine bstep ?_ (by with_reducible assumption)) | omega)
  case rest =>
  obtain ⟨g15, rfl, rfl, P15, hb⟩ := hcut
  replace P15 := Lib.hid P15
  replace P5 := Lib.hid (P5.out.below hb)
  replace P7 := Lib.hid (P7.out.below hb)
  replace P9 := Lib.hid (P9.out.below hb)
  replace P11 := Lib.hid (P11.out.below hb)
  replace P13 := Lib.hid (P13.out.below hb)
  replace B2 := bstep B2 hb
  clear hb P6 a1 a2 a3 a4 a9 z0 AN NG
  generalize wc = V5 at *
  have IN := Lib.hid (int_yes 1 (by decide))
  have MO := Lib.hid (mulD_any na ah al ea false 0 1 0 HN1.out.1 ⟨by decide, by decide⟩ HN1.out.2.1.2.1 HN1.out.2.1.2.2 (by decide) (by decide))
  rw [show nv 0 1 = 1 from rfl, mulF_one HN1.out.2.1 HN1.out.2.2] at MO
  go_upto_region 9 with fail
  obtain ⟨⟨a1, a2, a3, a4⟩, -, a9⟩ := P5.out
  have z0 : g < V5.heap.size + 1 := by omega
  go_cut [17, 18] (fun p q W => ∃ (g17 : Nat), p = .pointer (some ⟨g17, 0, none⟩) ∧ q = .bool true ∧ HoldsD W g17 na ah al ea ∧ Below V5.heap.size V5 W)
  case first =>
    go_region_held3 (fun w' => w'.cell? ⟨g, 0, none⟩ = some (.bool na) ∧ w'.cell? ⟨g, 1, none⟩ = some (.int .u64 (ah : Int)) ∧ w'.cell? ⟨g, 2, none⟩ = some (.int .u64 (al : Int)) ∧ w'.cell? ⟨g, 3, none⟩ = some (.int .i64 ea))
      (repeat' (first | (with_reducible assumption) | (with_reducible refine keep4a ?_) | (with_reducible refine keep4d ?_) | (with_reducible refine keep4s ?_ ?_) | (with_reducible exact ⟨a1, a2, a3, a4⟩) | (with_reducible refine keep4 (by with_reducible assumption) ?_) | (show _ ≠ _; (try dsimp only); omega)))
      (first
        | (go_at_call 12; (refine (IN.out _).mono ?_); rintro e wN ⟨nN, hN, lN, xN, ⟨rfl, rfl, rfl, rfl⟩, rfl, hbN⟩; obtain ⟨hcN, hfN⟩ := bcell hbN; have szN := hbN.size; (try simp only [World.size_alloc, World.size_drew] at szN); (try (have : V5.heap.size < wN.heap.size := (by omega))))
        | (go_at_call 25; (refine (MO.out _ ?_).mono ?_); (exact HT.out.below (by repeat' (first | (with_reducible exact B2) | (with_reducible refine Below.drew ?_) | (with_reducible refine ballD1 ?_ _) | (with_reducible refine bstep ?_ (by with_reducible assumption))))); rintro e wA ⟨nA, hA, lA, xA, kA, NA, rfl, hbA⟩; obtain ⟨nA1, rfl, rfl, nA2, rfl⟩ := NA; obtain ⟨hcA, hfA⟩ := bcell hbA; have szA := hbA.size; (try simp only [World.size_alloc] at szA); (try (have : V5.heap.size < wA.heap.size := (by omega))); (try (have : wN.heap.size < wA.heap.size := (by omega)))))
    all_goals
      go_wp2
      go_meet
      case rel =>
        obtain ⟨rfl, rfl⟩ := nv_inj nA1 HN1.out.1 nA2
        refine ⟨_, rfl, rfl, ?_, ?_⟩
        · clear a1 a2 a3 a4 hcN hfN hcA hfA
          repeat' (first | (with_reducible refine HoldsD.put4 (a := false) (b := 0) (c := 0) (d := 0) ?_) | (with_reducible refine HoldsD.far ?_ ?_ _) | ((with_reducible refine HoldsD.new4 ?_); (first | rfl | (simp; done))) | ((with_reducible refine HoldsD.zero4 ?_); (first | rfl | (simp; done))) | (with_reducible refine HoldsD.alloc ?_ _) | (with_reducible refine HoldsD.drew2 ?_) | (with_reducible refine HoldsD.below ?_ (by with_reducible assumption)) | (show _ ≠ _; (try dsimp only); omega))
        · clear a1 a2 a3 a4 hcN hfN hcA hfA
          repeat' (first | (with_reducible exact Below.refl _ _) | (with_reducible refine Below.drew ?_) | (with_reducible refine ballD1 ?_ _) | (with_reducible refine Below.set1' ?_ _ _ ?_ _) | (with_reducible refine bstep ?_ (by with_reducible assumption)) | omega)
  case rest =>
  obtain ⟨g17, rfl, rfl, P17, hb⟩ := hcut
  replace P17 := Lib.hid P17
  replace P5 := Lib.hid (P5.out.below hb)
  replace P7 := Lib.hid (P7.out.below hb)
  replace P9 := Lib.hid (P9.out.below hb)
  replace P11 := Lib.hid (P11.out.below hb)
  replace P13 := Lib.hid (P13.out.below hb)
  replace P15 := Lib.hid (P15.out.below hb)
  replace B2 := bstep B2 hb
  clear hb a1 a2 a3 a4 a9 z0 MO IN
  generalize wc = V6 at *
  go_upto_region 10 with fail
  have ZZ0 := zeroD_any false 0 0 yz
  rw [decide_eq_true (show nv 0 0 = 0 from rfl)] at ZZ0
  have ZZ := Lib.hid ZZ0
  clear ZZ0 ADH
  rcases o with _ | ⟨os, oc, oe⟩
  · obtain ⟨-, rfl, -⟩ := Ns.out
    rcases p with _ | ⟨ps, pc, pe⟩
    · obtain ⟨-, rfl, -⟩ := Nm.out
      clear Ns Nm HO HP HN1 HN2
      obtain ⟨⟨a1, a2, a3, a4⟩, -, a9⟩ := P7.out
      obtain ⟨⟨b1, b2, b3, b4⟩, -, b9⟩ := P9.out
      obtain ⟨⟨c1, c2, c3, c4⟩, -, c9⟩ := P11.out
      obtain ⟨⟨d1, d2, d3, d4⟩, -, d9⟩ := P13.out
      obtain ⟨⟨f1, f2, f3, f4⟩, -, f9⟩ := P15.out
      go_wp2_with fail
      refine (ZZ.out _).mono ?_
      rintro e u1 ⟨rfl, hb⟩
      replace P5 := Lib.hid (P5.out.below hb)
      replace P7 := Lib.hid (P7.out.below hb)
      replace P11 := Lib.hid (P11.out.below hb)
      replace P17 := Lib.hid (P17.out.below hb)
      replace B2 := bstep B2 hb
      clear hb a1 a2 a3 a4 a9 b1 b2 b3 b4 b9 c1 c2 c3 c4 c9 d1 d2 d3 d4 d9 f1 f2 f3 f4 f9 P9 P13 P15
      obtain ⟨⟨a1, a2, a3, a4⟩, -, a9⟩ := P17.out
      obtain ⟨⟨b1, b2, b3, b4⟩, -, b9⟩ := P5.out
      obtain ⟨⟨c1, c2, c3, c4⟩, -, c9⟩ := P7.out
      obtain ⟨⟨d1, d2, d3, d4⟩, -, d9⟩ := P11.out
      go_wp2
      go_ret
      exact ⟨rfl, B2⟩
    · obtain ⟨um, rfl, rfl, qm, rfl⟩ := Nm.out
      subst qm
      have MM := Lib.hid (may_any nm hm lm xm um)
      rw [(fitF_may HP.out.symm (mul_lt_B256 (nv_lt HN1.out.1) (nv_lt HN2.out.1))).1] at MM
      clear Ns Nm HO HP HN1 HN2 um
      obtain ⟨⟨a1, a2, a3, a4⟩, -, a9⟩ := P7.out
      obtain ⟨⟨b1, b2, b3, b4⟩, -, b9⟩ := P9.out
      obtain ⟨⟨c1, c2, c3, c4⟩, -, c9⟩ := P11.out
      obtain ⟨⟨d1, d2, d3, d4⟩, -, d9⟩ := P13.out
      obtain ⟨⟨f1, f2, f3, f4⟩, -, f9⟩ := P15.out
      go_wp2_with fail
      refine (ZZ.out _).mono ?_
      rintro e u1 ⟨rfl, hb⟩
      replace P5 := Lib.hid (P5.out.below hb)
      replace P7 := Lib.hid (P7.out.below hb)
      replace P11 := Lib.hid (P11.out.below hb)
      replace P17 := Lib.hid (P17.out.below hb)
      replace B2 := bstep B2 hb
      clear hb a1 a2 a3 a4 a9 b1 b2 b3 b4 b9 c1 c2 c3 c4 c9 d1 d2 d3 d4 d9 f1 f2 f3 f4 f9 P9 P13 P15
      obtain ⟨⟨a1, a2, a3, a4⟩, -, a9⟩ := P17.out
      obtain ⟨⟨b1, b2, b3, b4⟩, -, b9⟩ := P5.out
      obtain ⟨⟨c1, c2, c3, c4⟩, -, c9⟩ := P7.out
      obtain ⟨⟨d1, d2, d3, d4⟩, -, d9⟩ := P11.out
      go_wp2_with fail
      refine (MM.out _ (HT.out.below B2)).mono ?_
      rintro e u3 ⟨rfl, hb⟩
      replace B2 := bstep B2 hb
      clear hb
      go_wp2
      go_ret
      exact ⟨rfl, B2⟩
  · obtain ⟨us, rfl, rfl, qs, rfl⟩ := Ns.out
    subst qs
    have MS := Lib.hid (may_any ns hs ls xs us)
    rw [(fitF_may HO.out.symm (sumF_bound HN1.out.2.1.1 HN2.out.2.1.1)).1] at MS
    rcases p with _ | ⟨ps, pc, pe⟩
    · obtain ⟨-, rfl, -⟩ := Nm.out
      clear Ns Nm HO HP HN1 HN2 us
      obtain ⟨⟨a1, a2, a3, a4⟩, -, a9⟩ := P7.out
      obtain ⟨⟨b1, b2, b3, b4⟩, -, b9⟩ := P9.out
      obtain ⟨⟨c1, c2, c3, c4⟩, -, c9⟩ := P11.out
      obtain ⟨⟨d1, d2, d3, d4⟩, -, d9⟩ := P13.out
      obtain ⟨⟨f1, f2, f3, f4⟩, -, f9⟩ := P15.out
      go_wp2_with fail
      refine (ZZ.out _).mono ?_
      rintro e u1 ⟨rfl, hb⟩
      replace P5 := Lib.hid (P5.out.below hb)
      replace P7 := Lib.hid (P7.out.below hb)
      replace P11 := Lib.hid (P11.out.below hb)
      replace P17 := Lib.hid (P17.out.below hb)
      replace B2 := bstep B2 hb
      clear hb a1 a2 a3 a4 a9 b1 b2 b3 b4 b9 c1 c2 c3 c4 c9 d1 d2 d3 d4 d9 f1 f2 f3 f4 f9 P9 P13 P15
      obtain ⟨⟨a1, a2, a3, a4⟩, -, a9⟩ := P17.out
      obtain ⟨⟨b1, b2, b3, b4⟩, -, b9⟩ := P5.out
      obtain ⟨⟨c1, c2, c3, c4⟩, -, c9⟩ := P7.out
      obtain ⟨⟨d1, d2, d3, d4⟩, -, d9⟩ := P11.out
      go_wp2_with fail
      refine (MS.out _ (HT.out.below B2)).mono ?_
      rintro e u2 ⟨rfl, hb⟩
      replace P11 := Lib.hid (P11.out.below hb)
      replace B2 := bstep B2 hb
      clear hb a1 a2 a3 a4 a9 b1 b2 b3 b4 b9 c1 c2 c3 c4 c9 d1 d2 d3 d4 d9 P17 P5 P7
      obtain ⟨⟨d1, d2, d3, d4⟩, -, d9⟩ := P11.out
      go_wp2
      go_ret
      exact ⟨rfl, B2⟩
    · obtain ⟨um, rfl, rfl, qm, rfl⟩ := Nm.out
      subst qm
      have MM := Lib.hid (may_any nm hm lm xm um)
      rw [(fitF_may HP.out.symm (mul_lt_B256 (nv_lt HN1.out.1) (nv_lt HN2.out.1))).1] at MM
      clear Ns Nm HO HP HN1 HN2 us um
      obtain ⟨⟨a1, a2, a3, a4⟩, -, a9⟩ := P7.out
      obtain ⟨⟨b1, b2, b3, b4⟩, -, b9⟩ := P9.out
      obtain ⟨⟨c1, c2, c3, c4⟩, -, c9⟩ := P11.out
      obtain ⟨⟨d1, d2, d3, d4⟩, -, d9⟩ := P13.out
      obtain ⟨⟨f1, f2, f3, f4⟩, -, f9⟩ := P15.out
      go_wp2_with fail
      refine (ZZ.out _).mono ?_
      rintro e u1 ⟨rfl, hb⟩
      replace P5 := Lib.hid (P5.out.below hb)
      replace P7 := Lib.hid (P7.out.below hb)
      replace P11 := Lib.hid (P11.out.below hb)
      replace P17 := Lib.hid (P17.out.below hb)
      replace B2 := bstep B2 hb
      clear hb a1 a2 a3 a4 a9 b1 b2 b3 b4 b9 c1 c2 c3 c4 c9 d1 d2 d3 d4 d9 f1 f2 f3 f4 f9 P9 P13 P15
      obtain ⟨⟨a1, a2, a3, a4⟩, -, a9⟩ := P17.out
      obtain ⟨⟨b1, b2, b3, b4⟩, -, b9⟩ := P5.out
      obtain ⟨⟨c1, c2, c3, c4⟩, -, c9⟩ := P7.out
      obtain ⟨⟨d1, d2, d3, d4⟩, -, d9⟩ := P11.out
      go_wp2_with fail
      refine (MS.out _ (HT.out.below B2)).mono ?_
      rintro e u2 ⟨rfl, hb⟩
      replace P11 := Lib.hid (P11.out.below hb)
      replace B2 := bstep B2 hb
      clear hb a1 a2 a3 a4 a9 b1 b2 b3 b4 b9 c1 c2 c3 c4 c9 d1 d2 d3 d4 d9 P17 P5 P7
      obtain ⟨⟨d1, d2, d3, d4⟩, -, d9⟩ := P11.out
      go_wp2_with fail
      refine (MM.out _ (HT.out.below B2)).mono ?_
      rintro e u3 ⟨rfl, hb⟩
      replace B2 := bstep B2 hb
      clear hb
      go_wp2
      go_ret
      exact ⟨rfl, B2⟩
end Go.Proofs.YteboohejlkionaaDoor

/-
  The document's examples of layer 16, walked (the law's awake).
-/
import Derived.Test.YtfelcneedpndiaaDoorHm
namespace Go.Proofs.YtfelcneedpndiaaDoor
open Go.RowKit Go.Lib

set_option linter.unusedVariables false in
set_option linter.unusedSimpArgs false in
set_option maxRecDepth 100000 in
set_option maxHeartbeats 8000000 in
theorem awake16 (w : World) (hT : Tab16 w) : Calls Tryd.prog 7 #[] w (Ret (.bool true) w) := by
  have A1 := Lib.hid (fun W (hW : Below w.heap.size w W) => (ltokens_any ⟨#[97, 49, 32, 43, 46, 53, 69, 51, 46, 46]⟩ (by decide) W (hT.below hW)).mono fun e w' h => retlex_yes (ts := [(1, [97, 49], 10), (5, [43], 7), (2, [46, 53, 69, 51], 6), (5, [46, 46], 2), (0, [], 0)]) (by decide +kernel) h)
  have A2 := Lib.hid (fun W (hW : Below w.heap.size w W) => (ltokens_any ⟨#[49, 50, 69, 49, 50, 51, 52, 53, 54, 55]⟩ (by decide) W (hT.below hW)).mono fun e w' h => retlex_yes (ts := [(2, [49, 50], 10), (1, [69, 49, 50, 51, 52, 53, 54, 55], 8), (0, [], 0)]) (by decide +kernel) h)
  have A3 := Lib.hid (fun W (hW : Below w.heap.size w W) => (ltokens_any ⟨#[64, 34, 80, 49, 68, 34, 32, 34, 92, 117, 48, 48, 52, 49, 34]⟩ (by decide) W (hT.below hW)).mono fun e w' h => retlex_yes (ts := [(4, [80, 49, 68], 15), (3, [65], 8), (0, [], 0)]) (by decide +kernel) h)
  have A4 := Lib.hid (fun W (hW : Below w.heap.size w W) => (ltokens_any ⟨#[34, 97]⟩ (by decide) W (hT.below hW)).mono fun e w' h => retlex_no (by decide +kernel) h)
  go_enter Tryd.func7, Tryd.ntmps7
  go_wp2_with (first
    | (go_at_call 8; (with_reducible refine (A1.out _ (Below.refl _ _)).mono ?_); rintro e w1 ⟨v1, rfl, b1, L1⟩)
    | (go_at_call 8; (with_reducible refine (A2.out _ b1).mono ?_); rintro e w2 ⟨v2, rfl, b2, L2⟩)
    | (go_at_call 8; (with_reducible refine (A3.out _ (bstep b1 b2)).mono ?_); rintro e w3 ⟨v3, rfl, b3, L3⟩))
  refine (A4.out _ (bstep (bstep b1 b2) b3)).mono ?_
  rintro e w4 ⟨rfl, b4⟩
  replace L1 := ((L1.below b2).below b3).below b4
  replace L2 := (L2.below b3).below b4
  replace L3 := L3.below b4
  have BB : Below w.heap.size w w4 := bstep (bstep (bstep b1 b2) b3) b4
  clear b1 b2 b3 b4
  obtain ⟨g1, o1, k1, rfl, k1a, k1b, h1, f1⟩ := L1.opened
  obtain ⟨g2, o2, k2, rfl, k2a, k2b, h2, f2⟩ := L2.opened
  obtain ⟨g3, o3, k3, rfl, k3a, k3b, h3, f3⟩ := L3.opened
  have x1 : w4.cell? ⟨g1, o1 + 1, none⟩ = some (.string ⟨#[97, 49]⟩) := (f1 0 _ rfl).2.1
  have x2 : w4.cell? ⟨g1, o1 + 6, none⟩ = some (.int .i64 2) := (f1 2 _ rfl).1
  have x3 : w4.cell? ⟨g1, o1 + 7, none⟩ = some (.string ⟨#[46, 53, 69, 51]⟩) := (f1 2 _ rfl).2.1
  have x4 : w4.cell? ⟨g1, o1 + 10, none⟩ = some (.string ⟨#[46, 46]⟩) := (f1 3 _ rfl).2.1
  have x5 : w4.cell? ⟨g2, o2 + 4, none⟩ = some (.string ⟨#[69, 49, 50, 51, 52, 53, 54, 55]⟩) := (f2 1 _ rfl).2.1
  have x6 : w4.cell? ⟨g3, o3, none⟩ = some (.int .i64 4) := (f3 0 _ rfl).1
  have x7 : w4.cell? ⟨g3, o3 + 4, none⟩ = some (.string ⟨#[65]⟩) := (f3 1 _ rfl).2.1
  clear f1 f2 f3 L1 L2 L3
  simp only [List.length_cons, List.length_nil] at *
  go_wp2
  go_ret
  exact ⟨rfl, BB⟩
end Go.Proofs.YtfelcneedpndiaaDoor

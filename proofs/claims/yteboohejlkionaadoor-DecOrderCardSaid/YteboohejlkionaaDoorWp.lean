/-
  Three numbers as they are handed in, made and laid into three new blocks, in whatever order the language leaves open (the first statement of DecOrder): by the states in which the work can stand.
-/
import Derived.Test.YteboohejlkionaaDoorAc
import Derived.Deep.RegionHeld3
namespace Go.Proofs.YteboohejlkionaaDoor
open Go.RowKit

/-- What Make is asked for. -/
def MakeC (n : Bool) (h l : Nat) (x : Int) : Prop := ∀ w : World, Tab w → Calls Tryd.prog 14 #[Dv n h l x] w (RetD (fun n' h' l' x' => NumOk n' h' l' x') w)
/-- What is known behind it. -/
def OkQ (w1 : World) (F : Nat → Nat → Nat → Bool → Nat → Nat → Int → Bool → Nat → Nat → Int → Bool → Nat → Nat → Int → Act) (Q : Exit → Act → World → Prop) : Prop :=
  ∀ (g k j : Nat) (na : Bool) (ah al : Nat) (ea : Int) (nb : Bool) (bh bl : Nat) (eb : Int) (nc : Bool) (ch cl : Nat) (ec : Int) (W : World), NumOk na ah al ea → NumOk nb bh bl eb → NumOk nc ch cl ec → HoldsD W g na ah al ea → HoldsD W k nb bh bl eb → HoldsD W j nc ch cl ec → Below w1.heap.size w1 W → Q .normal (F g k j na ah al ea nb bh bl eb nc ch cl ec) W
def opsO : Array Oper := #[{ dst := some 15, op := Go.Op.load 26 (Go.Operand.tmp 3), type := 26, pos := "law.go:158", after := #[], guard := none },
  { dst := some 16, op := Go.Op.call { callee := Go.Callee.value (Go.Operand.func 14), args := #[Go.Operand.tmp 15], argTypes := #[26] }, type := 28, pos := "law.go:158", after := #[{ on := 0, ground := Go.Ground.data }], guard := none },
  { dst := some 17, op := Go.Op.load 26 (Go.Operand.tmp 4), type := 26, pos := "law.go:158", after := #[], guard := none },
  { dst := some 18, op := Go.Op.call { callee := Go.Callee.value (Go.Operand.func 14), args := #[Go.Operand.tmp 17], argTypes := #[26] }, type := 28, pos := "law.go:158", after := #[{ on := 2, ground := Go.Ground.data }, { on := 1, ground := Go.Ground.chain }], guard := none },
  { dst := some 19, op := Go.Op.load 26 (Go.Operand.tmp 5), type := 26, pos := "law.go:158", after := #[], guard := none },
  { dst := some 20, op := Go.Op.call { callee := Go.Callee.value (Go.Operand.func 14), args := #[Go.Operand.tmp 19], argTypes := #[26] }, type := 28, pos := "law.go:158", after := #[{ on := 4, ground := Go.Ground.data }, { on := 3, ground := Go.Ground.chain }], guard := none },
  { dst := some 7, op := Go.Op.alloc 28, type := 0, pos := "law.go:158", after := #[], guard := none },
  { dst := some 8, op := Go.Op.alloc 28, type := 0, pos := "law.go:158", after := #[], guard := none },
  { dst := some 9, op := Go.Op.alloc 28, type := 0, pos := "law.go:158", after := #[], guard := none },
  { dst := none, op := Go.Op.store 28 (Go.Operand.tmp 7) (Go.Operand.tmp 16), type := 0, pos := "law.go:158", after := #[{ on := 6, ground := Go.Ground.data }, { on := 1, ground := Go.Ground.data }, { on := 5, ground := Go.Ground.chain }, { on := 0, ground := Go.Ground.phase }, { on := 1, ground := Go.Ground.phase }, { on := 2, ground := Go.Ground.textOnly Go.Departure.lateStores }, { on := 3, ground := Go.Ground.textOnly Go.Departure.lateStoresUnsure }, { on := 4, ground := Go.Ground.textOnly Go.Departure.lateStores }, { on := 5, ground := Go.Ground.textOnly Go.Departure.lateStoresUnsure }, { on := 6, ground := Go.Ground.phase }, { on := 7, ground := Go.Ground.phase }, { on := 8, ground := Go.Ground.phase }], guard := none },
  { dst := none, op := Go.Op.store 28 (Go.Operand.tmp 8) (Go.Operand.tmp 18), type := 0, pos := "law.go:158", after := #[{ on := 7, ground := Go.Ground.data }, { on := 3, ground := Go.Ground.data }, { on := 9, ground := Go.Ground.chain }, { on := 0, ground := Go.Ground.phase }, { on := 1, ground := Go.Ground.phase }, { on := 2, ground := Go.Ground.phase }, { on := 3, ground := Go.Ground.phase }, { on := 4, ground := Go.Ground.textOnly Go.Departure.lateStores }, { on := 5, ground := Go.Ground.textOnly Go.Departure.lateStoresUnsure }, { on := 6, ground := Go.Ground.phase }, { on := 7, ground := Go.Ground.phase }, { on := 8, ground := Go.Ground.phase }, { on := 9, ground := Go.Ground.phase }], guard := none },
  { dst := none, op := Go.Op.store 28 (Go.Operand.tmp 9) (Go.Operand.tmp 20), type := 0, pos := "law.go:158", after := #[{ on := 8, ground := Go.Ground.data }, { on := 5, ground := Go.Ground.data }, { on := 10, ground := Go.Ground.chain }, { on := 0, ground := Go.Ground.phase }, { on := 1, ground := Go.Ground.phase }, { on := 2, ground := Go.Ground.phase }, { on := 3, ground := Go.Ground.phase }, { on := 4, ground := Go.Ground.phase }, { on := 5, ground := Go.Ground.phase }, { on := 6, ground := Go.Ground.phase }, { on := 7, ground := Go.Ground.phase }, { on := 8, ground := Go.Ground.phase }, { on := 9, ground := Go.Ground.phase }, { on := 10, ground := Go.Ground.phase }], guard := none }]
section
variable {n1 : Bool} {h1 l1 : Nat} {x1 : Int} {n2 : Bool} {h2 l2 : Nat} {x2 : Int} {n3 : Bool} {h3 l3 : Nat} {x3 : Int} {q : Nat} {w1 : World} {Q : Exit → Act → World → Prop}

set_option linter.unusedVariables false in
set_option linter.unusedSimpArgs false in
set_option maxRecDepth 100000 in
set_option maxHeartbeats 4000000 in
theorem o3_s3 (HT : Hid (Tab w1)) (M1 : Hid (MakeC n1 h1 l1 x1)) (M2 : Hid (MakeC n2 h2 l2 x2)) (M3 : Hid (MakeC n3 h3 l3 x3)) (HQ : Hid (OkQ w1 (fun g k j na ah al ea nb bh bl eb nc ch cl ec => { tmps := #[Dv n1 h1 l1 x1, Dv n2 h2 l2 x2, Dv n3 h3 l3 x3, .pointer (some ⟨q, 0, none⟩), .pointer (some ⟨q + 1, 0, none⟩), .pointer (some ⟨q + 1 + 1, 0, none⟩), .bool false, .pointer (some ⟨g, 0, none⟩), .pointer (some ⟨k, 0, none⟩), .pointer (some ⟨j, 0, none⟩), undef, undef, undef, .bool true, .bool false, Dv n1 h1 l1 x1, Dv na ah al ea, Dv n2 h2 l2 x2, Dv nb bh bl eb, Dv n3 h3 l3 x3, Dv nc ch cl ec, undef, undef, undef, undef, undef, undef, undef, undef, undef, undef, undef, undef, undef, undef, undef, undef, undef, undef, undef, undef, undef, undef, undef, undef, undef, undef, undef, undef, undef, undef, undef, undef, undef, undef, undef, undef, undef, undef, undef, undef, undef, undef, undef, undef, undef, undef, undef, undef, undef, undef], defers := [] }) Q)) {na : Bool} {ah al : Nat} {ea : Int} (N0 : NumOk na ah al ea) {nb : Bool} {bh bl : Nat} {eb : Int} (N1 : NumOk nb bh bl eb) {nc : Bool} {ch cl : Nat} {ec : Int} (N2 : NumOk nc ch cl ec) {g : Nat} {k : Nat} {j : Nat} (D01 : g ≠ k) (D02 : g ≠ j) (D12 : k ≠ j) (W : World) (hb : Below w1.heap.size w1 W) (G0 : HoldsD W g na ah al ea ∧ w1.heap.size ≤ g) (G1 : HoldsD W k nb bh bl eb ∧ w1.heap.size ≤ k) (G2 : HoldsD W j nc ch cl ec ∧ w1.heap.size ≤ j) : wpAnyH Tryd.prog .any opsO Q (fun w' => Below w1.heap.size w1 w') 0 #[true, true, true, true, true, true, true, true, true, true, true, true] { tmps := #[Dv n1 h1 l1 x1, Dv n2 h2 l2 x2, Dv n3 h3 l3 x3, .pointer (some ⟨q, 0, none⟩), .pointer (some ⟨q + 1, 0, none⟩), .pointer (some ⟨q + 1 + 1, 0, none⟩), .bool false, .pointer (some ⟨g, 0, none⟩), .pointer (some ⟨k, 0, none⟩), .pointer (some ⟨j, 0, none⟩), undef, undef, undef, .bool true, .bool false, Dv n1 h1 l1 x1, Dv na ah al ea, Dv n2 h2 l2 x2, Dv nb bh bl eb, Dv n3 h3 l3 x3, Dv nc ch cl ec, undef, undef, undef, undef, undef, undef, undef, undef, undef, undef, undef, undef, undef, undef, undef, undef, undef, undef, undef, undef, undef, undef, undef, undef, undef, undef, undef, undef, undef, undef, undef, undef, undef, undef, undef, undef, undef, undef, undef, undef, undef, undef, undef, undef, undef, undef, undef, undef, undef, undef], defers := [] } W := by
  refine wpAnyH_done (by kernel_rfl) ?_ _
  exact HQ.out _ _ _ _ _ _ _ _ _ _ _ _ _ _ _ W N0 N1 N2 G0.1 G1.1 G2.1 hb

set_option linter.unusedVariables false in
set_option linter.unusedSimpArgs false in
set_option maxRecDepth 100000 in
set_option maxHeartbeats 4000000 in
theorem o3_s2 (HT : Hid (Tab w1)) (M1 : Hid (MakeC n1 h1 l1 x1)) (M2 : Hid (MakeC n2 h2 l2 x2)) (M3 : Hid (MakeC n3 h3 l3 x3)) (HQ : Hid (OkQ w1 (fun g k j na ah al ea nb bh bl eb nc ch cl ec => { tmps := #[Dv n1 h1 l1 x1, Dv n2 h2 l2 x2, Dv n3 h3 l3 x3, .pointer (some ⟨q, 0, none⟩), .pointer (some ⟨q + 1, 0, none⟩), .pointer (some ⟨q + 1 + 1, 0, none⟩), .bool false, .pointer (some ⟨g, 0, none⟩), .pointer (some ⟨k, 0, none⟩), .pointer (some ⟨j, 0, none⟩), undef, undef, undef, .bool true, .bool false, Dv n1 h1 l1 x1, Dv na ah al ea, Dv n2 h2 l2 x2, Dv nb bh bl eb, Dv n3 h3 l3 x3, Dv nc ch cl ec, undef, undef, undef, undef, undef, undef, undef, undef, undef, undef, undef, undef, undef, undef, undef, undef, undef, undef, undef, undef, undef, undef, undef, undef, undef, undef, undef, undef, undef, undef, undef, undef, undef, undef, undef, undef, undef, undef, undef, undef, undef, undef, undef, undef, undef, undef, undef, undef, undef, undef], defers := [] }) Q)) {na : Bool} {ah al : Nat} {ea : Int} (N0 : NumOk na ah al ea) {nb : Bool} {bh bl : Nat} {eb : Int} (N1 : NumOk nb bh bl eb) {nc : Bool} {ch cl : Nat} {ec : Int} (N2 : NumOk nc ch cl ec) {g : Nat} {k : Nat} {j : Nat} (D01 : g ≠ k) (D02 : g ≠ j) (D12 : k ≠ j) (W : World) (hb : Below w1.heap.size w1 W) (G0 : HoldsD W g na ah al ea ∧ w1.heap.size ≤ g) (G1 : HoldsD W k nb bh bl eb ∧ w1.heap.size ≤ k) (G2 : HoldsD W j false 0 0 0 ∧ w1.heap.size ≤ j) : wpAnyH Tryd.prog .any opsO Q (fun w' => Below w1.heap.size w1 w') 1 #[true, true, true, true, true, true, true, true, true, true, true, false] { tmps := #[Dv n1 h1 l1 x1, Dv n2 h2 l2 x2, Dv n3 h3 l3 x3, .pointer (some ⟨q, 0, none⟩), .pointer (some ⟨q + 1, 0, none⟩), .pointer (some ⟨q + 1 + 1, 0, none⟩), .bool false, .pointer (some ⟨g, 0, none⟩), .pointer (some ⟨k, 0, none⟩), .pointer (some ⟨j, 0, none⟩), undef, undef, undef, .bool true, .bool false, Dv n1 h1 l1 x1, Dv na ah al ea, Dv n2 h2 l2 x2, Dv nb bh bl eb, Dv n3 h3 l3 x3, Dv nc ch cl ec, undef, undef, undef, undef, undef, undef, undef, undef, undef, undef, undef, undef, undef, undef, undef, undef, undef, undef, undef, undef, undef, undef, undef, undef, undef, undef, undef, undef, undef, undef, undef, undef, undef, undef, undef, undef, undef, undef, undef, undef, undef, undef, undef, undef, undef, undef, undef, undef, undef, undef], defers := [] } W := by
  obtain ⟨⟨⟨a1, a2, a3, a4⟩, ⟨a5, a6, a7, a8⟩, a9⟩, a10⟩ := G2
  have HB := Lib.hid hb
  have K0 := Lib.hid G0
  have K1 := Lib.hid G1
  have DD := Lib.hid (And.intro D01 (And.intro D02 D12))
  have NN := Lib.hid (And.intro N0 (And.intro N1 N2))
  clear hb G0 G1 D01 D02 D12 N0 N1 N2
  refine wpAnyH_ready (rs := [11]) (by kernel_rfl) (by simp) ?_
  refine AllReadyH.cons (o := { dst := none, op := Go.Op.store 28 (Go.Operand.tmp 9) (Go.Operand.tmp 20), type := 0, pos := "law.go:158", after := #[{ on := 8, ground := Go.Ground.data }, { on := 5, ground := Go.Ground.data }, { on := 10, ground := Go.Ground.chain }, { on := 0, ground := Go.Ground.phase }, { on := 1, ground := Go.Ground.phase }, { on := 2, ground := Go.Ground.phase }, { on := 3, ground := Go.Ground.phase }, { on := 4, ground := Go.Ground.phase }, { on := 5, ground := Go.Ground.phase }, { on := 6, ground := Go.Ground.phase }, { on := 7, ground := Go.Ground.phase }, { on := 8, ground := Go.Ground.phase }, { on := 9, ground := Go.Ground.phase }, { on := 10, ground := Go.Ground.phase }], guard := none }) rfl (fun K hK => ?_) AllReadyH.nil
  go_simp
  have HZ := Lib.hid (show HoldsD W j false 0 0 0 from ⟨⟨a1, a2, a3, a4⟩, ⟨a5, a6, a7, a8⟩, a9⟩)
  clear a1 a2 a3 a4 a5 a6 a7 a8
  refine hK.out _ _ (Below.set1' (Below.set1' (Below.set1' (Below.set1' HB.out j 0 a10 _) j 1 a10 _) j 2 a10 _) j 3 a10 _) (fun _ => ?_)
  clear hK K
  try simp only [Act.put, List.setIfInBounds_toArray, List.set_cons_zero, List.set_cons_succ]
  exact o3_s3 HT M1 M2 M3 HQ NN.out.1 NN.out.2.1 NN.out.2.2 DD.out.1 DD.out.2.1 DD.out.2.2 _ (Below.set1' (Below.set1' (Below.set1' (Below.set1' HB.out j 0 a10 _) j 1 a10 _) j 2 a10 _) j 3 a10 _) ⟨HoldsD.far (HoldsD.far (HoldsD.far (HoldsD.far K0.out.1 (p := ⟨j, 0, none⟩) (show g ≠ j from DD.out.2.1) _) (p := ⟨j, 1, none⟩) (show g ≠ j from DD.out.2.1) _) (p := ⟨j, 2, none⟩) (show g ≠ j from DD.out.2.1) _) (p := ⟨j, 3, none⟩) (show g ≠ j from DD.out.2.1) _, K0.out.2⟩ ⟨HoldsD.far (HoldsD.far (HoldsD.far (HoldsD.far K1.out.1 (p := ⟨j, 0, none⟩) (show k ≠ j from DD.out.2.2) _) (p := ⟨j, 1, none⟩) (show k ≠ j from DD.out.2.2) _) (p := ⟨j, 2, none⟩) (show k ≠ j from DD.out.2.2) _) (p := ⟨j, 3, none⟩) (show k ≠ j from DD.out.2.2) _, K1.out.2⟩ ⟨HoldsD.put4 HZ.out, a10⟩

set_option linter.unusedVariables false in
set_option linter.unusedSimpArgs false in
set_option maxRecDepth 100000 in
set_option maxHeartbeats 4000000 in
theorem o3_s1 (HT : Hid (Tab w1)) (M1 : Hid (MakeC n1 h1 l1 x1)) (M2 : Hid (MakeC n2 h2 l2 x2)) (M3 : Hid (MakeC n3 h3 l3 x3)) (HQ : Hid (OkQ w1 (fun g k j na ah al ea nb bh bl eb nc ch cl ec => { tmps := #[Dv n1 h1 l1 x1, Dv n2 h2 l2 x2, Dv n3 h3 l3 x3, .pointer (some ⟨q, 0, none⟩), .pointer (some ⟨q + 1, 0, none⟩), .pointer (some ⟨q + 1 + 1, 0, none⟩), .bool false, .pointer (some ⟨g, 0, none⟩), .pointer (some ⟨k, 0, none⟩), .pointer (some ⟨j, 0, none⟩), undef, undef, undef, .bool true, .bool false, Dv n1 h1 l1 x1, Dv na ah al ea, Dv n2 h2 l2 x2, Dv nb bh bl eb, Dv n3 h3 l3 x3, Dv nc ch cl ec, undef, undef, undef, undef, undef, undef, undef, undef, undef, undef, undef, undef, undef, undef, undef, undef, undef, undef, undef, undef, undef, undef, undef, undef, undef, undef, undef, undef, undef, undef, undef, undef, undef, undef, undef, undef, undef, undef, undef, undef, undef, undef, undef, undef, undef, undef, undef, undef, undef, undef], defers := [] }) Q)) {na : Bool} {ah al : Nat} {ea : Int} (N0 : NumOk na ah al ea) {nb : Bool} {bh bl : Nat} {eb : Int} (N1 : NumOk nb bh bl eb) {nc : Bool} {ch cl : Nat} {ec : Int} (N2 : NumOk nc ch cl ec) {g : Nat} {k : Nat} {j : Nat} (D01 : g ≠ k) (D02 : g ≠ j) (D12 : k ≠ j) (W : World) (hb : Below w1.heap.size w1 W) (G0 : HoldsD W g na ah al ea ∧ w1.heap.size ≤ g) (G1 : HoldsD W k false 0 0 0 ∧ w1.heap.size ≤ k) (G2 : HoldsD W j false 0 0 0 ∧ w1.heap.size ≤ j) : wpAnyH Tryd.prog .any opsO Q (fun w' => Below w1.heap.size w1 w') 2 #[true, true, true, true, true, true, true, true, true, true, false, false] { tmps := #[Dv n1 h1 l1 x1, Dv n2 h2 l2 x2, Dv n3 h3 l3 x3, .pointer (some ⟨q, 0, none⟩), .pointer (some ⟨q + 1, 0, none⟩), .pointer (some ⟨q + 1 + 1, 0, none⟩), .bool false, .pointer (some ⟨g, 0, none⟩), .pointer (some ⟨k, 0, none⟩), .pointer (some ⟨j, 0, none⟩), undef, undef, undef, .bool true, .bool false, Dv n1 h1 l1 x1, Dv na ah al ea, Dv n2 h2 l2 x2, Dv nb bh bl eb, Dv n3 h3 l3 x3, Dv nc ch cl ec, undef, undef, undef, undef, undef, undef, undef, undef, undef, undef, undef, undef, undef, undef, undef, undef, undef, undef, undef, undef, undef, undef, undef, undef, undef, undef, undef, undef, undef, undef, undef, undef, undef, undef, undef, undef, undef, undef, undef, undef, undef, undef, undef, undef, undef, undef, undef, undef, undef, undef], defers := [] } W := by
  obtain ⟨⟨⟨a1, a2, a3, a4⟩, ⟨a5, a6, a7, a8⟩, a9⟩, a10⟩ := G1
  have HB := Lib.hid hb
  have K0 := Lib.hid G0
  have K2 := Lib.hid G2
  have DD := Lib.hid (And.intro D01 (And.intro D02 D12))
  have NN := Lib.hid (And.intro N0 (And.intro N1 N2))
  clear hb G0 G2 D01 D02 D12 N0 N1 N2
  refine wpAnyH_ready (rs := [10]) (by kernel_rfl) (by simp) ?_
  refine AllReadyH.cons (o := { dst := none, op := Go.Op.store 28 (Go.Operand.tmp 8) (Go.Operand.tmp 18), type := 0, pos := "law.go:158", after := #[{ on := 7, ground := Go.Ground.data }, { on := 3, ground := Go.Ground.data }, { on := 9, ground := Go.Ground.chain }, { on := 0, ground := Go.Ground.phase }, { on := 1, ground := Go.Ground.phase }, { on := 2, ground := Go.Ground.phase }, { on := 3, ground := Go.Ground.phase }, { on := 4, ground := Go.Ground.textOnly Go.Departure.lateStores }, { on := 5, ground := Go.Ground.textOnly Go.Departure.lateStoresUnsure }, { on := 6, ground := Go.Ground.phase }, { on := 7, ground := Go.Ground.phase }, { on := 8, ground := Go.Ground.phase }, { on := 9, ground := Go.Ground.phase }], guard := none }) rfl (fun K hK => ?_) AllReadyH.nil
  go_simp
  have HZ := Lib.hid (show HoldsD W k false 0 0 0 from ⟨⟨a1, a2, a3, a4⟩, ⟨a5, a6, a7, a8⟩, a9⟩)
  clear a1 a2 a3 a4 a5 a6 a7 a8
  refine hK.out _ _ (Below.set1' (Below.set1' (Below.set1' (Below.set1' HB.out k 0 a10 _) k 1 a10 _) k 2 a10 _) k 3 a10 _) (fun _ => ?_)
  clear hK K
  try simp only [Act.put, List.setIfInBounds_toArray, List.set_cons_zero, List.set_cons_succ]
  exact o3_s2 HT M1 M2 M3 HQ NN.out.1 NN.out.2.1 NN.out.2.2 DD.out.1 DD.out.2.1 DD.out.2.2 _ (Below.set1' (Below.set1' (Below.set1' (Below.set1' HB.out k 0 a10 _) k 1 a10 _) k 2 a10 _) k 3 a10 _) ⟨HoldsD.far (HoldsD.far (HoldsD.far (HoldsD.far K0.out.1 (p := ⟨k, 0, none⟩) (show g ≠ k from DD.out.1) _) (p := ⟨k, 1, none⟩) (show g ≠ k from DD.out.1) _) (p := ⟨k, 2, none⟩) (show g ≠ k from DD.out.1) _) (p := ⟨k, 3, none⟩) (show g ≠ k from DD.out.1) _, K0.out.2⟩ ⟨HoldsD.put4 HZ.out, a10⟩ ⟨HoldsD.far (HoldsD.far (HoldsD.far (HoldsD.far K2.out.1 (p := ⟨k, 0, none⟩) (show j ≠ k from DD.out.2.2.symm) _) (p := ⟨k, 1, none⟩) (show j ≠ k from DD.out.2.2.symm) _) (p := ⟨k, 2, none⟩) (show j ≠ k from DD.out.2.2.symm) _) (p := ⟨k, 3, none⟩) (show j ≠ k from DD.out.2.2.symm) _, K2.out.2⟩

set_option linter.unusedVariables false in
set_option linter.unusedSimpArgs false in
set_option maxRecDepth 100000 in
set_option maxHeartbeats 4000000 in
theorem o3_s0 (HT : Hid (Tab w1)) (M1 : Hid (MakeC n1 h1 l1 x1)) (M2 : Hid (MakeC n2 h2 l2 x2)) (M3 : Hid (MakeC n3 h3 l3 x3)) (HQ : Hid (OkQ w1 (fun g k j na ah al ea nb bh bl eb nc ch cl ec => { tmps := #[Dv n1 h1 l1 x1, Dv n2 h2 l2 x2, Dv n3 h3 l3 x3, .pointer (some ⟨q, 0, none⟩), .pointer (some ⟨q + 1, 0, none⟩), .pointer (some ⟨q + 1 + 1, 0, none⟩), .bool false, .pointer (some ⟨g, 0, none⟩), .pointer (some ⟨k, 0, none⟩), .pointer (some ⟨j, 0, none⟩), undef, undef, undef, .bool true, .bool false, Dv n1 h1 l1 x1, Dv na ah al ea, Dv n2 h2 l2 x2, Dv nb bh bl eb, Dv n3 h3 l3 x3, Dv nc ch cl ec, undef, undef, undef, undef, undef, undef, undef, undef, undef, undef, undef, undef, undef, undef, undef, undef, undef, undef, undef, undef, undef, undef, undef, undef, undef, undef, undef, undef, undef, undef, undef, undef, undef, undef, undef, undef, undef, undef, undef, undef, undef, undef, undef, undef, undef, undef, undef, undef, undef, undef], defers := [] }) Q)) {na : Bool} {ah al : Nat} {ea : Int} (N0 : NumOk na ah al ea) {nb : Bool} {bh bl : Nat} {eb : Int} (N1 : NumOk nb bh bl eb) {nc : Bool} {ch cl : Nat} {ec : Int} (N2 : NumOk nc ch cl ec) {g : Nat} {k : Nat} {j : Nat} (D01 : g ≠ k) (D02 : g ≠ j) (D12 : k ≠ j) (W : World) (hb : Below w1.heap.size w1 W) (G0 : HoldsD W g false 0 0 0 ∧ w1.heap.size ≤ g) (G1 : HoldsD W k false 0 0 0 ∧ w1.heap.size ≤ k) (G2 : HoldsD W j false 0 0 0 ∧ w1.heap.size ≤ j) : wpAnyH Tryd.prog .any opsO Q (fun w' => Below w1.heap.size w1 w') 3 #[true, true, true, true, true, true, true, true, true, false, false, false] { tmps := #[Dv n1 h1 l1 x1, Dv n2 h2 l2 x2, Dv n3 h3 l3 x3, .pointer (some ⟨q, 0, none⟩), .pointer (some ⟨q + 1, 0, none⟩), .pointer (some ⟨q + 1 + 1, 0, none⟩), .bool false, .pointer (some ⟨g, 0, none⟩), .pointer (some ⟨k, 0, none⟩), .pointer (some ⟨j, 0, none⟩), undef, undef, undef, .bool true, .bool false, Dv n1 h1 l1 x1, Dv na ah al ea, Dv n2 h2 l2 x2, Dv nb bh bl eb, Dv n3 h3 l3 x3, Dv nc ch cl ec, undef, undef, undef, undef, undef, undef, undef, undef, undef, undef, undef, undef, undef, undef, undef, undef, undef, undef, undef, undef, undef, undef, undef, undef, undef, undef, undef, undef, undef, undef, undef, undef, undef, undef, undef, undef, undef, undef, undef, undef, undef, undef, undef, undef, undef, undef, undef, undef, undef, undef], defers := [] } W := by
  obtain ⟨⟨⟨a1, a2, a3, a4⟩, ⟨a5, a6, a7, a8⟩, a9⟩, a10⟩ := G0
  have HB := Lib.hid hb
  have K1 := Lib.hid G1
  have K2 := Lib.hid G2
  have DD := Lib.hid (And.intro D01 (And.intro D02 D12))
  have NN := Lib.hid (And.intro N0 (And.intro N1 N2))
  clear hb G1 G2 D01 D02 D12 N0 N1 N2
  refine wpAnyH_ready (rs := [9]) (by kernel_rfl) (by simp) ?_
  refine AllReadyH.cons (o := { dst := none, op := Go.Op.store 28 (Go.Operand.tmp 7) (Go.Operand.tmp 16), type := 0, pos := "law.go:158", after := #[{ on := 6, ground := Go.Ground.data }, { on := 1, ground := Go.Ground.data }, { on := 5, ground := Go.Ground.chain }, { on := 0, ground := Go.Ground.phase }, { on := 1, ground := Go.Ground.phase }, { on := 2, ground := Go.Ground.textOnly Go.Departure.lateStores }, { on := 3, ground := Go.Ground.textOnly Go.Departure.lateStoresUnsure }, { on := 4, ground := Go.Ground.textOnly Go.Departure.lateStores }, { on := 5, ground := Go.Ground.textOnly Go.Departure.lateStoresUnsure }, { on := 6, ground := Go.Ground.phase }, { on := 7, ground := Go.Ground.phase }, { on := 8, ground := Go.Ground.phase }], guard := none }) rfl (fun K hK => ?_) AllReadyH.nil
  go_simp
  have HZ := Lib.hid (show HoldsD W g false 0 0 0 from ⟨⟨a1, a2, a3, a4⟩, ⟨a5, a6, a7, a8⟩, a9⟩)
  clear a1 a2 a3 a4 a5 a6 a7 a8
  refine hK.out _ _ (Below.set1' (Below.set1' (Below.set1' (Below.set1' HB.out g 0 a10 _) g 1 a10 _) g 2 a10 _) g 3 a10 _) (fun _ => ?_)
  clear hK K
  try simp only [Act.put, List.setIfInBounds_toArray, List.set_cons_zero, List.set_cons_succ]
  exact o3_s1 HT M1 M2 M3 HQ NN.out.1 NN.out.2.1 NN.out.2.2 DD.out.1 DD.out.2.1 DD.out.2.2 _ (Below.set1' (Below.set1' (Below.set1' (Below.set1' HB.out g 0 a10 _) g 1 a10 _) g 2 a10 _) g 3 a10 _) ⟨HoldsD.put4 HZ.out, a10⟩ ⟨HoldsD.far (HoldsD.far (HoldsD.far (HoldsD.far K1.out.1 (p := ⟨g, 0, none⟩) (show k ≠ g from DD.out.1.symm) _) (p := ⟨g, 1, none⟩) (show k ≠ g from DD.out.1.symm) _) (p := ⟨g, 2, none⟩) (show k ≠ g from DD.out.1.symm) _) (p := ⟨g, 3, none⟩) (show k ≠ g from DD.out.1.symm) _, K1.out.2⟩ ⟨HoldsD.far (HoldsD.far (HoldsD.far (HoldsD.far K2.out.1 (p := ⟨g, 0, none⟩) (show j ≠ g from DD.out.2.1.symm) _) (p := ⟨g, 1, none⟩) (show j ≠ g from DD.out.2.1.symm) _) (p := ⟨g, 2, none⟩) (show j ≠ g from DD.out.2.1.symm) _) (p := ⟨g, 3, none⟩) (show j ≠ g from DD.out.2.1.symm) _, K2.out.2⟩

set_option linter.unusedVariables false in
set_option linter.unusedSimpArgs false in
set_option maxRecDepth 100000 in
set_option maxHeartbeats 4000000 in
theorem o3_3_012 (HT : Hid (Tab w1)) (M1 : Hid (MakeC n1 h1 l1 x1)) (M2 : Hid (MakeC n2 h2 l2 x2)) (M3 : Hid (MakeC n3 h3 l3 x3)) (HQ : Hid (OkQ w1 (fun g k j na ah al ea nb bh bl eb nc ch cl ec => { tmps := #[Dv n1 h1 l1 x1, Dv n2 h2 l2 x2, Dv n3 h3 l3 x3, .pointer (some ⟨q, 0, none⟩), .pointer (some ⟨q + 1, 0, none⟩), .pointer (some ⟨q + 1 + 1, 0, none⟩), .bool false, .pointer (some ⟨g, 0, none⟩), .pointer (some ⟨k, 0, none⟩), .pointer (some ⟨j, 0, none⟩), undef, undef, undef, .bool true, .bool false, Dv n1 h1 l1 x1, Dv na ah al ea, Dv n2 h2 l2 x2, Dv nb bh bl eb, Dv n3 h3 l3 x3, Dv nc ch cl ec, undef, undef, undef, undef, undef, undef, undef, undef, undef, undef, undef, undef, undef, undef, undef, undef, undef, undef, undef, undef, undef, undef, undef, undef, undef, undef, undef, undef, undef, undef, undef, undef, undef, undef, undef, undef, undef, undef, undef, undef, undef, undef, undef, undef, undef, undef, undef, undef, undef, undef], defers := [] }) Q)) {na : Bool} {ah al : Nat} {ea : Int} (N0 : NumOk na ah al ea) {nb : Bool} {bh bl : Nat} {eb : Int} (N1 : NumOk nb bh bl eb) {nc : Bool} {ch cl : Nat} {ec : Int} (N2 : NumOk nc ch cl ec) {g : Nat} {k : Nat} {j : Nat} (D01 : g ≠ k) (D02 : g ≠ j) (D12 : k ≠ j) (W : World) (hb : Below w1.heap.size w1 W) (G0 : HoldsD W g false 0 0 0 ∧ w1.heap.size ≤ g) (G1 : HoldsD W k false 0 0 0 ∧ w1.heap.size ≤ k) (G2 : HoldsD W j false 0 0 0 ∧ w1.heap.size ≤ j) : wpAnyH Tryd.prog .any opsO Q (fun w' => Below w1.heap.size w1 w') 3 #[true, true, true, true, true, true, true, true, true, false, false, false] { tmps := #[Dv n1 h1 l1 x1, Dv n2 h2 l2 x2, Dv n3 h3 l3 x3, .pointer (some ⟨q, 0, none⟩), .pointer (some ⟨q + 1, 0, none⟩), .pointer (some ⟨q + 1 + 1, 0, none⟩), .bool false, .pointer (some ⟨g, 0, none⟩), .pointer (some ⟨k, 0, none⟩), .pointer (some ⟨j, 0, none⟩), undef, undef, undef, .bool true, .bool false, Dv n1 h1 l1 x1, Dv na ah al ea, Dv n2 h2 l2 x2, Dv nb bh bl eb, Dv n3 h3 l3 x3, Dv nc ch cl ec, undef, undef, undef, undef, undef, undef, undef, undef, undef, undef, undef, undef, undef, undef, undef, undef, undef, undef, undef, undef, undef, undef, undef, undef, undef, undef, undef, undef, undef, undef, undef, undef, undef, undef, undef, undef, undef, undef, undef, undef, undef, undef, undef, undef, undef, undef, undef, undef, undef, undef], defers := [] } W := by
  exact o3_s0 HT M1 M2 M3 HQ N0 N1 N2 D01 D02 D12 W hb G0 G1 G2

set_option linter.unusedVariables false in
set_option linter.unusedSimpArgs false in
set_option maxRecDepth 100000 in
set_option maxHeartbeats 4000000 in
theorem o3_3_01 (HT : Hid (Tab w1)) (M1 : Hid (MakeC n1 h1 l1 x1)) (M2 : Hid (MakeC n2 h2 l2 x2)) (M3 : Hid (MakeC n3 h3 l3 x3)) (HQ : Hid (OkQ w1 (fun g k j na ah al ea nb bh bl eb nc ch cl ec => { tmps := #[Dv n1 h1 l1 x1, Dv n2 h2 l2 x2, Dv n3 h3 l3 x3, .pointer (some ⟨q, 0, none⟩), .pointer (some ⟨q + 1, 0, none⟩), .pointer (some ⟨q + 1 + 1, 0, none⟩), .bool false, .pointer (some ⟨g, 0, none⟩), .pointer (some ⟨k, 0, none⟩), .pointer (some ⟨j, 0, none⟩), undef, undef, undef, .bool true, .bool false, Dv n1 h1 l1 x1, Dv na ah al ea, Dv n2 h2 l2 x2, Dv nb bh bl eb, Dv n3 h3 l3 x3, Dv nc ch cl ec, undef, undef, undef, undef, undef, undef, undef, undef, undef, undef, undef, undef, undef, undef, undef, undef, undef, undef, undef, undef, undef, undef, undef, undef, undef, undef, undef, undef, undef, undef, undef, undef, undef, undef, undef, undef, undef, undef, undef, undef, undef, undef, undef, undef, undef, undef, undef, undef, undef, undef], defers := [] }) Q)) {na : Bool} {ah al : Nat} {ea : Int} (N0 : NumOk na ah al ea) {nb : Bool} {bh bl : Nat} {eb : Int} (N1 : NumOk nb bh bl eb) {nc : Bool} {ch cl : Nat} {ec : Int} (N2 : NumOk nc ch cl ec) {g : Nat} {k : Nat} (D01 : g ≠ k) (W : World) (hb : Below w1.heap.size w1 W) (G0 : HoldsD W g false 0 0 0 ∧ w1.heap.size ≤ g) (G1 : HoldsD W k false 0 0 0 ∧ w1.heap.size ≤ k) : wpAnyH Tryd.prog .any opsO Q (fun w' => Below w1.heap.size w1 w') 4 #[true, true, true, true, true, true, true, true, false, false, false, false] { tmps := #[Dv n1 h1 l1 x1, Dv n2 h2 l2 x2, Dv n3 h3 l3 x3, .pointer (some ⟨q, 0, none⟩), .pointer (some ⟨q + 1, 0, none⟩), .pointer (some ⟨q + 1 + 1, 0, none⟩), .bool false, .pointer (some ⟨g, 0, none⟩), .pointer (some ⟨k, 0, none⟩), undef, undef, undef, undef, .bool true, .bool false, Dv n1 h1 l1 x1, Dv na ah al ea, Dv n2 h2 l2 x2, Dv nb bh bl eb, Dv n3 h3 l3 x3, Dv nc ch cl ec, undef, undef, undef, undef, undef, undef, undef, undef, undef, undef, undef, undef, undef, undef, undef, undef, undef, undef, undef, undef, undef, undef, undef, undef, undef, undef, undef, undef, undef, undef, undef, undef, undef, undef, undef, undef, undef, undef, undef, undef, undef, undef, undef, undef, undef, undef, undef, undef, undef, undef], defers := [] } W := by
  have HB := Lib.hid hb
  have K0 := Lib.hid G0
  have K1 := Lib.hid G1
  have NN0 := Lib.hid N0
  have NN1 := Lib.hid N1
  have NN2 := Lib.hid N2
  have ED01 := Lib.hid D01
  clear hb G0 G1 N0 N1 N2 D01
  refine wpAnyH_ready (rs := [8]) (by kernel_rfl) (by simp) ?_
  refine AllReadyH.cons (o := { dst := some 9, op := Go.Op.alloc 28, type := 0, pos := "law.go:158", after := #[], guard := none }) rfl (fun K hK => ?_) AllReadyH.nil
  · go_simp
    have B2 := Lib.hid (ballD1 HB.out (.cells #[.bool false, .int .u64 0, .int .u64 0, .int .i64 0] 28))
    refine hK.out _ _ B2.out (fun _ => ?_)
    clear hK K
    try simp only [Act.put, List.setIfInBounds_toArray, List.set_cons_zero, List.set_cons_succ]
    exact o3_3_012 HT M1 M2 M3 HQ NN0.out NN1.out NN2.out ED01.out (show g ≠ W.heap.size from Nat.ne_of_lt K0.out.1.2.2) (show k ≠ W.heap.size from Nat.ne_of_lt K1.out.1.2.2) _ B2.out ⟨K0.out.1.alloc _, K0.out.2⟩ ⟨K1.out.1.alloc _, K1.out.2⟩ ⟨HoldsD.zero4 rfl, HB.out.size⟩

set_option linter.unusedVariables false in
set_option linter.unusedSimpArgs false in
set_option maxRecDepth 100000 in
set_option maxHeartbeats 4000000 in
theorem o3_3_02 (HT : Hid (Tab w1)) (M1 : Hid (MakeC n1 h1 l1 x1)) (M2 : Hid (MakeC n2 h2 l2 x2)) (M3 : Hid (MakeC n3 h3 l3 x3)) (HQ : Hid (OkQ w1 (fun g k j na ah al ea nb bh bl eb nc ch cl ec => { tmps := #[Dv n1 h1 l1 x1, Dv n2 h2 l2 x2, Dv n3 h3 l3 x3, .pointer (some ⟨q, 0, none⟩), .pointer (some ⟨q + 1, 0, none⟩), .pointer (some ⟨q + 1 + 1, 0, none⟩), .bool false, .pointer (some ⟨g, 0, none⟩), .pointer (some ⟨k, 0, none⟩), .pointer (some ⟨j, 0, none⟩), undef, undef, undef, .bool true, .bool false, Dv n1 h1 l1 x1, Dv na ah al ea, Dv n2 h2 l2 x2, Dv nb bh bl eb, Dv n3 h3 l3 x3, Dv nc ch cl ec, undef, undef, undef, undef, undef, undef, undef, undef, undef, undef, undef, undef, undef, undef, undef, undef, undef, undef, undef, undef, undef, undef, undef, undef, undef, undef, undef, undef, undef, undef, undef, undef, undef, undef, undef, undef, undef, undef, undef, undef, undef, undef, undef, undef, undef, undef, undef, undef, undef, undef], defers := [] }) Q)) {na : Bool} {ah al : Nat} {ea : Int} (N0 : NumOk na ah al ea) {nb : Bool} {bh bl : Nat} {eb : Int} (N1 : NumOk nb bh bl eb) {nc : Bool} {ch cl : Nat} {ec : Int} (N2 : NumOk nc ch cl ec) {g : Nat} {j : Nat} (D02 : g ≠ j) (W : World) (hb : Below w1.heap.size w1 W) (G0 : HoldsD W g false 0 0 0 ∧ w1.heap.size ≤ g) (G2 : HoldsD W j false 0 0 0 ∧ w1.heap.size ≤ j) : wpAnyH Tryd.prog .any opsO Q (fun w' => Below w1.heap.size w1 w') 4 #[true, true, true, true, true, true, true, false, true, false, false, false] { tmps := #[Dv n1 h1 l1 x1, Dv n2 h2 l2 x2, Dv n3 h3 l3 x3, .pointer (some ⟨q, 0, none⟩), .pointer (some ⟨q + 1, 0, none⟩), .pointer (some ⟨q + 1 + 1, 0, none⟩), .bool false, .pointer (some ⟨g, 0, none⟩), undef, .pointer (some ⟨j, 0, none⟩), undef, undef, undef, .bool true, .bool false, Dv n1 h1 l1 x1, Dv na ah al ea, Dv n2 h2 l2 x2, Dv nb bh bl eb, Dv n3 h3 l3 x3, Dv nc ch cl ec, undef, undef, undef, undef, undef, undef, undef, undef, undef, undef, undef, undef, undef, undef, undef, undef, undef, undef, undef, undef, undef, undef, undef, undef, undef, undef, undef, undef, undef, undef, undef, undef, undef, undef, undef, undef, undef, undef, undef, undef, undef, undef, undef, undef, undef, undef, undef, undef, undef, undef], defers := [] } W := by
  have HB := Lib.hid hb
  have K0 := Lib.hid G0
  have K2 := Lib.hid G2
  have NN0 := Lib.hid N0
  have NN1 := Lib.hid N1
  have NN2 := Lib.hid N2
  have ED02 := Lib.hid D02
  clear hb G0 G2 N0 N1 N2 D02
  refine wpAnyH_ready (rs := [7]) (by kernel_rfl) (by simp) ?_
  refine AllReadyH.cons (o := { dst := some 8, op := Go.Op.alloc 28, type := 0, pos := "law.go:158", after := #[], guard := none }) rfl (fun K hK => ?_) AllReadyH.nil
  · go_simp
    have B2 := Lib.hid (ballD1 HB.out (.cells #[.bool false, .int .u64 0, .int .u64 0, .int .i64 0] 28))
    refine hK.out _ _ B2.out (fun _ => ?_)
    clear hK K
    try simp only [Act.put, List.setIfInBounds_toArray, List.set_cons_zero, List.set_cons_succ]
    exact o3_3_012 HT M1 M2 M3 HQ NN0.out NN1.out NN2.out (show g ≠ W.heap.size from Nat.ne_of_lt K0.out.1.2.2) ED02.out (show W.heap.size ≠ j from Nat.ne_of_gt K2.out.1.2.2) _ B2.out ⟨K0.out.1.alloc _, K0.out.2⟩ ⟨HoldsD.zero4 rfl, HB.out.size⟩ ⟨K2.out.1.alloc _, K2.out.2⟩

set_option linter.unusedVariables false in
set_option linter.unusedSimpArgs false in
set_option maxRecDepth 100000 in
set_option maxHeartbeats 4000000 in
theorem o3_3_12 (HT : Hid (Tab w1)) (M1 : Hid (MakeC n1 h1 l1 x1)) (M2 : Hid (MakeC n2 h2 l2 x2)) (M3 : Hid (MakeC n3 h3 l3 x3)) (HQ : Hid (OkQ w1 (fun g k j na ah al ea nb bh bl eb nc ch cl ec => { tmps := #[Dv n1 h1 l1 x1, Dv n2 h2 l2 x2, Dv n3 h3 l3 x3, .pointer (some ⟨q, 0, none⟩), .pointer (some ⟨q + 1, 0, none⟩), .pointer (some ⟨q + 1 + 1, 0, none⟩), .bool false, .pointer (some ⟨g, 0, none⟩), .pointer (some ⟨k, 0, none⟩), .pointer (some ⟨j, 0, none⟩), undef, undef, undef, .bool true, .bool false, Dv n1 h1 l1 x1, Dv na ah al ea, Dv n2 h2 l2 x2, Dv nb bh bl eb, Dv n3 h3 l3 x3, Dv nc ch cl ec, undef, undef, undef, undef, undef, undef, undef, undef, undef, undef, undef, undef, undef, undef, undef, undef, undef, undef, undef, undef, undef, undef, undef, undef, undef, undef, undef, undef, undef, undef, undef, undef, undef, undef, undef, undef, undef, undef, undef, undef, undef, undef, undef, undef, undef, undef, undef, undef, undef, undef], defers := [] }) Q)) {na : Bool} {ah al : Nat} {ea : Int} (N0 : NumOk na ah al ea) {nb : Bool} {bh bl : Nat} {eb : Int} (N1 : NumOk nb bh bl eb) {nc : Bool} {ch cl : Nat} {ec : Int} (N2 : NumOk nc ch cl ec) {k : Nat} {j : Nat} (D12 : k ≠ j) (W : World) (hb : Below w1.heap.size w1 W) (G1 : HoldsD W k false 0 0 0 ∧ w1.heap.size ≤ k) (G2 : HoldsD W j false 0 0 0 ∧ w1.heap.size ≤ j) : wpAnyH Tryd.prog .any opsO Q (fun w' => Below w1.heap.size w1 w') 4 #[true, true, true, true, true, true, false, true, true, false, false, false] { tmps := #[Dv n1 h1 l1 x1, Dv n2 h2 l2 x2, Dv n3 h3 l3 x3, .pointer (some ⟨q, 0, none⟩), .pointer (some ⟨q + 1, 0, none⟩), .pointer (some ⟨q + 1 + 1, 0, none⟩), .bool false, undef, .pointer (some ⟨k, 0, none⟩), .pointer (some ⟨j, 0, none⟩), undef, undef, undef, .bool true, .bool false, Dv n1 h1 l1 x1, Dv na ah al ea, Dv n2 h2 l2 x2, Dv nb bh bl eb, Dv n3 h3 l3 x3, Dv nc ch cl ec, undef, undef, undef, undef, undef, undef, undef, undef, undef, undef, undef, undef, undef, undef, undef, undef, undef, undef, undef, undef, undef, undef, undef, undef, undef, undef, undef, undef, undef, undef, undef, undef, undef, undef, undef, undef, undef, undef, undef, undef, undef, undef, undef, undef, undef, undef, undef, undef, undef, undef], defers := [] } W := by
  have HB := Lib.hid hb
  have K1 := Lib.hid G1
  have K2 := Lib.hid G2
  have NN0 := Lib.hid N0
  have NN1 := Lib.hid N1
  have NN2 := Lib.hid N2
  have ED12 := Lib.hid D12
  clear hb G1 G2 N0 N1 N2 D12
  refine wpAnyH_ready (rs := [6]) (by kernel_rfl) (by simp) ?_
  refine AllReadyH.cons (o := { dst := some 7, op := Go.Op.alloc 28, type := 0, pos := "law.go:158", after := #[], guard := none }) rfl (fun K hK => ?_) AllReadyH.nil
  · go_simp
    have B2 := Lib.hid (ballD1 HB.out (.cells #[.bool false, .int .u64 0, .int .u64 0, .int .i64 0] 28))
    refine hK.out _ _ B2.out (fun _ => ?_)
    clear hK K
    try simp only [Act.put, List.setIfInBounds_toArray, List.set_cons_zero, List.set_cons_succ]
    exact o3_3_012 HT M1 M2 M3 HQ NN0.out NN1.out NN2.out (show W.heap.size ≠ k from Nat.ne_of_gt K1.out.1.2.2) (show W.heap.size ≠ j from Nat.ne_of_gt K2.out.1.2.2) ED12.out _ B2.out ⟨HoldsD.zero4 rfl, HB.out.size⟩ ⟨K1.out.1.alloc _, K1.out.2⟩ ⟨K2.out.1.alloc _, K2.out.2⟩

set_option linter.unusedVariables false in
set_option linter.unusedSimpArgs false in
set_option maxRecDepth 100000 in
set_option maxHeartbeats 4000000 in
theorem o3_2_012 (HT : Hid (Tab w1)) (M1 : Hid (MakeC n1 h1 l1 x1)) (M2 : Hid (MakeC n2 h2 l2 x2)) (M3 : Hid (MakeC n3 h3 l3 x3)) (HQ : Hid (OkQ w1 (fun g k j na ah al ea nb bh bl eb nc ch cl ec => { tmps := #[Dv n1 h1 l1 x1, Dv n2 h2 l2 x2, Dv n3 h3 l3 x3, .pointer (some ⟨q, 0, none⟩), .pointer (some ⟨q + 1, 0, none⟩), .pointer (some ⟨q + 1 + 1, 0, none⟩), .bool false, .pointer (some ⟨g, 0, none⟩), .pointer (some ⟨k, 0, none⟩), .pointer (some ⟨j, 0, none⟩), undef, undef, undef, .bool true, .bool false, Dv n1 h1 l1 x1, Dv na ah al ea, Dv n2 h2 l2 x2, Dv nb bh bl eb, Dv n3 h3 l3 x3, Dv nc ch cl ec, undef, undef, undef, undef, undef, undef, undef, undef, undef, undef, undef, undef, undef, undef, undef, undef, undef, undef, undef, undef, undef, undef, undef, undef, undef, undef, undef, undef, undef, undef, undef, undef, undef, undef, undef, undef, undef, undef, undef, undef, undef, undef, undef, undef, undef, undef, undef, undef, undef, undef], defers := [] }) Q)) {na : Bool} {ah al : Nat} {ea : Int} (N0 : NumOk na ah al ea) {nb : Bool} {bh bl : Nat} {eb : Int} (N1 : NumOk nb bh bl eb) {g : Nat} {k : Nat} {j : Nat} (D01 : g ≠ k) (D02 : g ≠ j) (D12 : k ≠ j) (W : World) (hb : Below w1.heap.size w1 W) (G0 : HoldsD W g false 0 0 0 ∧ w1.heap.size ≤ g) (G1 : HoldsD W k false 0 0 0 ∧ w1.heap.size ≤ k) (G2 : HoldsD W j false 0 0 0 ∧ w1.heap.size ≤ j) : wpAnyH Tryd.prog .any opsO Q (fun w' => Below w1.heap.size w1 w') 4 #[true, true, true, true, true, false, true, true, true, false, false, false] { tmps := #[Dv n1 h1 l1 x1, Dv n2 h2 l2 x2, Dv n3 h3 l3 x3, .pointer (some ⟨q, 0, none⟩), .pointer (some ⟨q + 1, 0, none⟩), .pointer (some ⟨q + 1 + 1, 0, none⟩), .bool false, .pointer (some ⟨g, 0, none⟩), .pointer (some ⟨k, 0, none⟩), .pointer (some ⟨j, 0, none⟩), undef, undef, undef, .bool true, .bool false, Dv n1 h1 l1 x1, Dv na ah al ea, Dv n2 h2 l2 x2, Dv nb bh bl eb, Dv n3 h3 l3 x3, undef, undef, undef, undef, undef, undef, undef, undef, undef, undef, undef, undef, undef, undef, undef, undef, undef, undef, undef, undef, undef, undef, undef, undef, undef, undef, undef, undef, undef, undef, undef, undef, undef, undef, undef, undef, undef, undef, undef, undef, undef, undef, undef, undef, undef, undef, undef, undef, undef, undef, undef], defers := [] } W := by
  have HB := Lib.hid hb
  have K0 := Lib.hid G0
  have K1 := Lib.hid G1
  have K2 := Lib.hid G2
  have NN0 := Lib.hid N0
  have NN1 := Lib.hid N1
  have ED01 := Lib.hid D01
  have ED02 := Lib.hid D02
  have ED12 := Lib.hid D12
  clear hb G0 G1 G2 N0 N1 D01 D02 D12
  refine wpAnyH_ready (rs := [5]) (by kernel_rfl) (by simp) ?_
  refine AllReadyH.cons (o := { dst := some 20, op := Go.Op.call { callee := Go.Callee.value (Go.Operand.func 14), args := #[Go.Operand.tmp 19], argTypes := #[26] }, type := 28, pos := "law.go:158", after := #[{ on := 4, ground := Go.Ground.data }, { on := 3, ground := Go.Ground.chain }], guard := none }) rfl (fun K hK => ?_) AllReadyH.nil
  · go_simp
    refine (M3.out _ (HT.out.below HB.out)).mono ?_
    rintro e W2 ⟨nc, ch, cl, ec, N, rfl, hb2⟩
    have HN := Lib.hid N
    have B2 := Lib.hid (bstep HB.out hb2)
    replace K0 := Lib.hid (show HoldsD W2 g false 0 0 0 ∧ w1.heap.size ≤ g from ⟨K0.out.1.below hb2, K0.out.2⟩)
    replace K1 := Lib.hid (show HoldsD W2 k false 0 0 0 ∧ w1.heap.size ≤ k from ⟨K1.out.1.below hb2, K1.out.2⟩)
    replace K2 := Lib.hid (show HoldsD W2 j false 0 0 0 ∧ w1.heap.size ≤ j from ⟨K2.out.1.below hb2, K2.out.2⟩)
    clear hb2 N
    refine hK.out _ _ B2.out (fun _ => ?_)
    clear hK K
    try simp only [Act.put, List.setIfInBounds_toArray, List.set_cons_zero, List.set_cons_succ]
    exact o3_3_012 HT M1 M2 M3 HQ NN0.out NN1.out HN.out ED01.out ED02.out ED12.out _ B2.out K0.out K1.out K2.out

set_option linter.unusedVariables false in
set_option linter.unusedSimpArgs false in
set_option maxRecDepth 100000 in
set_option maxHeartbeats 4000000 in
theorem o3_3_0 (HT : Hid (Tab w1)) (M1 : Hid (MakeC n1 h1 l1 x1)) (M2 : Hid (MakeC n2 h2 l2 x2)) (M3 : Hid (MakeC n3 h3 l3 x3)) (HQ : Hid (OkQ w1 (fun g k j na ah al ea nb bh bl eb nc ch cl ec => { tmps := #[Dv n1 h1 l1 x1, Dv n2 h2 l2 x2, Dv n3 h3 l3 x3, .pointer (some ⟨q, 0, none⟩), .pointer (some ⟨q + 1, 0, none⟩), .pointer (some ⟨q + 1 + 1, 0, none⟩), .bool false, .pointer (some ⟨g, 0, none⟩), .pointer (some ⟨k, 0, none⟩), .pointer (some ⟨j, 0, none⟩), undef, undef, undef, .bool true, .bool false, Dv n1 h1 l1 x1, Dv na ah al ea, Dv n2 h2 l2 x2, Dv nb bh bl eb, Dv n3 h3 l3 x3, Dv nc ch cl ec, undef, undef, undef, undef, undef, undef, undef, undef, undef, undef, undef, undef, undef, undef, undef, undef, undef, undef, undef, undef, undef, undef, undef, undef, undef, undef, undef, undef, undef, undef, undef, undef, undef, undef, undef, undef, undef, undef, undef, undef, undef, undef, undef, undef, undef, undef, undef, undef, undef, undef], defers := [] }) Q)) {na : Bool} {ah al : Nat} {ea : Int} (N0 : NumOk na ah al ea) {nb : Bool} {bh bl : Nat} {eb : Int} (N1 : NumOk nb bh bl eb) {nc : Bool} {ch cl : Nat} {ec : Int} (N2 : NumOk nc ch cl ec) {g : Nat}  (W : World) (hb : Below w1.heap.size w1 W) (G0 : HoldsD W g false 0 0 0 ∧ w1.heap.size ≤ g) : wpAnyH Tryd.prog .any opsO Q (fun w' => Below w1.heap.size w1 w') 5 #[true, true, true, true, true, true, true, false, false, false, false, false] { tmps := #[Dv n1 h1 l1 x1, Dv n2 h2 l2 x2, Dv n3 h3 l3 x3, .pointer (some ⟨q, 0, none⟩), .pointer (some ⟨q + 1, 0, none⟩), .pointer (some ⟨q + 1 + 1, 0, none⟩), .bool false, .pointer (some ⟨g, 0, none⟩), undef, undef, undef, undef, undef, .bool true, .bool false, Dv n1 h1 l1 x1, Dv na ah al ea, Dv n2 h2 l2 x2, Dv nb bh bl eb, Dv n3 h3 l3 x3, Dv nc ch cl ec, undef, undef, undef, undef, undef, undef, undef, undef, undef, undef, undef, undef, undef, undef, undef, undef, undef, undef, undef, undef, undef, undef, undef, undef, undef, undef, undef, undef, undef, undef, undef, undef, undef, undef, undef, undef, undef, undef, undef, undef, undef, undef, undef, undef, undef, undef, undef, undef, undef, undef], defers := [] } W := by
  have HB := Lib.hid hb
  have K0 := Lib.hid G0
  have NN0 := Lib.hid N0
  have NN1 := Lib.hid N1
  have NN2 := Lib.hid N2
  clear hb G0 N0 N1 N2 
  refine wpAnyH_ready (rs := [7, 8]) (by kernel_rfl) (by simp) ?_
  refine AllReadyH.cons (o := { dst := some 8, op := Go.Op.alloc 28, type := 0, pos := "law.go:158", after := #[], guard := none }) rfl (fun K hK => ?_) (AllReadyH.cons (o := { dst := some 9, op := Go.Op.alloc 28, type := 0, pos := "law.go:158", after := #[], guard := none }) rfl (fun K hK => ?_) AllReadyH.nil)
  · go_simp
    have B2 := Lib.hid (ballD1 HB.out (.cells #[.bool false, .int .u64 0, .int .u64 0, .int .i64 0] 28))
    refine hK.out _ _ B2.out (fun _ => ?_)
    clear hK K
    try simp only [Act.put, List.setIfInBounds_toArray, List.set_cons_zero, List.set_cons_succ]
    exact o3_3_01 HT M1 M2 M3 HQ NN0.out NN1.out NN2.out (show g ≠ W.heap.size from Nat.ne_of_lt K0.out.1.2.2) _ B2.out ⟨K0.out.1.alloc _, K0.out.2⟩ ⟨HoldsD.zero4 rfl, HB.out.size⟩
  · go_simp
    have B2 := Lib.hid (ballD1 HB.out (.cells #[.bool false, .int .u64 0, .int .u64 0, .int .i64 0] 28))
    refine hK.out _ _ B2.out (fun _ => ?_)
    clear hK K
    try simp only [Act.put, List.setIfInBounds_toArray, List.set_cons_zero, List.set_cons_succ]
    exact o3_3_02 HT M1 M2 M3 HQ NN0.out NN1.out NN2.out (show g ≠ W.heap.size from Nat.ne_of_lt K0.out.1.2.2) _ B2.out ⟨K0.out.1.alloc _, K0.out.2⟩ ⟨HoldsD.zero4 rfl, HB.out.size⟩

set_option linter.unusedVariables false in
set_option linter.unusedSimpArgs false in
set_option maxRecDepth 100000 in
set_option maxHeartbeats 4000000 in
theorem o3_3_1 (HT : Hid (Tab w1)) (M1 : Hid (MakeC n1 h1 l1 x1)) (M2 : Hid (MakeC n2 h2 l2 x2)) (M3 : Hid (MakeC n3 h3 l3 x3)) (HQ : Hid (OkQ w1 (fun g k j na ah al ea nb bh bl eb nc ch cl ec => { tmps := #[Dv n1 h1 l1 x1, Dv n2 h2 l2 x2, Dv n3 h3 l3 x3, .pointer (some ⟨q, 0, none⟩), .pointer (some ⟨q + 1, 0, none⟩), .pointer (some ⟨q + 1 + 1, 0, none⟩), .bool false, .pointer (some ⟨g, 0, none⟩), .pointer (some ⟨k, 0, none⟩), .pointer (some ⟨j, 0, none⟩), undef, undef, undef, .bool true, .bool false, Dv n1 h1 l1 x1, Dv na ah al ea, Dv n2 h2 l2 x2, Dv nb bh bl eb, Dv n3 h3 l3 x3, Dv nc ch cl ec, undef, undef, undef, undef, undef, undef, undef, undef, undef, undef, undef, undef, undef, undef, undef, undef, undef, undef, undef, undef, undef, undef, undef, undef, undef, undef, undef, undef, undef, undef, undef, undef, undef, undef, undef, undef, undef, undef, undef, undef, undef, undef, undef, undef, undef, undef, undef, undef, undef, undef], defers := [] }) Q)) {na : Bool} {ah al : Nat} {ea : Int} (N0 : NumOk na ah al ea) {nb : Bool} {bh bl : Nat} {eb : Int} (N1 : NumOk nb bh bl eb) {nc : Bool} {ch cl : Nat} {ec : Int} (N2 : NumOk nc ch cl ec) {k : Nat}  (W : World) (hb : Below w1.heap.size w1 W) (G1 : HoldsD W k false 0 0 0 ∧ w1.heap.size ≤ k) : wpAnyH Tryd.prog .any opsO Q (fun w' => Below w1.heap.size w1 w') 5 #[true, true, true, true, true, true, false, true, false, false, false, false] { tmps := #[Dv n1 h1 l1 x1, Dv n2 h2 l2 x2, Dv n3 h3 l3 x3, .pointer (some ⟨q, 0, none⟩), .pointer (some ⟨q + 1, 0, none⟩), .pointer (some ⟨q + 1 + 1, 0, none⟩), .bool false, undef, .pointer (some ⟨k, 0, none⟩), undef, undef, undef, undef, .bool true, .bool false, Dv n1 h1 l1 x1, Dv na ah al ea, Dv n2 h2 l2 x2, Dv nb bh bl eb, Dv n3 h3 l3 x3, Dv nc ch cl ec, undef, undef, undef, undef, undef, undef, undef, undef, undef, undef, undef, undef, undef, undef, undef, undef, undef, undef, undef, undef, undef, undef, undef, undef, undef, undef, undef, undef, undef, undef, undef, undef, undef, undef, undef, undef, undef, undef, undef, undef, undef, undef, undef, undef, undef, undef, undef, undef, undef, undef], defers := [] } W := by
  have HB := Lib.hid hb
  have K1 := Lib.hid G1
  have NN0 := Lib.hid N0
  have NN1 := Lib.hid N1
  have NN2 := Lib.hid N2
  clear hb G1 N0 N1 N2 
  refine wpAnyH_ready (rs := [6, 8]) (by kernel_rfl) (by simp) ?_
  refine AllReadyH.cons (o := { dst := some 7, op := Go.Op.alloc 28, type := 0, pos := "law.go:158", after := #[], guard := none }) rfl (fun K hK => ?_) (AllReadyH.cons (o := { dst := some 9, op := Go.Op.alloc 28, type := 0, pos := "law.go:158", after := #[], guard := none }) rfl (fun K hK => ?_) AllReadyH.nil)
  · go_simp
    have B2 := Lib.hid (ballD1 HB.out (.cells #[.bool false, .int .u64 0, .int .u64 0, .int .i64 0] 28))
    refine hK.out _ _ B2.out (fun _ => ?_)
    clear hK K
    try simp only [Act.put, List.setIfInBounds_toArray, List.set_cons_zero, List.set_cons_succ]
    exact o3_3_01 HT M1 M2 M3 HQ NN0.out NN1.out NN2.out (show W.heap.size ≠ k from Nat.ne_of_gt K1.out.1.2.2) _ B2.out ⟨HoldsD.zero4 rfl, HB.out.size⟩ ⟨K1.out.1.alloc _, K1.out.2⟩
  · go_simp
    have B2 := Lib.hid (ballD1 HB.out (.cells #[.bool false, .int .u64 0, .int .u64 0, .int .i64 0] 28))
    refine hK.out _ _ B2.out (fun _ => ?_)
    clear hK K
    try simp only [Act.put, List.setIfInBounds_toArray, List.set_cons_zero, List.set_cons_succ]
    exact o3_3_12 HT M1 M2 M3 HQ NN0.out NN1.out NN2.out (show k ≠ W.heap.size from Nat.ne_of_lt K1.out.1.2.2) _ B2.out ⟨K1.out.1.alloc _, K1.out.2⟩ ⟨HoldsD.zero4 rfl, HB.out.size⟩

set_option linter.unusedVariables false in
set_option linter.unusedSimpArgs false in
set_option maxRecDepth 100000 in
set_option maxHeartbeats 4000000 in
theorem o3_3_2 (HT : Hid (Tab w1)) (M1 : Hid (MakeC n1 h1 l1 x1)) (M2 : Hid (MakeC n2 h2 l2 x2)) (M3 : Hid (MakeC n3 h3 l3 x3)) (HQ : Hid (OkQ w1 (fun g k j na ah al ea nb bh bl eb nc ch cl ec => { tmps := #[Dv n1 h1 l1 x1, Dv n2 h2 l2 x2, Dv n3 h3 l3 x3, .pointer (some ⟨q, 0, none⟩), .pointer (some ⟨q + 1, 0, none⟩), .pointer (some ⟨q + 1 + 1, 0, none⟩), .bool false, .pointer (some ⟨g, 0, none⟩), .pointer (some ⟨k, 0, none⟩), .pointer (some ⟨j, 0, none⟩), undef, undef, undef, .bool true, .bool false, Dv n1 h1 l1 x1, Dv na ah al ea, Dv n2 h2 l2 x2, Dv nb bh bl eb, Dv n3 h3 l3 x3, Dv nc ch cl ec, undef, undef, undef, undef, undef, undef, undef, undef, undef, undef, undef, undef, undef, undef, undef, undef, undef, undef, undef, undef, undef, undef, undef, undef, undef, undef, undef, undef, undef, undef, undef, undef, undef, undef, undef, undef, undef, undef, undef, undef, undef, undef, undef, undef, undef, undef, undef, undef, undef, undef], defers := [] }) Q)) {na : Bool} {ah al : Nat} {ea : Int} (N0 : NumOk na ah al ea) {nb : Bool} {bh bl : Nat} {eb : Int} (N1 : NumOk nb bh bl eb) {nc : Bool} {ch cl : Nat} {ec : Int} (N2 : NumOk nc ch cl ec) {j : Nat}  (W : World) (hb : Below w1.heap.size w1 W) (G2 : HoldsD W j false 0 0 0 ∧ w1.heap.size ≤ j) : wpAnyH Tryd.prog .any opsO Q (fun w' => Below w1.heap.size w1 w') 5 #[true, true, true, true, true, true, false, false, true, false, false, false] { tmps := #[Dv n1 h1 l1 x1, Dv n2 h2 l2 x2, Dv n3 h3 l3 x3, .pointer (some ⟨q, 0, none⟩), .pointer (some ⟨q + 1, 0, none⟩), .pointer (some ⟨q + 1 + 1, 0, none⟩), .bool false, undef, undef, .pointer (some ⟨j, 0, none⟩), undef, undef, undef, .bool true, .bool false, Dv n1 h1 l1 x1, Dv na ah al ea, Dv n2 h2 l2 x2, Dv nb bh bl eb, Dv n3 h3 l3 x3, Dv nc ch cl ec, undef, undef, undef, undef, undef, undef, undef, undef, undef, undef, undef, undef, undef, undef, undef, undef, undef, undef, undef, undef, undef, undef, undef, undef, undef, undef, undef, undef, undef, undef, undef, undef, undef, undef, undef, undef, undef, undef, undef, undef, undef, undef, undef, undef, undef, undef, undef, undef, undef, undef], defers := [] } W := by
  have HB := Lib.hid hb
  have K2 := Lib.hid G2
  have NN0 := Lib.hid N0
  have NN1 := Lib.hid N1
  have NN2 := Lib.hid N2
  clear hb G2 N0 N1 N2 
  refine wpAnyH_ready (rs := [6, 7]) (by kernel_rfl) (by simp) ?_
  refine AllReadyH.cons (o := { dst := some 7, op := Go.Op.alloc 28, type := 0, pos := "law.go:158", after := #[], guard := none }) rfl (fun K hK => ?_) (AllReadyH.cons (o := { dst := some 8, op := Go.Op.alloc 28, type := 0, pos := "law.go:158", after := #[], guard := none }) rfl (fun K hK => ?_) AllReadyH.nil)
  · go_simp
    have B2 := Lib.hid (ballD1 HB.out (.cells #[.bool false, .int .u64 0, .int .u64 0, .int .i64 0] 28))
    refine hK.out _ _ B2.out (fun _ => ?_)
    clear hK K
    try simp only [Act.put, List.setIfInBounds_toArray, List.set_cons_zero, List.set_cons_succ]
    exact o3_3_02 HT M1 M2 M3 HQ NN0.out NN1.out NN2.out (show W.heap.size ≠ j from Nat.ne_of_gt K2.out.1.2.2) _ B2.out ⟨HoldsD.zero4 rfl, HB.out.size⟩ ⟨K2.out.1.alloc _, K2.out.2⟩
  · go_simp
    have B2 := Lib.hid (ballD1 HB.out (.cells #[.bool false, .int .u64 0, .int .u64 0, .int .i64 0] 28))
    refine hK.out _ _ B2.out (fun _ => ?_)
    clear hK K
    try simp only [Act.put, List.setIfInBounds_toArray, List.set_cons_zero, List.set_cons_succ]
    exact o3_3_12 HT M1 M2 M3 HQ NN0.out NN1.out NN2.out (show W.heap.size ≠ j from Nat.ne_of_gt K2.out.1.2.2) _ B2.out ⟨HoldsD.zero4 rfl, HB.out.size⟩ ⟨K2.out.1.alloc _, K2.out.2⟩

set_option linter.unusedVariables false in
set_option linter.unusedSimpArgs false in
set_option maxRecDepth 100000 in
set_option maxHeartbeats 4000000 in
theorem o3_2_01 (HT : Hid (Tab w1)) (M1 : Hid (MakeC n1 h1 l1 x1)) (M2 : Hid (MakeC n2 h2 l2 x2)) (M3 : Hid (MakeC n3 h3 l3 x3)) (HQ : Hid (OkQ w1 (fun g k j na ah al ea nb bh bl eb nc ch cl ec => { tmps := #[Dv n1 h1 l1 x1, Dv n2 h2 l2 x2, Dv n3 h3 l3 x3, .pointer (some ⟨q, 0, none⟩), .pointer (some ⟨q + 1, 0, none⟩), .pointer (some ⟨q + 1 + 1, 0, none⟩), .bool false, .pointer (some ⟨g, 0, none⟩), .pointer (some ⟨k, 0, none⟩), .pointer (some ⟨j, 0, none⟩), undef, undef, undef, .bool true, .bool false, Dv n1 h1 l1 x1, Dv na ah al ea, Dv n2 h2 l2 x2, Dv nb bh bl eb, Dv n3 h3 l3 x3, Dv nc ch cl ec, undef, undef, undef, undef, undef, undef, undef, undef, undef, undef, undef, undef, undef, undef, undef, undef, undef, undef, undef, undef, undef, undef, undef, undef, undef, undef, undef, undef, undef, undef, undef, undef, undef, undef, undef, undef, undef, undef, undef, undef, undef, undef, undef, undef, undef, undef, undef, undef, undef, undef], defers := [] }) Q)) {na : Bool} {ah al : Nat} {ea : Int} (N0 : NumOk na ah al ea) {nb : Bool} {bh bl : Nat} {eb : Int} (N1 : NumOk nb bh bl eb) {g : Nat} {k : Nat} (D01 : g ≠ k) (W : World) (hb : Below w1.heap.size w1 W) (G0 : HoldsD W g false 0 0 0 ∧ w1.heap.size ≤ g) (G1 : HoldsD W k false 0 0 0 ∧ w1.heap.size ≤ k) : wpAnyH Tryd.prog .any opsO Q (fun w' => Below w1.heap.size w1 w') 5 #[true, true, true, true, true, false, true, true, false, false, false, false] { tmps := #[Dv n1 h1 l1 x1, Dv n2 h2 l2 x2, Dv n3 h3 l3 x3, .pointer (some ⟨q, 0, none⟩), .pointer (some ⟨q + 1, 0, none⟩), .pointer (some ⟨q + 1 + 1, 0, none⟩), .bool false, .pointer (some ⟨g, 0, none⟩), .pointer (some ⟨k, 0, none⟩), undef, undef, undef, undef, .bool true, .bool false, Dv n1 h1 l1 x1, Dv na ah al ea, Dv n2 h2 l2 x2, Dv nb bh bl eb, Dv n3 h3 l3 x3, undef, undef, undef, undef, undef, undef, undef, undef, undef, undef, undef, undef, undef, undef, undef, undef, undef, undef, undef, undef, undef, undef, undef, undef, undef, undef, undef, undef, undef, undef, undef, undef, undef, undef, undef, undef, undef, undef, undef, undef, undef, undef, undef, undef, undef, undef, undef, undef, undef, undef, undef], defers := [] } W := by
  have HB := Lib.hid hb
  have K0 := Lib.hid G0
  have K1 := Lib.hid G1
  have NN0 := Lib.hid N0
  have NN1 := Lib.hid N1
  have ED01 := Lib.hid D01
  clear hb G0 G1 N0 N1 D01
  refine wpAnyH_ready (rs := [5, 8]) (by kernel_rfl) (by simp) ?_
  refine AllReadyH.cons (o := { dst := some 20, op := Go.Op.call { callee := Go.Callee.value (Go.Operand.func 14), args := #[Go.Operand.tmp 19], argTypes := #[26] }, type := 28, pos := "law.go:158", after := #[{ on := 4, ground := Go.Ground.data }, { on := 3, ground := Go.Ground.chain }], guard := none }) rfl (fun K hK => ?_) (AllReadyH.cons (o := { dst := some 9, op := Go.Op.alloc 28, type := 0, pos := "law.go:158", after := #[], guard := none }) rfl (fun K hK => ?_) AllReadyH.nil)
  · go_simp
    refine (M3.out _ (HT.out.below HB.out)).mono ?_
    rintro e W2 ⟨nc, ch, cl, ec, N, rfl, hb2⟩
    have HN := Lib.hid N
    have B2 := Lib.hid (bstep HB.out hb2)
    replace K0 := Lib.hid (show HoldsD W2 g false 0 0 0 ∧ w1.heap.size ≤ g from ⟨K0.out.1.below hb2, K0.out.2⟩)
    replace K1 := Lib.hid (show HoldsD W2 k false 0 0 0 ∧ w1.heap.size ≤ k from ⟨K1.out.1.below hb2, K1.out.2⟩)
    clear hb2 N
    refine hK.out _ _ B2.out (fun _ => ?_)
    clear hK K
    try simp only [Act.put, List.setIfInBounds_toArray, List.set_cons_zero, List.set_cons_succ]
    exact o3_3_01 HT M1 M2 M3 HQ NN0.out NN1.out HN.out ED01.out _ B2.out K0.out K1.out
  · go_simp
    have B2 := Lib.hid (ballD1 HB.out (.cells #[.bool false, .int .u64 0, .int .u64 0, .int .i64 0] 28))
    refine hK.out _ _ B2.out (fun _ => ?_)
    clear hK K
    try simp only [Act.put, List.setIfInBounds_toArray, List.set_cons_zero, List.set_cons_succ]
    exact o3_2_012 HT M1 M2 M3 HQ NN0.out NN1.out ED01.out (show g ≠ W.heap.size from Nat.ne_of_lt K0.out.1.2.2) (show k ≠ W.heap.size from Nat.ne_of_lt K1.out.1.2.2) _ B2.out ⟨K0.out.1.alloc _, K0.out.2⟩ ⟨K1.out.1.alloc _, K1.out.2⟩ ⟨HoldsD.zero4 rfl, HB.out.size⟩

set_option linter.unusedVariables false in
set_option linter.unusedSimpArgs false in
set_option maxRecDepth 100000 in
set_option maxHeartbeats 4000000 in
theorem o3_2_02 (HT : Hid (Tab w1)) (M1 : Hid (MakeC n1 h1 l1 x1)) (M2 : Hid (MakeC n2 h2 l2 x2)) (M3 : Hid (MakeC n3 h3 l3 x3)) (HQ : Hid (OkQ w1 (fun g k j na ah al ea nb bh bl eb nc ch cl ec => { tmps := #[Dv n1 h1 l1 x1, Dv n2 h2 l2 x2, Dv n3 h3 l3 x3, .pointer (some ⟨q, 0, none⟩), .pointer (some ⟨q + 1, 0, none⟩), .pointer (some ⟨q + 1 + 1, 0, none⟩), .bool false, .pointer (some ⟨g, 0, none⟩), .pointer (some ⟨k, 0, none⟩), .pointer (some ⟨j, 0, none⟩), undef, undef, undef, .bool true, .bool false, Dv n1 h1 l1 x1, Dv na ah al ea, Dv n2 h2 l2 x2, Dv nb bh bl eb, Dv n3 h3 l3 x3, Dv nc ch cl ec, undef, undef, undef, undef, undef, undef, undef, undef, undef, undef, undef, undef, undef, undef, undef, undef, undef, undef, undef, undef, undef, undef, undef, undef, undef, undef, undef, undef, undef, undef, undef, undef, undef, undef, undef, undef, undef, undef, undef, undef, undef, undef, undef, undef, undef, undef, undef, undef, undef, undef], defers := [] }) Q)) {na : Bool} {ah al : Nat} {ea : Int} (N0 : NumOk na ah al ea) {nb : Bool} {bh bl : Nat} {eb : Int} (N1 : NumOk nb bh bl eb) {g : Nat} {j : Nat} (D02 : g ≠ j) (W : World) (hb : Below w1.heap.size w1 W) (G0 : HoldsD W g false 0 0 0 ∧ w1.heap.size ≤ g) (G2 : HoldsD W j false 0 0 0 ∧ w1.heap.size ≤ j) : wpAnyH Tryd.prog .any opsO Q (fun w' => Below w1.heap.size w1 w') 5 #[true, true, true, true, true, false, true, false, true, false, false, false] { tmps := #[Dv n1 h1 l1 x1, Dv n2 h2 l2 x2, Dv n3 h3 l3 x3, .pointer (some ⟨q, 0, none⟩), .pointer (some ⟨q + 1, 0, none⟩), .pointer (some ⟨q + 1 + 1, 0, none⟩), .bool false, .pointer (some ⟨g, 0, none⟩), undef, .pointer (some ⟨j, 0, none⟩), undef, undef, undef, .bool true, .bool false, Dv n1 h1 l1 x1, Dv na ah al ea, Dv n2 h2 l2 x2, Dv nb bh bl eb, Dv n3 h3 l3 x3, undef, undef, undef, undef, undef, undef, undef, undef, undef, undef, undef, undef, undef, undef, undef, undef, undef, undef, undef, undef, undef, undef, undef, undef, undef, undef, undef, undef, undef, undef, undef, undef, undef, undef, undef, undef, undef, undef, undef, undef, undef, undef, undef, undef, undef, undef, undef, undef, undef, undef, undef], defers := [] } W := by
  have HB := Lib.hid hb
  have K0 := Lib.hid G0
  have K2 := Lib.hid G2
  have NN0 := Lib.hid N0
  have NN1 := Lib.hid N1
  have ED02 := Lib.hid D02
  clear hb G0 G2 N0 N1 D02
  refine wpAnyH_ready (rs := [5, 7]) (by kernel_rfl) (by simp) ?_
  refine AllReadyH.cons (o := { dst := some 20, op := Go.Op.call { callee := Go.Callee.value (Go.Operand.func 14), args := #[Go.Operand.tmp 19], argTypes := #[26] }, type := 28, pos := "law.go:158", after := #[{ on := 4, ground := Go.Ground.data }, { on := 3, ground := Go.Ground.chain }], guard := none }) rfl (fun K hK => ?_) (AllReadyH.cons (o := { dst := some 8, op := Go.Op.alloc 28, type := 0, pos := "law.go:158", after := #[], guard := none }) rfl (fun K hK => ?_) AllReadyH.nil)
  · go_simp
    refine (M3.out _ (HT.out.below HB.out)).mono ?_
    rintro e W2 ⟨nc, ch, cl, ec, N, rfl, hb2⟩
    have HN := Lib.hid N
    have B2 := Lib.hid (bstep HB.out hb2)
    replace K0 := Lib.hid (show HoldsD W2 g false 0 0 0 ∧ w1.heap.size ≤ g from ⟨K0.out.1.below hb2, K0.out.2⟩)
    replace K2 := Lib.hid (show HoldsD W2 j false 0 0 0 ∧ w1.heap.size ≤ j from ⟨K2.out.1.below hb2, K2.out.2⟩)
    clear hb2 N
    refine hK.out _ _ B2.out (fun _ => ?_)
    clear hK K
    try simp only [Act.put, List.setIfInBounds_toArray, List.set_cons_zero, List.set_cons_succ]
    exact o3_3_02 HT M1 M2 M3 HQ NN0.out NN1.out HN.out ED02.out _ B2.out K0.out K2.out
  · go_simp
    have B2 := Lib.hid (ballD1 HB.out (.cells #[.bool false, .int .u64 0, .int .u64 0, .int .i64 0] 28))
    refine hK.out _ _ B2.out (fun _ => ?_)
    clear hK K
    try simp only [Act.put, List.setIfInBounds_toArray, List.set_cons_zero, List.set_cons_succ]
    exact o3_2_012 HT M1 M2 M3 HQ NN0.out NN1.out (show g ≠ W.heap.size from Nat.ne_of_lt K0.out.1.2.2) ED02.out (show W.heap.size ≠ j from Nat.ne_of_gt K2.out.1.2.2) _ B2.out ⟨K0.out.1.alloc _, K0.out.2⟩ ⟨HoldsD.zero4 rfl, HB.out.size⟩ ⟨K2.out.1.alloc _, K2.out.2⟩

set_option linter.unusedVariables false in
set_option linter.unusedSimpArgs false in
set_option maxRecDepth 100000 in
set_option maxHeartbeats 4000000 in
theorem o3_2_12 (HT : Hid (Tab w1)) (M1 : Hid (MakeC n1 h1 l1 x1)) (M2 : Hid (MakeC n2 h2 l2 x2)) (M3 : Hid (MakeC n3 h3 l3 x3)) (HQ : Hid (OkQ w1 (fun g k j na ah al ea nb bh bl eb nc ch cl ec => { tmps := #[Dv n1 h1 l1 x1, Dv n2 h2 l2 x2, Dv n3 h3 l3 x3, .pointer (some ⟨q, 0, none⟩), .pointer (some ⟨q + 1, 0, none⟩), .pointer (some ⟨q + 1 + 1, 0, none⟩), .bool false, .pointer (some ⟨g, 0, none⟩), .pointer (some ⟨k, 0, none⟩), .pointer (some ⟨j, 0, none⟩), undef, undef, undef, .bool true, .bool false, Dv n1 h1 l1 x1, Dv na ah al ea, Dv n2 h2 l2 x2, Dv nb bh bl eb, Dv n3 h3 l3 x3, Dv nc ch cl ec, undef, undef, undef, undef, undef, undef, undef, undef, undef, undef, undef, undef, undef, undef, undef, undef, undef, undef, undef, undef, undef, undef, undef, undef, undef, undef, undef, undef, undef, undef, undef, undef, undef, undef, undef, undef, undef, undef, undef, undef, undef, undef, undef, undef, undef, undef, undef, undef, undef, undef], defers := [] }) Q)) {na : Bool} {ah al : Nat} {ea : Int} (N0 : NumOk na ah al ea) {nb : Bool} {bh bl : Nat} {eb : Int} (N1 : NumOk nb bh bl eb) {k : Nat} {j : Nat} (D12 : k ≠ j) (W : World) (hb : Below w1.heap.size w1 W) (G1 : HoldsD W k false 0 0 0 ∧ w1.heap.size ≤ k) (G2 : HoldsD W j false 0 0 0 ∧ w1.heap.size ≤ j) : wpAnyH Tryd.prog .any opsO Q (fun w' => Below w1.heap.size w1 w') 5 #[true, true, true, true, true, false, false, true, true, false, false, false] { tmps := #[Dv n1 h1 l1 x1, Dv n2 h2 l2 x2, Dv n3 h3 l3 x3, .pointer (some ⟨q, 0, none⟩), .pointer (some ⟨q + 1, 0, none⟩), .pointer (some ⟨q + 1 + 1, 0, none⟩), .bool false, undef, .pointer (some ⟨k, 0, none⟩), .pointer (some ⟨j, 0, none⟩), undef, undef, undef, .bool true, .bool false, Dv n1 h1 l1 x1, Dv na ah al ea, Dv n2 h2 l2 x2, Dv nb bh bl eb, Dv n3 h3 l3 x3, undef, undef, undef, undef, undef, undef, undef, undef, undef, undef, undef, undef, undef, undef, undef, undef, undef, undef, undef, undef, undef, undef, undef, undef, undef, undef, undef, undef, undef, undef, undef, undef, undef, undef, undef, undef, undef, undef, undef, undef, undef, undef, undef, undef, undef, undef, undef, undef, undef, undef, undef], defers := [] } W := by
  have HB := Lib.hid hb
  have K1 := Lib.hid G1
  have K2 := Lib.hid G2
  have NN0 := Lib.hid N0
  have NN1 := Lib.hid N1
  have ED12 := Lib.hid D12
  clear hb G1 G2 N0 N1 D12
  refine wpAnyH_ready (rs := [5, 6]) (by kernel_rfl) (by simp) ?_
  refine AllReadyH.cons (o := { dst := some 20, op := Go.Op.call { callee := Go.Callee.value (Go.Operand.func 14), args := #[Go.Operand.tmp 19], argTypes := #[26] }, type := 28, pos := "law.go:158", after := #[{ on := 4, ground := Go.Ground.data }, { on := 3, ground := Go.Ground.chain }], guard := none }) rfl (fun K hK => ?_) (AllReadyH.cons (o := { dst := some 7, op := Go.Op.alloc 28, type := 0, pos := "law.go:158", after := #[], guard := none }) rfl (fun K hK => ?_) AllReadyH.nil)
  · go_simp
    refine (M3.out _ (HT.out.below HB.out)).mono ?_
    rintro e W2 ⟨nc, ch, cl, ec, N, rfl, hb2⟩
    have HN := Lib.hid N
    have B2 := Lib.hid (bstep HB.out hb2)
    replace K1 := Lib.hid (show HoldsD W2 k false 0 0 0 ∧ w1.heap.size ≤ k from ⟨K1.out.1.below hb2, K1.out.2⟩)
    replace K2 := Lib.hid (show HoldsD W2 j false 0 0 0 ∧ w1.heap.size ≤ j from ⟨K2.out.1.below hb2, K2.out.2⟩)
    clear hb2 N
    refine hK.out _ _ B2.out (fun _ => ?_)
    clear hK K
    try simp only [Act.put, List.setIfInBounds_toArray, List.set_cons_zero, List.set_cons_succ]
    exact o3_3_12 HT M1 M2 M3 HQ NN0.out NN1.out HN.out ED12.out _ B2.out K1.out K2.out
  · go_simp
    have B2 := Lib.hid (ballD1 HB.out (.cells #[.bool false, .int .u64 0, .int .u64 0, .int .i64 0] 28))
    refine hK.out _ _ B2.out (fun _ => ?_)
    clear hK K
    try simp only [Act.put, List.setIfInBounds_toArray, List.set_cons_zero, List.set_cons_succ]
    exact o3_2_012 HT M1 M2 M3 HQ NN0.out NN1.out (show W.heap.size ≠ k from Nat.ne_of_gt K1.out.1.2.2) (show W.heap.size ≠ j from Nat.ne_of_gt K2.out.1.2.2) ED12.out _ B2.out ⟨HoldsD.zero4 rfl, HB.out.size⟩ ⟨K1.out.1.alloc _, K1.out.2⟩ ⟨K2.out.1.alloc _, K2.out.2⟩

set_option linter.unusedVariables false in
set_option linter.unusedSimpArgs false in
set_option maxRecDepth 100000 in
set_option maxHeartbeats 4000000 in
theorem o3_1_012 (HT : Hid (Tab w1)) (M1 : Hid (MakeC n1 h1 l1 x1)) (M2 : Hid (MakeC n2 h2 l2 x2)) (M3 : Hid (MakeC n3 h3 l3 x3)) (HQ : Hid (OkQ w1 (fun g k j na ah al ea nb bh bl eb nc ch cl ec => { tmps := #[Dv n1 h1 l1 x1, Dv n2 h2 l2 x2, Dv n3 h3 l3 x3, .pointer (some ⟨q, 0, none⟩), .pointer (some ⟨q + 1, 0, none⟩), .pointer (some ⟨q + 1 + 1, 0, none⟩), .bool false, .pointer (some ⟨g, 0, none⟩), .pointer (some ⟨k, 0, none⟩), .pointer (some ⟨j, 0, none⟩), undef, undef, undef, .bool true, .bool false, Dv n1 h1 l1 x1, Dv na ah al ea, Dv n2 h2 l2 x2, Dv nb bh bl eb, Dv n3 h3 l3 x3, Dv nc ch cl ec, undef, undef, undef, undef, undef, undef, undef, undef, undef, undef, undef, undef, undef, undef, undef, undef, undef, undef, undef, undef, undef, undef, undef, undef, undef, undef, undef, undef, undef, undef, undef, undef, undef, undef, undef, undef, undef, undef, undef, undef, undef, undef, undef, undef, undef, undef, undef, undef, undef, undef], defers := [] }) Q)) {na : Bool} {ah al : Nat} {ea : Int} (N0 : NumOk na ah al ea) {g : Nat} {k : Nat} {j : Nat} (D01 : g ≠ k) (D02 : g ≠ j) (D12 : k ≠ j) (W : World) (hb : Below w1.heap.size w1 W) (G0 : HoldsD W g false 0 0 0 ∧ w1.heap.size ≤ g) (G1 : HoldsD W k false 0 0 0 ∧ w1.heap.size ≤ k) (G2 : HoldsD W j false 0 0 0 ∧ w1.heap.size ≤ j) : wpAnyH Tryd.prog .any opsO Q (fun w' => Below w1.heap.size w1 w') 5 #[true, true, true, false, true, false, true, true, true, false, false, false] { tmps := #[Dv n1 h1 l1 x1, Dv n2 h2 l2 x2, Dv n3 h3 l3 x3, .pointer (some ⟨q, 0, none⟩), .pointer (some ⟨q + 1, 0, none⟩), .pointer (some ⟨q + 1 + 1, 0, none⟩), .bool false, .pointer (some ⟨g, 0, none⟩), .pointer (some ⟨k, 0, none⟩), .pointer (some ⟨j, 0, none⟩), undef, undef, undef, .bool true, .bool false, Dv n1 h1 l1 x1, Dv na ah al ea, Dv n2 h2 l2 x2, undef, Dv n3 h3 l3 x3, undef, undef, undef, undef, undef, undef, undef, undef, undef, undef, undef, undef, undef, undef, undef, undef, undef, undef, undef, undef, undef, undef, undef, undef, undef, undef, undef, undef, undef, undef, undef, undef, undef, undef, undef, undef, undef, undef, undef, undef, undef, undef, undef, undef, undef, undef, undef, undef, undef, undef, undef], defers := [] } W := by
  have HB := Lib.hid hb
  have K0 := Lib.hid G0
  have K1 := Lib.hid G1
  have K2 := Lib.hid G2
  have NN0 := Lib.hid N0
  have ED01 := Lib.hid D01
  have ED02 := Lib.hid D02
  have ED12 := Lib.hid D12
  clear hb G0 G1 G2 N0 D01 D02 D12
  refine wpAnyH_ready (rs := [3]) (by kernel_rfl) (by simp) ?_
  refine AllReadyH.cons (o := { dst := some 18, op := Go.Op.call { callee := Go.Callee.value (Go.Operand.func 14), args := #[Go.Operand.tmp 17], argTypes := #[26] }, type := 28, pos := "law.go:158", after := #[{ on := 2, ground := Go.Ground.data }, { on := 1, ground := Go.Ground.chain }], guard := none }) rfl (fun K hK => ?_) AllReadyH.nil
  · go_simp
    refine (M2.out _ (HT.out.below HB.out)).mono ?_
    rintro e W2 ⟨nb, bh, bl, eb, N, rfl, hb2⟩
    have HN := Lib.hid N
    have B2 := Lib.hid (bstep HB.out hb2)
    replace K0 := Lib.hid (show HoldsD W2 g false 0 0 0 ∧ w1.heap.size ≤ g from ⟨K0.out.1.below hb2, K0.out.2⟩)
    replace K1 := Lib.hid (show HoldsD W2 k false 0 0 0 ∧ w1.heap.size ≤ k from ⟨K1.out.1.below hb2, K1.out.2⟩)
    replace K2 := Lib.hid (show HoldsD W2 j false 0 0 0 ∧ w1.heap.size ≤ j from ⟨K2.out.1.below hb2, K2.out.2⟩)
    clear hb2 N
    refine hK.out _ _ B2.out (fun _ => ?_)
    clear hK K
    try simp only [Act.put, List.setIfInBounds_toArray, List.set_cons_zero, List.set_cons_succ]
    exact o3_2_012 HT M1 M2 M3 HQ NN0.out HN.out ED01.out ED02.out ED12.out _ B2.out K0.out K1.out K2.out

set_option linter.unusedVariables false in
set_option linter.unusedSimpArgs false in
set_option maxRecDepth 100000 in
set_option maxHeartbeats 4000000 in
theorem o3_3_n (HT : Hid (Tab w1)) (M1 : Hid (MakeC n1 h1 l1 x1)) (M2 : Hid (MakeC n2 h2 l2 x2)) (M3 : Hid (MakeC n3 h3 l3 x3)) (HQ : Hid (OkQ w1 (fun g k j na ah al ea nb bh bl eb nc ch cl ec => { tmps := #[Dv n1 h1 l1 x1, Dv n2 h2 l2 x2, Dv n3 h3 l3 x3, .pointer (some ⟨q, 0, none⟩), .pointer (some ⟨q + 1, 0, none⟩), .pointer (some ⟨q + 1 + 1, 0, none⟩), .bool false, .pointer (some ⟨g, 0, none⟩), .pointer (some ⟨k, 0, none⟩), .pointer (some ⟨j, 0, none⟩), undef, undef, undef, .bool true, .bool false, Dv n1 h1 l1 x1, Dv na ah al ea, Dv n2 h2 l2 x2, Dv nb bh bl eb, Dv n3 h3 l3 x3, Dv nc ch cl ec, undef, undef, undef, undef, undef, undef, undef, undef, undef, undef, undef, undef, undef, undef, undef, undef, undef, undef, undef, undef, undef, undef, undef, undef, undef, undef, undef, undef, undef, undef, undef, undef, undef, undef, undef, undef, undef, undef, undef, undef, undef, undef, undef, undef, undef, undef, undef, undef, undef, undef], defers := [] }) Q)) {na : Bool} {ah al : Nat} {ea : Int} (N0 : NumOk na ah al ea) {nb : Bool} {bh bl : Nat} {eb : Int} (N1 : NumOk nb bh bl eb) {nc : Bool} {ch cl : Nat} {ec : Int} (N2 : NumOk nc ch cl ec)   (W : World) (hb : Below w1.heap.size w1 W)  : wpAnyH Tryd.prog .any opsO Q (fun w' => Below w1.heap.size w1 w') 6 #[true, true, true, true, true, true, false, false, false, false, false, false] { tmps := #[Dv n1 h1 l1 x1, Dv n2 h2 l2 x2, Dv n3 h3 l3 x3, .pointer (some ⟨q, 0, none⟩), .pointer (some ⟨q + 1, 0, none⟩), .pointer (some ⟨q + 1 + 1, 0, none⟩), .bool false, undef, undef, undef, undef, undef, undef, .bool true, .bool false, Dv n1 h1 l1 x1, Dv na ah al ea, Dv n2 h2 l2 x2, Dv nb bh bl eb, Dv n3 h3 l3 x3, Dv nc ch cl ec, undef, undef, undef, undef, undef, undef, undef, undef, undef, undef, undef, undef, undef, undef, undef, undef, undef, undef, undef, undef, undef, undef, undef, undef, undef, undef, undef, undef, undef, undef, undef, undef, undef, undef, undef, undef, undef, undef, undef, undef, undef, undef, undef, undef, undef, undef, undef, undef, undef, undef], defers := [] } W := by
  have HB := Lib.hid hb
  have NN0 := Lib.hid N0
  have NN1 := Lib.hid N1
  have NN2 := Lib.hid N2
  clear hb  N0 N1 N2 
  refine wpAnyH_ready (rs := [6, 7, 8]) (by kernel_rfl) (by simp) ?_
  refine AllReadyH.cons (o := { dst := some 7, op := Go.Op.alloc 28, type := 0, pos := "law.go:158", after := #[], guard := none }) rfl (fun K hK => ?_) (AllReadyH.cons (o := { dst := some 8, op := Go.Op.alloc 28, type := 0, pos := "law.go:158", after := #[], guard := none }) rfl (fun K hK => ?_) (AllReadyH.cons (o := { dst := some 9, op := Go.Op.alloc 28, type := 0, pos := "law.go:158", after := #[], guard := none }) rfl (fun K hK => ?_) AllReadyH.nil))
  · go_simp
    have B2 := Lib.hid (ballD1 HB.out (.cells #[.bool false, .int .u64 0, .int .u64 0, .int .i64 0] 28))
    refine hK.out _ _ B2.out (fun _ => ?_)
    clear hK K
    try simp only [Act.put, List.setIfInBounds_toArray, List.set_cons_zero, List.set_cons_succ]
    exact o3_3_0 HT M1 M2 M3 HQ NN0.out NN1.out NN2.out  _ B2.out ⟨HoldsD.zero4 rfl, HB.out.size⟩
  · go_simp
    have B2 := Lib.hid (ballD1 HB.out (.cells #[.bool false, .int .u64 0, .int .u64 0, .int .i64 0] 28))
    refine hK.out _ _ B2.out (fun _ => ?_)
    clear hK K
    try simp only [Act.put, List.setIfInBounds_toArray, List.set_cons_zero, List.set_cons_succ]
    exact o3_3_1 HT M1 M2 M3 HQ NN0.out NN1.out NN2.out  _ B2.out ⟨HoldsD.zero4 rfl, HB.out.size⟩
  · go_simp
    have B2 := Lib.hid (ballD1 HB.out (.cells #[.bool false, .int .u64 0, .int .u64 0, .int .i64 0] 28))
    refine hK.out _ _ B2.out (fun _ => ?_)
    clear hK K
    try simp only [Act.put, List.setIfInBounds_toArray, List.set_cons_zero, List.set_cons_succ]
    exact o3_3_2 HT M1 M2 M3 HQ NN0.out NN1.out NN2.out  _ B2.out ⟨HoldsD.zero4 rfl, HB.out.size⟩

set_option linter.unusedVariables false in
set_option linter.unusedSimpArgs false in
set_option maxRecDepth 100000 in
set_option maxHeartbeats 4000000 in
theorem o3_2_0 (HT : Hid (Tab w1)) (M1 : Hid (MakeC n1 h1 l1 x1)) (M2 : Hid (MakeC n2 h2 l2 x2)) (M3 : Hid (MakeC n3 h3 l3 x3)) (HQ : Hid (OkQ w1 (fun g k j na ah al ea nb bh bl eb nc ch cl ec => { tmps := #[Dv n1 h1 l1 x1, Dv n2 h2 l2 x2, Dv n3 h3 l3 x3, .pointer (some ⟨q, 0, none⟩), .pointer (some ⟨q + 1, 0, none⟩), .pointer (some ⟨q + 1 + 1, 0, none⟩), .bool false, .pointer (some ⟨g, 0, none⟩), .pointer (some ⟨k, 0, none⟩), .pointer (some ⟨j, 0, none⟩), undef, undef, undef, .bool true, .bool false, Dv n1 h1 l1 x1, Dv na ah al ea, Dv n2 h2 l2 x2, Dv nb bh bl eb, Dv n3 h3 l3 x3, Dv nc ch cl ec, undef, undef, undef, undef, undef, undef, undef, undef, undef, undef, undef, undef, undef, undef, undef, undef, undef, undef, undef, undef, undef, undef, undef, undef, undef, undef, undef, undef, undef, undef, undef, undef, undef, undef, undef, undef, undef, undef, undef, undef, undef, undef, undef, undef, undef, undef, undef, undef, undef, undef], defers := [] }) Q)) {na : Bool} {ah al : Nat} {ea : Int} (N0 : NumOk na ah al ea) {nb : Bool} {bh bl : Nat} {eb : Int} (N1 : NumOk nb bh bl eb) {g : Nat}  (W : World) (hb : Below w1.heap.size w1 W) (G0 : HoldsD W g false 0 0 0 ∧ w1.heap.size ≤ g) : wpAnyH Tryd.prog .any opsO Q (fun w' => Below w1.heap.size w1 w') 6 #[true, true, true, true, true, false, true, false, false, false, false, false] { tmps := #[Dv n1 h1 l1 x1, Dv n2 h2 l2 x2, Dv n3 h3 l3 x3, .pointer (some ⟨q, 0, none⟩), .pointer (some ⟨q + 1, 0, none⟩), .pointer (some ⟨q + 1 + 1, 0, none⟩), .bool false, .pointer (some ⟨g, 0, none⟩), undef, undef, undef, undef, undef, .bool true, .bool false, Dv n1 h1 l1 x1, Dv na ah al ea, Dv n2 h2 l2 x2, Dv nb bh bl eb, Dv n3 h3 l3 x3, undef, undef, undef, undef, undef, undef, undef, undef, undef, undef, undef, undef, undef, undef, undef, undef, undef, undef, undef, undef, undef, undef, undef, undef, undef, undef, undef, undef, undef, undef, undef, undef, undef, undef, undef, undef, undef, undef, undef, undef, undef, undef, undef, undef, undef, undef, undef, undef, undef, undef, undef], defers := [] } W := by
  have HB := Lib.hid hb
  have K0 := Lib.hid G0
  have NN0 := Lib.hid N0
  have NN1 := Lib.hid N1
  clear hb G0 N0 N1 
  refine wpAnyH_ready (rs := [5, 7, 8]) (by kernel_rfl) (by simp) ?_
  refine AllReadyH.cons (o := { dst := some 20, op := Go.Op.call { callee := Go.Callee.value (Go.Operand.func 14), args := #[Go.Operand.tmp 19], argTypes := #[26] }, type := 28, pos := "law.go:158", after := #[{ on := 4, ground := Go.Ground.data }, { on := 3, ground := Go.Ground.chain }], guard := none }) rfl (fun K hK => ?_) (AllReadyH.cons (o := { dst := some 8, op := Go.Op.alloc 28, type := 0, pos := "law.go:158", after := #[], guard := none }) rfl (fun K hK => ?_) (AllReadyH.cons (o := { dst := some 9, op := Go.Op.alloc 28, type := 0, pos := "law.go:158", after := #[], guard := none }) rfl (fun K hK => ?_) AllReadyH.nil))
  · go_simp
    refine (M3.out _ (HT.out.below HB.out)).mono ?_
    rintro e W2 ⟨nc, ch, cl, ec, N, rfl, hb2⟩
    have HN := Lib.hid N
    have B2 := Lib.hid (bstep HB.out hb2)
    replace K0 := Lib.hid (show HoldsD W2 g false 0 0 0 ∧ w1.heap.size ≤ g from ⟨K0.out.1.below hb2, K0.out.2⟩)
    clear hb2 N
    refine hK.out _ _ B2.out (fun _ => ?_)
    clear hK K
    try simp only [Act.put, List.setIfInBounds_toArray, List.set_cons_zero, List.set_cons_succ]
    exact o3_3_0 HT M1 M2 M3 HQ NN0.out NN1.out HN.out  _ B2.out K0.out
  · go_simp
    have B2 := Lib.hid (ballD1 HB.out (.cells #[.bool false, .int .u64 0, .int .u64 0, .int .i64 0] 28))
    refine hK.out _ _ B2.out (fun _ => ?_)
    clear hK K
    try simp only [Act.put, List.setIfInBounds_toArray, List.set_cons_zero, List.set_cons_succ]
    exact o3_2_01 HT M1 M2 M3 HQ NN0.out NN1.out (show g ≠ W.heap.size from Nat.ne_of_lt K0.out.1.2.2) _ B2.out ⟨K0.out.1.alloc _, K0.out.2⟩ ⟨HoldsD.zero4 rfl, HB.out.size⟩
  · go_simp
    have B2 := Lib.hid (ballD1 HB.out (.cells #[.bool false, .int .u64 0, .int .u64 0, .int .i64 0] 28))
    refine hK.out _ _ B2.out (fun _ => ?_)
    clear hK K
    try simp only [Act.put, List.setIfInBounds_toArray, List.set_cons_zero, List.set_cons_succ]
    exact o3_2_02 HT M1 M2 M3 HQ NN0.out NN1.out (show g ≠ W.heap.size from Nat.ne_of_lt K0.out.1.2.2) _ B2.out ⟨K0.out.1.alloc _, K0.out.2⟩ ⟨HoldsD.zero4 rfl, HB.out.size⟩

set_option linter.unusedVariables false in
set_option linter.unusedSimpArgs false in
set_option maxRecDepth 100000 in
set_option maxHeartbeats 4000000 in
theorem o3_2_1 (HT : Hid (Tab w1)) (M1 : Hid (MakeC n1 h1 l1 x1)) (M2 : Hid (MakeC n2 h2 l2 x2)) (M3 : Hid (MakeC n3 h3 l3 x3)) (HQ : Hid (OkQ w1 (fun g k j na ah al ea nb bh bl eb nc ch cl ec => { tmps := #[Dv n1 h1 l1 x1, Dv n2 h2 l2 x2, Dv n3 h3 l3 x3, .pointer (some ⟨q, 0, none⟩), .pointer (some ⟨q + 1, 0, none⟩), .pointer (some ⟨q + 1 + 1, 0, none⟩), .bool false, .pointer (some ⟨g, 0, none⟩), .pointer (some ⟨k, 0, none⟩), .pointer (some ⟨j, 0, none⟩), undef, undef, undef, .bool true, .bool false, Dv n1 h1 l1 x1, Dv na ah al ea, Dv n2 h2 l2 x2, Dv nb bh bl eb, Dv n3 h3 l3 x3, Dv nc ch cl ec, undef, undef, undef, undef, undef, undef, undef, undef, undef, undef, undef, undef, undef, undef, undef, undef, undef, undef, undef, undef, undef, undef, undef, undef, undef, undef, undef, undef, undef, undef, undef, undef, undef, undef, undef, undef, undef, undef, undef, undef, undef, undef, undef, undef, undef, undef, undef, undef, undef, undef], defers := [] }) Q)) {na : Bool} {ah al : Nat} {ea : Int} (N0 : NumOk na ah al ea) {nb : Bool} {bh bl : Nat} {eb : Int} (N1 : NumOk nb bh bl eb) {k : Nat}  (W : World) (hb : Below w1.heap.size w1 W) (G1 : HoldsD W k false 0 0 0 ∧ w1.heap.size ≤ k) : wpAnyH Tryd.prog .any opsO Q (fun w' => Below w1.heap.size w1 w') 6 #[true, true, true, true, true, false, false, true, false, false, false, false] { tmps := #[Dv n1 h1 l1 x1, Dv n2 h2 l2 x2, Dv n3 h3 l3 x3, .pointer (some ⟨q, 0, none⟩), .pointer (some ⟨q + 1, 0, none⟩), .pointer (some ⟨q + 1 + 1, 0, none⟩), .bool false, undef, .pointer (some ⟨k, 0, none⟩), undef, undef, undef, undef, .bool true, .bool false, Dv n1 h1 l1 x1, Dv na ah al ea, Dv n2 h2 l2 x2, Dv nb bh bl eb, Dv n3 h3 l3 x3, undef, undef, undef, undef, undef, undef, undef, undef, undef, undef, undef, undef, undef, undef, undef, undef, undef, undef, undef, undef, undef, undef, undef, undef, undef, undef, undef, undef, undef, undef, undef, undef, undef, undef, undef, undef, undef, undef, undef, undef, undef, undef, undef, undef, undef, undef, undef, undef, undef, undef, undef], defers := [] } W := by
  have HB := Lib.hid hb
  have K1 := Lib.hid G1
  have NN0 := Lib.hid N0
  have NN1 := Lib.hid N1
  clear hb G1 N0 N1 
  refine wpAnyH_ready (rs := [5, 6, 8]) (by kernel_rfl) (by simp) ?_
  refine AllReadyH.cons (o := { dst := some 20, op := Go.Op.call { callee := Go.Callee.value (Go.Operand.func 14), args := #[Go.Operand.tmp 19], argTypes := #[26] }, type := 28, pos := "law.go:158", after := #[{ on := 4, ground := Go.Ground.data }, { on := 3, ground := Go.Ground.chain }], guard := none }) rfl (fun K hK => ?_) (AllReadyH.cons (o := { dst := some 7, op := Go.Op.alloc 28, type := 0, pos := "law.go:158", after := #[], guard := none }) rfl (fun K hK => ?_) (AllReadyH.cons (o := { dst := some 9, op := Go.Op.alloc 28, type := 0, pos := "law.go:158", after := #[], guard := none }) rfl (fun K hK => ?_) AllReadyH.nil))
  · go_simp
    refine (M3.out _ (HT.out.below HB.out)).mono ?_
    rintro e W2 ⟨nc, ch, cl, ec, N, rfl, hb2⟩
    have HN := Lib.hid N
    have B2 := Lib.hid (bstep HB.out hb2)
    replace K1 := Lib.hid (show HoldsD W2 k false 0 0 0 ∧ w1.heap.size ≤ k from ⟨K1.out.1.below hb2, K1.out.2⟩)
    clear hb2 N
    refine hK.out _ _ B2.out (fun _ => ?_)
    clear hK K
    try simp only [Act.put, List.setIfInBounds_toArray, List.set_cons_zero, List.set_cons_succ]
    exact o3_3_1 HT M1 M2 M3 HQ NN0.out NN1.out HN.out  _ B2.out K1.out
  · go_simp
    have B2 := Lib.hid (ballD1 HB.out (.cells #[.bool false, .int .u64 0, .int .u64 0, .int .i64 0] 28))
    refine hK.out _ _ B2.out (fun _ => ?_)
    clear hK K
    try simp only [Act.put, List.setIfInBounds_toArray, List.set_cons_zero, List.set_cons_succ]
    exact o3_2_01 HT M1 M2 M3 HQ NN0.out NN1.out (show W.heap.size ≠ k from Nat.ne_of_gt K1.out.1.2.2) _ B2.out ⟨HoldsD.zero4 rfl, HB.out.size⟩ ⟨K1.out.1.alloc _, K1.out.2⟩
  · go_simp
    have B2 := Lib.hid (ballD1 HB.out (.cells #[.bool false, .int .u64 0, .int .u64 0, .int .i64 0] 28))
    refine hK.out _ _ B2.out (fun _ => ?_)
    clear hK K
    try simp only [Act.put, List.setIfInBounds_toArray, List.set_cons_zero, List.set_cons_succ]
    exact o3_2_12 HT M1 M2 M3 HQ NN0.out NN1.out (show k ≠ W.heap.size from Nat.ne_of_lt K1.out.1.2.2) _ B2.out ⟨K1.out.1.alloc _, K1.out.2⟩ ⟨HoldsD.zero4 rfl, HB.out.size⟩

set_option linter.unusedVariables false in
set_option linter.unusedSimpArgs false in
set_option maxRecDepth 100000 in
set_option maxHeartbeats 4000000 in
theorem o3_2_2 (HT : Hid (Tab w1)) (M1 : Hid (MakeC n1 h1 l1 x1)) (M2 : Hid (MakeC n2 h2 l2 x2)) (M3 : Hid (MakeC n3 h3 l3 x3)) (HQ : Hid (OkQ w1 (fun g k j na ah al ea nb bh bl eb nc ch cl ec => { tmps := #[Dv n1 h1 l1 x1, Dv n2 h2 l2 x2, Dv n3 h3 l3 x3, .pointer (some ⟨q, 0, none⟩), .pointer (some ⟨q + 1, 0, none⟩), .pointer (some ⟨q + 1 + 1, 0, none⟩), .bool false, .pointer (some ⟨g, 0, none⟩), .pointer (some ⟨k, 0, none⟩), .pointer (some ⟨j, 0, none⟩), undef, undef, undef, .bool true, .bool false, Dv n1 h1 l1 x1, Dv na ah al ea, Dv n2 h2 l2 x2, Dv nb bh bl eb, Dv n3 h3 l3 x3, Dv nc ch cl ec, undef, undef, undef, undef, undef, undef, undef, undef, undef, undef, undef, undef, undef, undef, undef, undef, undef, undef, undef, undef, undef, undef, undef, undef, undef, undef, undef, undef, undef, undef, undef, undef, undef, undef, undef, undef, undef, undef, undef, undef, undef, undef, undef, undef, undef, undef, undef, undef, undef, undef], defers := [] }) Q)) {na : Bool} {ah al : Nat} {ea : Int} (N0 : NumOk na ah al ea) {nb : Bool} {bh bl : Nat} {eb : Int} (N1 : NumOk nb bh bl eb) {j : Nat}  (W : World) (hb : Below w1.heap.size w1 W) (G2 : HoldsD W j false 0 0 0 ∧ w1.heap.size ≤ j) : wpAnyH Tryd.prog .any opsO Q (fun w' => Below w1.heap.size w1 w') 6 #[true, true, true, true, true, false, false, false, true, false, false, false] { tmps := #[Dv n1 h1 l1 x1, Dv n2 h2 l2 x2, Dv n3 h3 l3 x3, .pointer (some ⟨q, 0, none⟩), .pointer (some ⟨q + 1, 0, none⟩), .pointer (some ⟨q + 1 + 1, 0, none⟩), .bool false, undef, undef, .pointer (some ⟨j, 0, none⟩), undef, undef, undef, .bool true, .bool false, Dv n1 h1 l1 x1, Dv na ah al ea, Dv n2 h2 l2 x2, Dv nb bh bl eb, Dv n3 h3 l3 x3, undef, undef, undef, undef, undef, undef, undef, undef, undef, undef, undef, undef, undef, undef, undef, undef, undef, undef, undef, undef, undef, undef, undef, undef, undef, undef, undef, undef, undef, undef, undef, undef, undef, undef, undef, undef, undef, undef, undef, undef, undef, undef, undef, undef, undef, undef, undef, undef, undef, undef, undef], defers := [] } W := by
  have HB := Lib.hid hb
  have K2 := Lib.hid G2
  have NN0 := Lib.hid N0
  have NN1 := Lib.hid N1
  clear hb G2 N0 N1 
  refine wpAnyH_ready (rs := [5, 6, 7]) (by kernel_rfl) (by simp) ?_
  refine AllReadyH.cons (o := { dst := some 20, op := Go.Op.call { callee := Go.Callee.value (Go.Operand.func 14), args := #[Go.Operand.tmp 19], argTypes := #[26] }, type := 28, pos := "law.go:158", after := #[{ on := 4, ground := Go.Ground.data }, { on := 3, ground := Go.Ground.chain }], guard := none }) rfl (fun K hK => ?_) (AllReadyH.cons (o := { dst := some 7, op := Go.Op.alloc 28, type := 0, pos := "law.go:158", after := #[], guard := none }) rfl (fun K hK => ?_) (AllReadyH.cons (o := { dst := some 8, op := Go.Op.alloc 28, type := 0, pos := "law.go:158", after := #[], guard := none }) rfl (fun K hK => ?_) AllReadyH.nil))
  · go_simp
    refine (M3.out _ (HT.out.below HB.out)).mono ?_
    rintro e W2 ⟨nc, ch, cl, ec, N, rfl, hb2⟩
    have HN := Lib.hid N
    have B2 := Lib.hid (bstep HB.out hb2)
    replace K2 := Lib.hid (show HoldsD W2 j false 0 0 0 ∧ w1.heap.size ≤ j from ⟨K2.out.1.below hb2, K2.out.2⟩)
    clear hb2 N
    refine hK.out _ _ B2.out (fun _ => ?_)
    clear hK K
    try simp only [Act.put, List.setIfInBounds_toArray, List.set_cons_zero, List.set_cons_succ]
    exact o3_3_2 HT M1 M2 M3 HQ NN0.out NN1.out HN.out  _ B2.out K2.out
  · go_simp
    have B2 := Lib.hid (ballD1 HB.out (.cells #[.bool false, .int .u64 0, .int .u64 0, .int .i64 0] 28))
    refine hK.out _ _ B2.out (fun _ => ?_)
    clear hK K
    try simp only [Act.put, List.setIfInBounds_toArray, List.set_cons_zero, List.set_cons_succ]
    exact o3_2_02 HT M1 M2 M3 HQ NN0.out NN1.out (show W.heap.size ≠ j from Nat.ne_of_gt K2.out.1.2.2) _ B2.out ⟨HoldsD.zero4 rfl, HB.out.size⟩ ⟨K2.out.1.alloc _, K2.out.2⟩
  · go_simp
    have B2 := Lib.hid (ballD1 HB.out (.cells #[.bool false, .int .u64 0, .int .u64 0, .int .i64 0] 28))
    refine hK.out _ _ B2.out (fun _ => ?_)
    clear hK K
    try simp only [Act.put, List.setIfInBounds_toArray, List.set_cons_zero, List.set_cons_succ]
    exact o3_2_12 HT M1 M2 M3 HQ NN0.out NN1.out (show W.heap.size ≠ j from Nat.ne_of_gt K2.out.1.2.2) _ B2.out ⟨HoldsD.zero4 rfl, HB.out.size⟩ ⟨K2.out.1.alloc _, K2.out.2⟩

set_option linter.unusedVariables false in
set_option linter.unusedSimpArgs false in
set_option maxRecDepth 100000 in
set_option maxHeartbeats 4000000 in
theorem o3_1_01 (HT : Hid (Tab w1)) (M1 : Hid (MakeC n1 h1 l1 x1)) (M2 : Hid (MakeC n2 h2 l2 x2)) (M3 : Hid (MakeC n3 h3 l3 x3)) (HQ : Hid (OkQ w1 (fun g k j na ah al ea nb bh bl eb nc ch cl ec => { tmps := #[Dv n1 h1 l1 x1, Dv n2 h2 l2 x2, Dv n3 h3 l3 x3, .pointer (some ⟨q, 0, none⟩), .pointer (some ⟨q + 1, 0, none⟩), .pointer (some ⟨q + 1 + 1, 0, none⟩), .bool false, .pointer (some ⟨g, 0, none⟩), .pointer (some ⟨k, 0, none⟩), .pointer (some ⟨j, 0, none⟩), undef, undef, undef, .bool true, .bool false, Dv n1 h1 l1 x1, Dv na ah al ea, Dv n2 h2 l2 x2, Dv nb bh bl eb, Dv n3 h3 l3 x3, Dv nc ch cl ec, undef, undef, undef, undef, undef, undef, undef, undef, undef, undef, undef, undef, undef, undef, undef, undef, undef, undef, undef, undef, undef, undef, undef, undef, undef, undef, undef, undef, undef, undef, undef, undef, undef, undef, undef, undef, undef, undef, undef, undef, undef, undef, undef, undef, undef, undef, undef, undef, undef, undef], defers := [] }) Q)) {na : Bool} {ah al : Nat} {ea : Int} (N0 : NumOk na ah al ea) {g : Nat} {k : Nat} (D01 : g ≠ k) (W : World) (hb : Below w1.heap.size w1 W) (G0 : HoldsD W g false 0 0 0 ∧ w1.heap.size ≤ g) (G1 : HoldsD W k false 0 0 0 ∧ w1.heap.size ≤ k) : wpAnyH Tryd.prog .any opsO Q (fun w' => Below w1.heap.size w1 w') 6 #[true, true, true, false, true, false, true, true, false, false, false, false] { tmps := #[Dv n1 h1 l1 x1, Dv n2 h2 l2 x2, Dv n3 h3 l3 x3, .pointer (some ⟨q, 0, none⟩), .pointer (some ⟨q + 1, 0, none⟩), .pointer (some ⟨q + 1 + 1, 0, none⟩), .bool false, .pointer (some ⟨g, 0, none⟩), .pointer (some ⟨k, 0, none⟩), undef, undef, undef, undef, .bool true, .bool false, Dv n1 h1 l1 x1, Dv na ah al ea, Dv n2 h2 l2 x2, undef, Dv n3 h3 l3 x3, undef, undef, undef, undef, undef, undef, undef, undef, undef, undef, undef, undef, undef, undef, undef, undef, undef, undef, undef, undef, undef, undef, undef, undef, undef, undef, undef, undef, undef, undef, undef, undef, undef, undef, undef, undef, undef, undef, undef, undef, undef, undef, undef, undef, undef, undef, undef, undef, undef, undef, undef], defers := [] } W := by
  have HB := Lib.hid hb
  have K0 := Lib.hid G0
  have K1 := Lib.hid G1
  have NN0 := Lib.hid N0
  have ED01 := Lib.hid D01
  clear hb G0 G1 N0 D01
  refine wpAnyH_ready (rs := [3, 8]) (by kernel_rfl) (by simp) ?_
  refine AllReadyH.cons (o := { dst := some 18, op := Go.Op.call { callee := Go.Callee.value (Go.Operand.func 14), args := #[Go.Operand.tmp 17], argTypes := #[26] }, type := 28, pos := "law.go:158", after := #[{ on := 2, ground := Go.Ground.data }, { on := 1, ground := Go.Ground.chain }], guard := none }) rfl (fun K hK => ?_) (AllReadyH.cons (o := { dst := some 9, op := Go.Op.alloc 28, type := 0, pos := "law.go:158", after := #[], guard := none }) rfl (fun K hK => ?_) AllReadyH.nil)
  · go_simp
    refine (M2.out _ (HT.out.below HB.out)).mono ?_
    rintro e W2 ⟨nb, bh, bl, eb, N, rfl, hb2⟩
    have HN := Lib.hid N
    have B2 := Lib.hid (bstep HB.out hb2)
    replace K0 := Lib.hid (show HoldsD W2 g false 0 0 0 ∧ w1.heap.size ≤ g from ⟨K0.out.1.below hb2, K0.out.2⟩)
    replace K1 := Lib.hid (show HoldsD W2 k false 0 0 0 ∧ w1.heap.size ≤ k from ⟨K1.out.1.below hb2, K1.out.2⟩)
    clear hb2 N
    refine hK.out _ _ B2.out (fun _ => ?_)
    clear hK K
    try simp only [Act.put, List.setIfInBounds_toArray, List.set_cons_zero, List.set_cons_succ]
    exact o3_2_01 HT M1 M2 M3 HQ NN0.out HN.out ED01.out _ B2.out K0.out K1.out
  · go_simp
    have B2 := Lib.hid (ballD1 HB.out (.cells #[.bool false, .int .u64 0, .int .u64 0, .int .i64 0] 28))
    refine hK.out _ _ B2.out (fun _ => ?_)
    clear hK K
    try simp only [Act.put, List.setIfInBounds_toArray, List.set_cons_zero, List.set_cons_succ]
    exact o3_1_012 HT M1 M2 M3 HQ NN0.out ED01.out (show g ≠ W.heap.size from Nat.ne_of_lt K0.out.1.2.2) (show k ≠ W.heap.size from Nat.ne_of_lt K1.out.1.2.2) _ B2.out ⟨K0.out.1.alloc _, K0.out.2⟩ ⟨K1.out.1.alloc _, K1.out.2⟩ ⟨HoldsD.zero4 rfl, HB.out.size⟩

set_option linter.unusedVariables false in
set_option linter.unusedSimpArgs false in
set_option maxRecDepth 100000 in
set_option maxHeartbeats 4000000 in
theorem o3_1_02 (HT : Hid (Tab w1)) (M1 : Hid (MakeC n1 h1 l1 x1)) (M2 : Hid (MakeC n2 h2 l2 x2)) (M3 : Hid (MakeC n3 h3 l3 x3)) (HQ : Hid (OkQ w1 (fun g k j na ah al ea nb bh bl eb nc ch cl ec => { tmps := #[Dv n1 h1 l1 x1, Dv n2 h2 l2 x2, Dv n3 h3 l3 x3, .pointer (some ⟨q, 0, none⟩), .pointer (some ⟨q + 1, 0, none⟩), .pointer (some ⟨q + 1 + 1, 0, none⟩), .bool false, .pointer (some ⟨g, 0, none⟩), .pointer (some ⟨k, 0, none⟩), .pointer (some ⟨j, 0, none⟩), undef, undef, undef, .bool true, .bool false, Dv n1 h1 l1 x1, Dv na ah al ea, Dv n2 h2 l2 x2, Dv nb bh bl eb, Dv n3 h3 l3 x3, Dv nc ch cl ec, undef, undef, undef, undef, undef, undef, undef, undef, undef, undef, undef, undef, undef, undef, undef, undef, undef, undef, undef, undef, undef, undef, undef, undef, undef, undef, undef, undef, undef, undef, undef, undef, undef, undef, undef, undef, undef, undef, undef, undef, undef, undef, undef, undef, undef, undef, undef, undef, undef, undef], defers := [] }) Q)) {na : Bool} {ah al : Nat} {ea : Int} (N0 : NumOk na ah al ea) {g : Nat} {j : Nat} (D02 : g ≠ j) (W : World) (hb : Below w1.heap.size w1 W) (G0 : HoldsD W g false 0 0 0 ∧ w1.heap.size ≤ g) (G2 : HoldsD W j false 0 0 0 ∧ w1.heap.size ≤ j) : wpAnyH Tryd.prog .any opsO Q (fun w' => Below w1.heap.size w1 w') 6 #[true, true, true, false, true, false, true, false, true, false, false, false] { tmps := #[Dv n1 h1 l1 x1, Dv n2 h2 l2 x2, Dv n3 h3 l3 x3, .pointer (some ⟨q, 0, none⟩), .pointer (some ⟨q + 1, 0, none⟩), .pointer (some ⟨q + 1 + 1, 0, none⟩), .bool false, .pointer (some ⟨g, 0, none⟩), undef, .pointer (some ⟨j, 0, none⟩), undef, undef, undef, .bool true, .bool false, Dv n1 h1 l1 x1, Dv na ah al ea, Dv n2 h2 l2 x2, undef, Dv n3 h3 l3 x3, undef, undef, undef, undef, undef, undef, undef, undef, undef, undef, undef, undef, undef, undef, undef, undef, undef, undef, undef, undef, undef, undef, undef, undef, undef, undef, undef, undef, undef, undef, undef, undef, undef, undef, undef, undef, undef, undef, undef, undef, undef, undef, undef, undef, undef, undef, undef, undef, undef, undef, undef], defers := [] } W := by
  have HB := Lib.hid hb
  have K0 := Lib.hid G0
  have K2 := Lib.hid G2
  have NN0 := Lib.hid N0
  have ED02 := Lib.hid D02
  clear hb G0 G2 N0 D02
  refine wpAnyH_ready (rs := [3, 7]) (by kernel_rfl) (by simp) ?_
  refine AllReadyH.cons (o := { dst := some 18, op := Go.Op.call { callee := Go.Callee.value (Go.Operand.func 14), args := #[Go.Operand.tmp 17], argTypes := #[26] }, type := 28, pos := "law.go:158", after := #[{ on := 2, ground := Go.Ground.data }, { on := 1, ground := Go.Ground.chain }], guard := none }) rfl (fun K hK => ?_) (AllReadyH.cons (o := { dst := some 8, op := Go.Op.alloc 28, type := 0, pos := "law.go:158", after := #[], guard := none }) rfl (fun K hK => ?_) AllReadyH.nil)
  · go_simp
    refine (M2.out _ (HT.out.below HB.out)).mono ?_
    rintro e W2 ⟨nb, bh, bl, eb, N, rfl, hb2⟩
    have HN := Lib.hid N
    have B2 := Lib.hid (bstep HB.out hb2)
    replace K0 := Lib.hid (show HoldsD W2 g false 0 0 0 ∧ w1.heap.size ≤ g from ⟨K0.out.1.below hb2, K0.out.2⟩)
    replace K2 := Lib.hid (show HoldsD W2 j false 0 0 0 ∧ w1.heap.size ≤ j from ⟨K2.out.1.below hb2, K2.out.2⟩)
    clear hb2 N
    refine hK.out _ _ B2.out (fun _ => ?_)
    clear hK K
    try simp only [Act.put, List.setIfInBounds_toArray, List.set_cons_zero, List.set_cons_succ]
    exact o3_2_02 HT M1 M2 M3 HQ NN0.out HN.out ED02.out _ B2.out K0.out K2.out
  · go_simp
    have B2 := Lib.hid (ballD1 HB.out (.cells #[.bool false, .int .u64 0, .int .u64 0, .int .i64 0] 28))
    refine hK.out _ _ B2.out (fun _ => ?_)
    clear hK K
    try simp only [Act.put, List.setIfInBounds_toArray, List.set_cons_zero, List.set_cons_succ]
    exact o3_1_012 HT M1 M2 M3 HQ NN0.out (show g ≠ W.heap.size from Nat.ne_of_lt K0.out.1.2.2) ED02.out (show W.heap.size ≠ j from Nat.ne_of_gt K2.out.1.2.2) _ B2.out ⟨K0.out.1.alloc _, K0.out.2⟩ ⟨HoldsD.zero4 rfl, HB.out.size⟩ ⟨K2.out.1.alloc _, K2.out.2⟩

set_option linter.unusedVariables false in
set_option linter.unusedSimpArgs false in
set_option maxRecDepth 100000 in
set_option maxHeartbeats 4000000 in
theorem o3_1_12 (HT : Hid (Tab w1)) (M1 : Hid (MakeC n1 h1 l1 x1)) (M2 : Hid (MakeC n2 h2 l2 x2)) (M3 : Hid (MakeC n3 h3 l3 x3)) (HQ : Hid (OkQ w1 (fun g k j na ah al ea nb bh bl eb nc ch cl ec => { tmps := #[Dv n1 h1 l1 x1, Dv n2 h2 l2 x2, Dv n3 h3 l3 x3, .pointer (some ⟨q, 0, none⟩), .pointer (some ⟨q + 1, 0, none⟩), .pointer (some ⟨q + 1 + 1, 0, none⟩), .bool false, .pointer (some ⟨g, 0, none⟩), .pointer (some ⟨k, 0, none⟩), .pointer (some ⟨j, 0, none⟩), undef, undef, undef, .bool true, .bool false, Dv n1 h1 l1 x1, Dv na ah al ea, Dv n2 h2 l2 x2, Dv nb bh bl eb, Dv n3 h3 l3 x3, Dv nc ch cl ec, undef, undef, undef, undef, undef, undef, undef, undef, undef, undef, undef, undef, undef, undef, undef, undef, undef, undef, undef, undef, undef, undef, undef, undef, undef, undef, undef, undef, undef, undef, undef, undef, undef, undef, undef, undef, undef, undef, undef, undef, undef, undef, undef, undef, undef, undef, undef, undef, undef, undef], defers := [] }) Q)) {na : Bool} {ah al : Nat} {ea : Int} (N0 : NumOk na ah al ea) {k : Nat} {j : Nat} (D12 : k ≠ j) (W : World) (hb : Below w1.heap.size w1 W) (G1 : HoldsD W k false 0 0 0 ∧ w1.heap.size ≤ k) (G2 : HoldsD W j false 0 0 0 ∧ w1.heap.size ≤ j) : wpAnyH Tryd.prog .any opsO Q (fun w' => Below w1.heap.size w1 w') 6 #[true, true, true, false, true, false, false, true, true, false, false, false] { tmps := #[Dv n1 h1 l1 x1, Dv n2 h2 l2 x2, Dv n3 h3 l3 x3, .pointer (some ⟨q, 0, none⟩), .pointer (some ⟨q + 1, 0, none⟩), .pointer (some ⟨q + 1 + 1, 0, none⟩), .bool false, undef, .pointer (some ⟨k, 0, none⟩), .pointer (some ⟨j, 0, none⟩), undef, undef, undef, .bool true, .bool false, Dv n1 h1 l1 x1, Dv na ah al ea, Dv n2 h2 l2 x2, undef, Dv n3 h3 l3 x3, undef, undef, undef, undef, undef, undef, undef, undef, undef, undef, undef, undef, undef, undef, undef, undef, undef, undef, undef, undef, undef, undef, undef, undef, undef, undef, undef, undef, undef, undef, undef, undef, undef, undef, undef, undef, undef, undef, undef, undef, undef, undef, undef, undef, undef, undef, undef, undef, undef, undef, undef], defers := [] } W := by
  have HB := Lib.hid hb
  have K1 := Lib.hid G1
  have K2 := Lib.hid G2
  have NN0 := Lib.hid N0
  have ED12 := Lib.hid D12
  clear hb G1 G2 N0 D12
  refine wpAnyH_ready (rs := [3, 6]) (by kernel_rfl) (by simp) ?_
  refine AllReadyH.cons (o := { dst := some 18, op := Go.Op.call { callee := Go.Callee.value (Go.Operand.func 14), args := #[Go.Operand.tmp 17], argTypes := #[26] }, type := 28, pos := "law.go:158", after := #[{ on := 2, ground := Go.Ground.data }, { on := 1, ground := Go.Ground.chain }], guard := none }) rfl (fun K hK => ?_) (AllReadyH.cons (o := { dst := some 7, op := Go.Op.alloc 28, type := 0, pos := "law.go:158", after := #[], guard := none }) rfl (fun K hK => ?_) AllReadyH.nil)
  · go_simp
    refine (M2.out _ (HT.out.below HB.out)).mono ?_
    rintro e W2 ⟨nb, bh, bl, eb, N, rfl, hb2⟩
    have HN := Lib.hid N
    have B2 := Lib.hid (bstep HB.out hb2)
    replace K1 := Lib.hid (show HoldsD W2 k false 0 0 0 ∧ w1.heap.size ≤ k from ⟨K1.out.1.below hb2, K1.out.2⟩)
    replace K2 := Lib.hid (show HoldsD W2 j false 0 0 0 ∧ w1.heap.size ≤ j from ⟨K2.out.1.below hb2, K2.out.2⟩)
    clear hb2 N
    refine hK.out _ _ B2.out (fun _ => ?_)
    clear hK K
    try simp only [Act.put, List.setIfInBounds_toArray, List.set_cons_zero, List.set_cons_succ]
    exact o3_2_12 HT M1 M2 M3 HQ NN0.out HN.out ED12.out _ B2.out K1.out K2.out
  · go_simp
    have B2 := Lib.hid (ballD1 HB.out (.cells #[.bool false, .int .u64 0, .int .u64 0, .int .i64 0] 28))
    refine hK.out _ _ B2.out (fun _ => ?_)
    clear hK K
    try simp only [Act.put, List.setIfInBounds_toArray, List.set_cons_zero, List.set_cons_succ]
    exact o3_1_012 HT M1 M2 M3 HQ NN0.out (show W.heap.size ≠ k from Nat.ne_of_gt K1.out.1.2.2) (show W.heap.size ≠ j from Nat.ne_of_gt K2.out.1.2.2) ED12.out _ B2.out ⟨HoldsD.zero4 rfl, HB.out.size⟩ ⟨K1.out.1.alloc _, K1.out.2⟩ ⟨K2.out.1.alloc _, K2.out.2⟩

set_option linter.unusedVariables false in
set_option linter.unusedSimpArgs false in
set_option maxRecDepth 100000 in
set_option maxHeartbeats 4000000 in
theorem o3_0_012 (HT : Hid (Tab w1)) (M1 : Hid (MakeC n1 h1 l1 x1)) (M2 : Hid (MakeC n2 h2 l2 x2)) (M3 : Hid (MakeC n3 h3 l3 x3)) (HQ : Hid (OkQ w1 (fun g k j na ah al ea nb bh bl eb nc ch cl ec => { tmps := #[Dv n1 h1 l1 x1, Dv n2 h2 l2 x2, Dv n3 h3 l3 x3, .pointer (some ⟨q, 0, none⟩), .pointer (some ⟨q + 1, 0, none⟩), .pointer (some ⟨q + 1 + 1, 0, none⟩), .bool false, .pointer (some ⟨g, 0, none⟩), .pointer (some ⟨k, 0, none⟩), .pointer (some ⟨j, 0, none⟩), undef, undef, undef, .bool true, .bool false, Dv n1 h1 l1 x1, Dv na ah al ea, Dv n2 h2 l2 x2, Dv nb bh bl eb, Dv n3 h3 l3 x3, Dv nc ch cl ec, undef, undef, undef, undef, undef, undef, undef, undef, undef, undef, undef, undef, undef, undef, undef, undef, undef, undef, undef, undef, undef, undef, undef, undef, undef, undef, undef, undef, undef, undef, undef, undef, undef, undef, undef, undef, undef, undef, undef, undef, undef, undef, undef, undef, undef, undef, undef, undef, undef, undef], defers := [] }) Q))  {g : Nat} {k : Nat} {j : Nat} (D01 : g ≠ k) (D02 : g ≠ j) (D12 : k ≠ j) (W : World) (hb : Below w1.heap.size w1 W) (G0 : HoldsD W g false 0 0 0 ∧ w1.heap.size ≤ g) (G1 : HoldsD W k false 0 0 0 ∧ w1.heap.size ≤ k) (G2 : HoldsD W j false 0 0 0 ∧ w1.heap.size ≤ j) : wpAnyH Tryd.prog .any opsO Q (fun w' => Below w1.heap.size w1 w') 6 #[true, false, true, false, true, false, true, true, true, false, false, false] { tmps := #[Dv n1 h1 l1 x1, Dv n2 h2 l2 x2, Dv n3 h3 l3 x3, .pointer (some ⟨q, 0, none⟩), .pointer (some ⟨q + 1, 0, none⟩), .pointer (some ⟨q + 1 + 1, 0, none⟩), .bool false, .pointer (some ⟨g, 0, none⟩), .pointer (some ⟨k, 0, none⟩), .pointer (some ⟨j, 0, none⟩), undef, undef, undef, .bool true, .bool false, Dv n1 h1 l1 x1, undef, Dv n2 h2 l2 x2, undef, Dv n3 h3 l3 x3, undef, undef, undef, undef, undef, undef, undef, undef, undef, undef, undef, undef, undef, undef, undef, undef, undef, undef, undef, undef, undef, undef, undef, undef, undef, undef, undef, undef, undef, undef, undef, undef, undef, undef, undef, undef, undef, undef, undef, undef, undef, undef, undef, undef, undef, undef, undef, undef, undef, undef, undef], defers := [] } W := by
  have HB := Lib.hid hb
  have K0 := Lib.hid G0
  have K1 := Lib.hid G1
  have K2 := Lib.hid G2
  have ED01 := Lib.hid D01
  have ED02 := Lib.hid D02
  have ED12 := Lib.hid D12
  clear hb G0 G1 G2  D01 D02 D12
  refine wpAnyH_ready (rs := [1]) (by kernel_rfl) (by simp) ?_
  refine AllReadyH.cons (o := { dst := some 16, op := Go.Op.call { callee := Go.Callee.value (Go.Operand.func 14), args := #[Go.Operand.tmp 15], argTypes := #[26] }, type := 28, pos := "law.go:158", after := #[{ on := 0, ground := Go.Ground.data }], guard := none }) rfl (fun K hK => ?_) AllReadyH.nil
  · go_simp
    refine (M1.out _ (HT.out.below HB.out)).mono ?_
    rintro e W2 ⟨na, ah, al, ea, N, rfl, hb2⟩
    have HN := Lib.hid N
    have B2 := Lib.hid (bstep HB.out hb2)
    replace K0 := Lib.hid (show HoldsD W2 g false 0 0 0 ∧ w1.heap.size ≤ g from ⟨K0.out.1.below hb2, K0.out.2⟩)
    replace K1 := Lib.hid (show HoldsD W2 k false 0 0 0 ∧ w1.heap.size ≤ k from ⟨K1.out.1.below hb2, K1.out.2⟩)
    replace K2 := Lib.hid (show HoldsD W2 j false 0 0 0 ∧ w1.heap.size ≤ j from ⟨K2.out.1.below hb2, K2.out.2⟩)
    clear hb2 N
    refine hK.out _ _ B2.out (fun _ => ?_)
    clear hK K
    try simp only [Act.put, List.setIfInBounds_toArray, List.set_cons_zero, List.set_cons_succ]
    exact o3_1_012 HT M1 M2 M3 HQ  HN.out ED01.out ED02.out ED12.out _ B2.out K0.out K1.out K2.out

set_option linter.unusedVariables false in
set_option linter.unusedSimpArgs false in
set_option maxRecDepth 100000 in
set_option maxHeartbeats 4000000 in
theorem o3_2_n (HT : Hid (Tab w1)) (M1 : Hid (MakeC n1 h1 l1 x1)) (M2 : Hid (MakeC n2 h2 l2 x2)) (M3 : Hid (MakeC n3 h3 l3 x3)) (HQ : Hid (OkQ w1 (fun g k j na ah al ea nb bh bl eb nc ch cl ec => { tmps := #[Dv n1 h1 l1 x1, Dv n2 h2 l2 x2, Dv n3 h3 l3 x3, .pointer (some ⟨q, 0, none⟩), .pointer (some ⟨q + 1, 0, none⟩), .pointer (some ⟨q + 1 + 1, 0, none⟩), .bool false, .pointer (some ⟨g, 0, none⟩), .pointer (some ⟨k, 0, none⟩), .pointer (some ⟨j, 0, none⟩), undef, undef, undef, .bool true, .bool false, Dv n1 h1 l1 x1, Dv na ah al ea, Dv n2 h2 l2 x2, Dv nb bh bl eb, Dv n3 h3 l3 x3, Dv nc ch cl ec, undef, undef, undef, undef, undef, undef, undef, undef, undef, undef, undef, undef, undef, undef, undef, undef, undef, undef, undef, undef, undef, undef, undef, undef, undef, undef, undef, undef, undef, undef, undef, undef, undef, undef, undef, undef, undef, undef, undef, undef, undef, undef, undef, undef, undef, undef, undef, undef, undef, undef], defers := [] }) Q)) {na : Bool} {ah al : Nat} {ea : Int} (N0 : NumOk na ah al ea) {nb : Bool} {bh bl : Nat} {eb : Int} (N1 : NumOk nb bh bl eb)   (W : World) (hb : Below w1.heap.size w1 W)  : wpAnyH Tryd.prog .any opsO Q (fun w' => Below w1.heap.size w1 w') 7 #[true, true, true, true, true, false, false, false, false, false, false, false] { tmps := #[Dv n1 h1 l1 x1, Dv n2 h2 l2 x2, Dv n3 h3 l3 x3, .pointer (some ⟨q, 0, none⟩), .pointer (some ⟨q + 1, 0, none⟩), .pointer (some ⟨q + 1 + 1, 0, none⟩), .bool false, undef, undef, undef, undef, undef, undef, .bool true, .bool false, Dv n1 h1 l1 x1, Dv na ah al ea, Dv n2 h2 l2 x2, Dv nb bh bl eb, Dv n3 h3 l3 x3, undef, undef, undef, undef, undef, undef, undef, undef, undef, undef, undef, undef, undef, undef, undef, undef, undef, undef, undef, undef, undef, undef, undef, undef, undef, undef, undef, undef, undef, undef, undef, undef, undef, undef, undef, undef, undef, undef, undef, undef, undef, undef, undef, undef, undef, undef, undef, undef, undef, undef, undef], defers := [] } W := by
  have HB := Lib.hid hb
  have NN0 := Lib.hid N0
  have NN1 := Lib.hid N1
  clear hb  N0 N1 
  refine wpAnyH_ready (rs := [5, 6, 7, 8]) (by kernel_rfl) (by simp) ?_
  refine AllReadyH.cons (o := { dst := some 20, op := Go.Op.call { callee := Go.Callee.value (Go.Operand.func 14), args := #[Go.Operand.tmp 19], argTypes := #[26] }, type := 28, pos := "law.go:158", after := #[{ on := 4, ground := Go.Ground.data }, { on := 3, ground := Go.Ground.chain }], guard := none }) rfl (fun K hK => ?_) (AllReadyH.cons (o := { dst := some 7, op := Go.Op.alloc 28, type := 0, pos := "law.go:158", after := #[], guard := none }) rfl (fun K hK => ?_) (AllReadyH.cons (o := { dst := some 8, op := Go.Op.alloc 28, type := 0, pos := "law.go:158", after := #[], guard := none }) rfl (fun K hK => ?_) (AllReadyH.cons (o := { dst := some 9, op := Go.Op.alloc 28, type := 0, pos := "law.go:158", after := #[], guard := none }) rfl (fun K hK => ?_) AllReadyH.nil)))
  · go_simp
    refine (M3.out _ (HT.out.below HB.out)).mono ?_
    rintro e W2 ⟨nc, ch, cl, ec, N, rfl, hb2⟩
    have HN := Lib.hid N
    have B2 := Lib.hid (bstep HB.out hb2)
    clear hb2 N
    refine hK.out _ _ B2.out (fun _ => ?_)
    clear hK K
    try simp only [Act.put, List.setIfInBounds_toArray, List.set_cons_zero, List.set_cons_succ]
    exact o3_3_n HT M1 M2 M3 HQ NN0.out NN1.out HN.out  _ B2.out 
  · go_simp
    have B2 := Lib.hid (ballD1 HB.out (.cells #[.bool false, .int .u64 0, .int .u64 0, .int .i64 0] 28))
    refine hK.out _ _ B2.out (fun _ => ?_)
    clear hK K
    try simp only [Act.put, List.setIfInBounds_toArray, List.set_cons_zero, List.set_cons_succ]
    exact o3_2_0 HT M1 M2 M3 HQ NN0.out NN1.out  _ B2.out ⟨HoldsD.zero4 rfl, HB.out.size⟩
  · go_simp
    have B2 := Lib.hid (ballD1 HB.out (.cells #[.bool false, .int .u64 0, .int .u64 0, .int .i64 0] 28))
    refine hK.out _ _ B2.out (fun _ => ?_)
    clear hK K
    try simp only [Act.put, List.setIfInBounds_toArray, List.set_cons_zero, List.set_cons_succ]
    exact o3_2_1 HT M1 M2 M3 HQ NN0.out NN1.out  _ B2.out ⟨HoldsD.zero4 rfl, HB.out.size⟩
  · go_simp
    have B2 := Lib.hid (ballD1 HB.out (.cells #[.bool false, .int .u64 0, .int .u64 0, .int .i64 0] 28))
    refine hK.out _ _ B2.out (fun _ => ?_)
    clear hK K
    try simp only [Act.put, List.setIfInBounds_toArray, List.set_cons_zero, List.set_cons_succ]
    exact o3_2_2 HT M1 M2 M3 HQ NN0.out NN1.out  _ B2.out ⟨HoldsD.zero4 rfl, HB.out.size⟩

set_option linter.unusedVariables false in
set_option linter.unusedSimpArgs false in
set_option maxRecDepth 100000 in
set_option maxHeartbeats 4000000 in
theorem o3_1_0 (HT : Hid (Tab w1)) (M1 : Hid (MakeC n1 h1 l1 x1)) (M2 : Hid (MakeC n2 h2 l2 x2)) (M3 : Hid (MakeC n3 h3 l3 x3)) (HQ : Hid (OkQ w1 (fun g k j na ah al ea nb bh bl eb nc ch cl ec => { tmps := #[Dv n1 h1 l1 x1, Dv n2 h2 l2 x2, Dv n3 h3 l3 x3, .pointer (some ⟨q, 0, none⟩), .pointer (some ⟨q + 1, 0, none⟩), .pointer (some ⟨q + 1 + 1, 0, none⟩), .bool false, .pointer (some ⟨g, 0, none⟩), .pointer (some ⟨k, 0, none⟩), .pointer (some ⟨j, 0, none⟩), undef, undef, undef, .bool true, .bool false, Dv n1 h1 l1 x1, Dv na ah al ea, Dv n2 h2 l2 x2, Dv nb bh bl eb, Dv n3 h3 l3 x3, Dv nc ch cl ec, undef, undef, undef, undef, undef, undef, undef, undef, undef, undef, undef, undef, undef, undef, undef, undef, undef, undef, undef, undef, undef, undef, undef, undef, undef, undef, undef, undef, undef, undef, undef, undef, undef, undef, undef, undef, undef, undef, undef, undef, undef, undef, undef, undef, undef, undef, undef, undef, undef, undef], defers := [] }) Q)) {na : Bool} {ah al : Nat} {ea : Int} (N0 : NumOk na ah al ea) {g : Nat}  (W : World) (hb : Below w1.heap.size w1 W) (G0 : HoldsD W g false 0 0 0 ∧ w1.heap.size ≤ g) : wpAnyH Tryd.prog .any opsO Q (fun w' => Below w1.heap.size w1 w') 7 #[true, true, true, false, true, false, true, false, false, false, false, false] { tmps := #[Dv n1 h1 l1 x1, Dv n2 h2 l2 x2, Dv n3 h3 l3 x3, .pointer (some ⟨q, 0, none⟩), .pointer (some ⟨q + 1, 0, none⟩), .pointer (some ⟨q + 1 + 1, 0, none⟩), .bool false, .pointer (some ⟨g, 0, none⟩), undef, undef, undef, undef, undef, .bool true, .bool false, Dv n1 h1 l1 x1, Dv na ah al ea, Dv n2 h2 l2 x2, undef, Dv n3 h3 l3 x3, undef, undef, undef, undef, undef, undef, undef, undef, undef, undef, undef, undef, undef, undef, undef, undef, undef, undef, undef, undef, undef, undef, undef, undef, undef, undef, undef, undef, undef, undef, undef, undef, undef, undef, undef, undef, undef, undef, undef, undef, undef, undef, undef, undef, undef, undef, undef, undef, undef, undef, undef], defers := [] } W := by
  have HB := Lib.hid hb
  have K0 := Lib.hid G0
  have NN0 := Lib.hid N0
  clear hb G0 N0 
  refine wpAnyH_ready (rs := [3, 7, 8]) (by kernel_rfl) (by simp) ?_
  refine AllReadyH.cons (o := { dst := some 18, op := Go.Op.call { callee := Go.Callee.value (Go.Operand.func 14), args := #[Go.Operand.tmp 17], argTypes := #[26] }, type := 28, pos := "law.go:158", after := #[{ on := 2, ground := Go.Ground.data }, { on := 1, ground := Go.Ground.chain }], guard := none }) rfl (fun K hK => ?_) (AllReadyH.cons (o := { dst := some 8, op := Go.Op.alloc 28, type := 0, pos := "law.go:158", after := #[], guard := none }) rfl (fun K hK => ?_) (AllReadyH.cons (o := { dst := some 9, op := Go.Op.alloc 28, type := 0, pos := "law.go:158", after := #[], guard := none }) rfl (fun K hK => ?_) AllReadyH.nil))
  · go_simp
    refine (M2.out _ (HT.out.below HB.out)).mono ?_
    rintro e W2 ⟨nb, bh, bl, eb, N, rfl, hb2⟩
    have HN := Lib.hid N
    have B2 := Lib.hid (bstep HB.out hb2)
    replace K0 := Lib.hid (show HoldsD W2 g false 0 0 0 ∧ w1.heap.size ≤ g from ⟨K0.out.1.below hb2, K0.out.2⟩)
    clear hb2 N
    refine hK.out _ _ B2.out (fun _ => ?_)
    clear hK K
    try simp only [Act.put, List.setIfInBounds_toArray, List.set_cons_zero, List.set_cons_succ]
    exact o3_2_0 HT M1 M2 M3 HQ NN0.out HN.out  _ B2.out K0.out
  · go_simp
    have B2 := Lib.hid (ballD1 HB.out (.cells #[.bool false, .int .u64 0, .int .u64 0, .int .i64 0] 28))
    refine hK.out _ _ B2.out (fun _ => ?_)
    clear hK K
    try simp only [Act.put, List.setIfInBounds_toArray, List.set_cons_zero, List.set_cons_succ]
    exact o3_1_01 HT M1 M2 M3 HQ NN0.out (show g ≠ W.heap.size from Nat.ne_of_lt K0.out.1.2.2) _ B2.out ⟨K0.out.1.alloc _, K0.out.2⟩ ⟨HoldsD.zero4 rfl, HB.out.size⟩
  · go_simp
    have B2 := Lib.hid (ballD1 HB.out (.cells #[.bool false, .int .u64 0, .int .u64 0, .int .i64 0] 28))
    refine hK.out _ _ B2.out (fun _ => ?_)
    clear hK K
    try simp only [Act.put, List.setIfInBounds_toArray, List.set_cons_zero, List.set_cons_succ]
    exact o3_1_02 HT M1 M2 M3 HQ NN0.out (show g ≠ W.heap.size from Nat.ne_of_lt K0.out.1.2.2) _ B2.out ⟨K0.out.1.alloc _, K0.out.2⟩ ⟨HoldsD.zero4 rfl, HB.out.size⟩

set_option linter.unusedVariables false in
set_option linter.unusedSimpArgs false in
set_option maxRecDepth 100000 in
set_option maxHeartbeats 4000000 in
theorem o3_1_1 (HT : Hid (Tab w1)) (M1 : Hid (MakeC n1 h1 l1 x1)) (M2 : Hid (MakeC n2 h2 l2 x2)) (M3 : Hid (MakeC n3 h3 l3 x3)) (HQ : Hid (OkQ w1 (fun g k j na ah al ea nb bh bl eb nc ch cl ec => { tmps := #[Dv n1 h1 l1 x1, Dv n2 h2 l2 x2, Dv n3 h3 l3 x3, .pointer (some ⟨q, 0, none⟩), .pointer (some ⟨q + 1, 0, none⟩), .pointer (some ⟨q + 1 + 1, 0, none⟩), .bool false, .pointer (some ⟨g, 0, none⟩), .pointer (some ⟨k, 0, none⟩), .pointer (some ⟨j, 0, none⟩), undef, undef, undef, .bool true, .bool false, Dv n1 h1 l1 x1, Dv na ah al ea, Dv n2 h2 l2 x2, Dv nb bh bl eb, Dv n3 h3 l3 x3, Dv nc ch cl ec, undef, undef, undef, undef, undef, undef, undef, undef, undef, undef, undef, undef, undef, undef, undef, undef, undef, undef, undef, undef, undef, undef, undef, undef, undef, undef, undef, undef, undef, undef, undef, undef, undef, undef, undef, undef, undef, undef, undef, undef, undef, undef, undef, undef, undef, undef, undef, undef, undef, undef], defers := [] }) Q)) {na : Bool} {ah al : Nat} {ea : Int} (N0 : NumOk na ah al ea) {k : Nat}  (W : World) (hb : Below w1.heap.size w1 W) (G1 : HoldsD W k false 0 0 0 ∧ w1.heap.size ≤ k) : wpAnyH Tryd.prog .any opsO Q (fun w' => Below w1.heap.size w1 w') 7 #[true, true, true, false, true, false, false, true, false, false, false, false] { tmps := #[Dv n1 h1 l1 x1, Dv n2 h2 l2 x2, Dv n3 h3 l3 x3, .pointer (some ⟨q, 0, none⟩), .pointer (some ⟨q + 1, 0, none⟩), .pointer (some ⟨q + 1 + 1, 0, none⟩), .bool false, undef, .pointer (some ⟨k, 0, none⟩), undef, undef, undef, undef, .bool true, .bool false, Dv n1 h1 l1 x1, Dv na ah al ea, Dv n2 h2 l2 x2, undef, Dv n3 h3 l3 x3, undef, undef, undef, undef, undef, undef, undef, undef, undef, undef, undef, undef, undef, undef, undef, undef, undef, undef, undef, undef, undef, undef, undef, undef, undef, undef, undef, undef, undef, undef, undef, undef, undef, undef, undef, undef, undef, undef, undef, undef, undef, undef, undef, undef, undef, undef, undef, undef, undef, undef, undef], defers := [] } W := by
  have HB := Lib.hid hb
  have K1 := Lib.hid G1
  have NN0 := Lib.hid N0
  clear hb G1 N0 
  refine wpAnyH_ready (rs := [3, 6, 8]) (by kernel_rfl) (by simp) ?_
  refine AllReadyH.cons (o := { dst := some 18, op := Go.Op.call { callee := Go.Callee.value (Go.Operand.func 14), args := #[Go.Operand.tmp 17], argTypes := #[26] }, type := 28, pos := "law.go:158", after := #[{ on := 2, ground := Go.Ground.data }, { on := 1, ground := Go.Ground.chain }], guard := none }) rfl (fun K hK => ?_) (AllReadyH.cons (o := { dst := some 7, op := Go.Op.alloc 28, type := 0, pos := "law.go:158", after := #[], guard := none }) rfl (fun K hK => ?_) (AllReadyH.cons (o := { dst := some 9, op := Go.Op.alloc 28, type := 0, pos := "law.go:158", after := #[], guard := none }) rfl (fun K hK => ?_) AllReadyH.nil))
  · go_simp
    refine (M2.out _ (HT.out.below HB.out)).mono ?_
    rintro e W2 ⟨nb, bh, bl, eb, N, rfl, hb2⟩
    have HN := Lib.hid N
    have B2 := Lib.hid (bstep HB.out hb2)
    replace K1 := Lib.hid (show HoldsD W2 k false 0 0 0 ∧ w1.heap.size ≤ k from ⟨K1.out.1.below hb2, K1.out.2⟩)
    clear hb2 N
    refine hK.out _ _ B2.out (fun _ => ?_)
    clear hK K
    try simp only [Act.put, List.setIfInBounds_toArray, List.set_cons_zero, List.set_cons_succ]
    exact o3_2_1 HT M1 M2 M3 HQ NN0.out HN.out  _ B2.out K1.out
  · go_simp
    have B2 := Lib.hid (ballD1 HB.out (.cells #[.bool false, .int .u64 0, .int .u64 0, .int .i64 0] 28))
    refine hK.out _ _ B2.out (fun _ => ?_)
    clear hK K
    try simp only [Act.put, List.setIfInBounds_toArray, List.set_cons_zero, List.set_cons_succ]
    exact o3_1_01 HT M1 M2 M3 HQ NN0.out (show W.heap.size ≠ k from Nat.ne_of_gt K1.out.1.2.2) _ B2.out ⟨HoldsD.zero4 rfl, HB.out.size⟩ ⟨K1.out.1.alloc _, K1.out.2⟩
  · go_simp
    have B2 := Lib.hid (ballD1 HB.out (.cells #[.bool false, .int .u64 0, .int .u64 0, .int .i64 0] 28))
    refine hK.out _ _ B2.out (fun _ => ?_)
    clear hK K
    try simp only [Act.put, List.setIfInBounds_toArray, List.set_cons_zero, List.set_cons_succ]
    exact o3_1_12 HT M1 M2 M3 HQ NN0.out (show k ≠ W.heap.size from Nat.ne_of_lt K1.out.1.2.2) _ B2.out ⟨K1.out.1.alloc _, K1.out.2⟩ ⟨HoldsD.zero4 rfl, HB.out.size⟩

set_option linter.unusedVariables false in
set_option linter.unusedSimpArgs false in
set_option maxRecDepth 100000 in
set_option maxHeartbeats 4000000 in
theorem o3_1_2 (HT : Hid (Tab w1)) (M1 : Hid (MakeC n1 h1 l1 x1)) (M2 : Hid (MakeC n2 h2 l2 x2)) (M3 : Hid (MakeC n3 h3 l3 x3)) (HQ : Hid (OkQ w1 (fun g k j na ah al ea nb bh bl eb nc ch cl ec => { tmps := #[Dv n1 h1 l1 x1, Dv n2 h2 l2 x2, Dv n3 h3 l3 x3, .pointer (some ⟨q, 0, none⟩), .pointer (some ⟨q + 1, 0, none⟩), .pointer (some ⟨q + 1 + 1, 0, none⟩), .bool false, .pointer (some ⟨g, 0, none⟩), .pointer (some ⟨k, 0, none⟩), .pointer (some ⟨j, 0, none⟩), undef, undef, undef, .bool true, .bool false, Dv n1 h1 l1 x1, Dv na ah al ea, Dv n2 h2 l2 x2, Dv nb bh bl eb, Dv n3 h3 l3 x3, Dv nc ch cl ec, undef, undef, undef, undef, undef, undef, undef, undef, undef, undef, undef, undef, undef, undef, undef, undef, undef, undef, undef, undef, undef, undef, undef, undef, undef, undef, undef, undef, undef, undef, undef, undef, undef, undef, undef, undef, undef, undef, undef, undef, undef, undef, undef, undef, undef, undef, undef, undef, undef, undef], defers := [] }) Q)) {na : Bool} {ah al : Nat} {ea : Int} (N0 : NumOk na ah al ea) {j : Nat}  (W : World) (hb : Below w1.heap.size w1 W) (G2 : HoldsD W j false 0 0 0 ∧ w1.heap.size ≤ j) : wpAnyH Tryd.prog .any opsO Q (fun w' => Below w1.heap.size w1 w') 7 #[true, true, true, false, true, false, false, false, true, false, false, false] { tmps := #[Dv n1 h1 l1 x1, Dv n2 h2 l2 x2, Dv n3 h3 l3 x3, .pointer (some ⟨q, 0, none⟩), .pointer (some ⟨q + 1, 0, none⟩), .pointer (some ⟨q + 1 + 1, 0, none⟩), .bool false, undef, undef, .pointer (some ⟨j, 0, none⟩), undef, undef, undef, .bool true, .bool false, Dv n1 h1 l1 x1, Dv na ah al ea, Dv n2 h2 l2 x2, undef, Dv n3 h3 l3 x3, undef, undef, undef, undef, undef, undef, undef, undef, undef, undef, undef, undef, undef, undef, undef, undef, undef, undef, undef, undef, undef, undef, undef, undef, undef, undef, undef, undef, undef, undef, undef, undef, undef, undef, undef, undef, undef, undef, undef, undef, undef, undef, undef, undef, undef, undef, undef, undef, undef, undef, undef], defers := [] } W := by
  have HB := Lib.hid hb
  have K2 := Lib.hid G2
  have NN0 := Lib.hid N0
  clear hb G2 N0 
  refine wpAnyH_ready (rs := [3, 6, 7]) (by kernel_rfl) (by simp) ?_
  refine AllReadyH.cons (o := { dst := some 18, op := Go.Op.call { callee := Go.Callee.value (Go.Operand.func 14), args := #[Go.Operand.tmp 17], argTypes := #[26] }, type := 28, pos := "law.go:158", after := #[{ on := 2, ground := Go.Ground.data }, { on := 1, ground := Go.Ground.chain }], guard := none }) rfl (fun K hK => ?_) (AllReadyH.cons (o := { dst := some 7, op := Go.Op.alloc 28, type := 0, pos := "law.go:158", after := #[], guard := none }) rfl (fun K hK => ?_) (AllReadyH.cons (o := { dst := some 8, op := Go.Op.alloc 28, type := 0, pos := "law.go:158", after := #[], guard := none }) rfl (fun K hK => ?_) AllReadyH.nil))
  · go_simp
    refine (M2.out _ (HT.out.below HB.out)).mono ?_
    rintro e W2 ⟨nb, bh, bl, eb, N, rfl, hb2⟩
    have HN := Lib.hid N
    have B2 := Lib.hid (bstep HB.out hb2)
    replace K2 := Lib.hid (show HoldsD W2 j false 0 0 0 ∧ w1.heap.size ≤ j from ⟨K2.out.1.below hb2, K2.out.2⟩)
    clear hb2 N
    refine hK.out _ _ B2.out (fun _ => ?_)
    clear hK K
    try simp only [Act.put, List.setIfInBounds_toArray, List.set_cons_zero, List.set_cons_succ]
    exact o3_2_2 HT M1 M2 M3 HQ NN0.out HN.out  _ B2.out K2.out
  · go_simp
    have B2 := Lib.hid (ballD1 HB.out (.cells #[.bool false, .int .u64 0, .int .u64 0, .int .i64 0] 28))
    refine hK.out _ _ B2.out (fun _ => ?_)
    clear hK K
    try simp only [Act.put, List.setIfInBounds_toArray, List.set_cons_zero, List.set_cons_succ]
    exact o3_1_02 HT M1 M2 M3 HQ NN0.out (show W.heap.size ≠ j from Nat.ne_of_gt K2.out.1.2.2) _ B2.out ⟨HoldsD.zero4 rfl, HB.out.size⟩ ⟨K2.out.1.alloc _, K2.out.2⟩
  · go_simp
    have B2 := Lib.hid (ballD1 HB.out (.cells #[.bool false, .int .u64 0, .int .u64 0, .int .i64 0] 28))
    refine hK.out _ _ B2.out (fun _ => ?_)
    clear hK K
    try simp only [Act.put, List.setIfInBounds_toArray, List.set_cons_zero, List.set_cons_succ]
    exact o3_1_12 HT M1 M2 M3 HQ NN0.out (show W.heap.size ≠ j from Nat.ne_of_gt K2.out.1.2.2) _ B2.out ⟨HoldsD.zero4 rfl, HB.out.size⟩ ⟨K2.out.1.alloc _, K2.out.2⟩

set_option linter.unusedVariables false in
set_option linter.unusedSimpArgs false in
set_option maxRecDepth 100000 in
set_option maxHeartbeats 4000000 in
theorem o3_0_01 (HT : Hid (Tab w1)) (M1 : Hid (MakeC n1 h1 l1 x1)) (M2 : Hid (MakeC n2 h2 l2 x2)) (M3 : Hid (MakeC n3 h3 l3 x3)) (HQ : Hid (OkQ w1 (fun g k j na ah al ea nb bh bl eb nc ch cl ec => { tmps := #[Dv n1 h1 l1 x1, Dv n2 h2 l2 x2, Dv n3 h3 l3 x3, .pointer (some ⟨q, 0, none⟩), .pointer (some ⟨q + 1, 0, none⟩), .pointer (some ⟨q + 1 + 1, 0, none⟩), .bool false, .pointer (some ⟨g, 0, none⟩), .pointer (some ⟨k, 0, none⟩), .pointer (some ⟨j, 0, none⟩), undef, undef, undef, .bool true, .bool false, Dv n1 h1 l1 x1, Dv na ah al ea, Dv n2 h2 l2 x2, Dv nb bh bl eb, Dv n3 h3 l3 x3, Dv nc ch cl ec, undef, undef, undef, undef, undef, undef, undef, undef, undef, undef, undef, undef, undef, undef, undef, undef, undef, undef, undef, undef, undef, undef, undef, undef, undef, undef, undef, undef, undef, undef, undef, undef, undef, undef, undef, undef, undef, undef, undef, undef, undef, undef, undef, undef, undef, undef, undef, undef, undef, undef], defers := [] }) Q))  {g : Nat} {k : Nat} (D01 : g ≠ k) (W : World) (hb : Below w1.heap.size w1 W) (G0 : HoldsD W g false 0 0 0 ∧ w1.heap.size ≤ g) (G1 : HoldsD W k false 0 0 0 ∧ w1.heap.size ≤ k) : wpAnyH Tryd.prog .any opsO Q (fun w' => Below w1.heap.size w1 w') 7 #[true, false, true, false, true, false, true, true, false, false, false, false] { tmps := #[Dv n1 h1 l1 x1, Dv n2 h2 l2 x2, Dv n3 h3 l3 x3, .pointer (some ⟨q, 0, none⟩), .pointer (some ⟨q + 1, 0, none⟩), .pointer (some ⟨q + 1 + 1, 0, none⟩), .bool false, .pointer (some ⟨g, 0, none⟩), .pointer (some ⟨k, 0, none⟩), undef, undef, undef, undef, .bool true, .bool false, Dv n1 h1 l1 x1, undef, Dv n2 h2 l2 x2, undef, Dv n3 h3 l3 x3, undef, undef, undef, undef, undef, undef, undef, undef, undef, undef, undef, undef, undef, undef, undef, undef, undef, undef, undef, undef, undef, undef, undef, undef, undef, undef, undef, undef, undef, undef, undef, undef, undef, undef, undef, undef, undef, undef, undef, undef, undef, undef, undef, undef, undef, undef, undef, undef, undef, undef, undef], defers := [] } W := by
  have HB := Lib.hid hb
  have K0 := Lib.hid G0
  have K1 := Lib.hid G1
  have ED01 := Lib.hid D01
  clear hb G0 G1  D01
  refine wpAnyH_ready (rs := [1, 8]) (by kernel_rfl) (by simp) ?_
  refine AllReadyH.cons (o := { dst := some 16, op := Go.Op.call { callee := Go.Callee.value (Go.Operand.func 14), args := #[Go.Operand.tmp 15], argTypes := #[26] }, type := 28, pos := "law.go:158", after := #[{ on := 0, ground := Go.Ground.data }], guard := none }) rfl (fun K hK => ?_) (AllReadyH.cons (o := { dst := some 9, op := Go.Op.alloc 28, type := 0, pos := "law.go:158", after := #[], guard := none }) rfl (fun K hK => ?_) AllReadyH.nil)
  · go_simp
    refine (M1.out _ (HT.out.below HB.out)).mono ?_
    rintro e W2 ⟨na, ah, al, ea, N, rfl, hb2⟩
    have HN := Lib.hid N
    have B2 := Lib.hid (bstep HB.out hb2)
    replace K0 := Lib.hid (show HoldsD W2 g false 0 0 0 ∧ w1.heap.size ≤ g from ⟨K0.out.1.below hb2, K0.out.2⟩)
    replace K1 := Lib.hid (show HoldsD W2 k false 0 0 0 ∧ w1.heap.size ≤ k from ⟨K1.out.1.below hb2, K1.out.2⟩)
    clear hb2 N
    refine hK.out _ _ B2.out (fun _ => ?_)
    clear hK K
    try simp only [Act.put, List.setIfInBounds_toArray, List.set_cons_zero, List.set_cons_succ]
    exact o3_1_01 HT M1 M2 M3 HQ  HN.out ED01.out _ B2.out K0.out K1.out
  · go_simp
    have B2 := Lib.hid (ballD1 HB.out (.cells #[.bool false, .int .u64 0, .int .u64 0, .int .i64 0] 28))
    refine hK.out _ _ B2.out (fun _ => ?_)
    clear hK K
    try simp only [Act.put, List.setIfInBounds_toArray, List.set_cons_zero, List.set_cons_succ]
    exact o3_0_012 HT M1 M2 M3 HQ  ED01.out (show g ≠ W.heap.size from Nat.ne_of_lt K0.out.1.2.2) (show k ≠ W.heap.size from Nat.ne_of_lt K1.out.1.2.2) _ B2.out ⟨K0.out.1.alloc _, K0.out.2⟩ ⟨K1.out.1.alloc _, K1.out.2⟩ ⟨HoldsD.zero4 rfl, HB.out.size⟩

set_option linter.unusedVariables false in
set_option linter.unusedSimpArgs false in
set_option maxRecDepth 100000 in
set_option maxHeartbeats 4000000 in
theorem o3_0_02 (HT : Hid (Tab w1)) (M1 : Hid (MakeC n1 h1 l1 x1)) (M2 : Hid (MakeC n2 h2 l2 x2)) (M3 : Hid (MakeC n3 h3 l3 x3)) (HQ : Hid (OkQ w1 (fun g k j na ah al ea nb bh bl eb nc ch cl ec => { tmps := #[Dv n1 h1 l1 x1, Dv n2 h2 l2 x2, Dv n3 h3 l3 x3, .pointer (some ⟨q, 0, none⟩), .pointer (some ⟨q + 1, 0, none⟩), .pointer (some ⟨q + 1 + 1, 0, none⟩), .bool false, .pointer (some ⟨g, 0, none⟩), .pointer (some ⟨k, 0, none⟩), .pointer (some ⟨j, 0, none⟩), undef, undef, undef, .bool true, .bool false, Dv n1 h1 l1 x1, Dv na ah al ea, Dv n2 h2 l2 x2, Dv nb bh bl eb, Dv n3 h3 l3 x3, Dv nc ch cl ec, undef, undef, undef, undef, undef, undef, undef, undef, undef, undef, undef, undef, undef, undef, undef, undef, undef, undef, undef, undef, undef, undef, undef, undef, undef, undef, undef, undef, undef, undef, undef, undef, undef, undef, undef, undef, undef, undef, undef, undef, undef, undef, undef, undef, undef, undef, undef, undef, undef, undef], defers := [] }) Q))  {g : Nat} {j : Nat} (D02 : g ≠ j) (W : World) (hb : Below w1.heap.size w1 W) (G0 : HoldsD W g false 0 0 0 ∧ w1.heap.size ≤ g) (G2 : HoldsD W j false 0 0 0 ∧ w1.heap.size ≤ j) : wpAnyH Tryd.prog .any opsO Q (fun w' => Below w1.heap.size w1 w') 7 #[true, false, true, false, true, false, true, false, true, false, false, false] { tmps := #[Dv n1 h1 l1 x1, Dv n2 h2 l2 x2, Dv n3 h3 l3 x3, .pointer (some ⟨q, 0, none⟩), .pointer (some ⟨q + 1, 0, none⟩), .pointer (some ⟨q + 1 + 1, 0, none⟩), .bool false, .pointer (some ⟨g, 0, none⟩), undef, .pointer (some ⟨j, 0, none⟩), undef, undef, undef, .bool true, .bool false, Dv n1 h1 l1 x1, undef, Dv n2 h2 l2 x2, undef, Dv n3 h3 l3 x3, undef, undef, undef, undef, undef, undef, undef, undef, undef, undef, undef, undef, undef, undef, undef, undef, undef, undef, undef, undef, undef, undef, undef, undef, undef, undef, undef, undef, undef, undef, undef, undef, undef, undef, undef, undef, undef, undef, undef, undef, undef, undef, undef, undef, undef, undef, undef, undef, undef, undef, undef], defers := [] } W := by
  have HB := Lib.hid hb
  have K0 := Lib.hid G0
  have K2 := Lib.hid G2
  have ED02 := Lib.hid D02
  clear hb G0 G2  D02
  refine wpAnyH_ready (rs := [1, 7]) (by kernel_rfl) (by simp) ?_
  refine AllReadyH.cons (o := { dst := some 16, op := Go.Op.call { callee := Go.Callee.value (Go.Operand.func 14), args := #[Go.Operand.tmp 15], argTypes := #[26] }, type := 28, pos := "law.go:158", after := #[{ on := 0, ground := Go.Ground.data }], guard := none }) rfl (fun K hK => ?_) (AllReadyH.cons (o := { dst := some 8, op := Go.Op.alloc 28, type := 0, pos := "law.go:158", after := #[], guard := none }) rfl (fun K hK => ?_) AllReadyH.nil)
  · go_simp
    refine (M1.out _ (HT.out.below HB.out)).mono ?_
    rintro e W2 ⟨na, ah, al, ea, N, rfl, hb2⟩
    have HN := Lib.hid N
    have B2 := Lib.hid (bstep HB.out hb2)
    replace K0 := Lib.hid (show HoldsD W2 g false 0 0 0 ∧ w1.heap.size ≤ g from ⟨K0.out.1.below hb2, K0.out.2⟩)
    replace K2 := Lib.hid (show HoldsD W2 j false 0 0 0 ∧ w1.heap.size ≤ j from ⟨K2.out.1.below hb2, K2.out.2⟩)
    clear hb2 N
    refine hK.out _ _ B2.out (fun _ => ?_)
    clear hK K
    try simp only [Act.put, List.setIfInBounds_toArray, List.set_cons_zero, List.set_cons_succ]
    exact o3_1_02 HT M1 M2 M3 HQ  HN.out ED02.out _ B2.out K0.out K2.out
  · go_simp
    have B2 := Lib.hid (ballD1 HB.out (.cells #[.bool false, .int .u64 0, .int .u64 0, .int .i64 0] 28))
    refine hK.out _ _ B2.out (fun _ => ?_)
    clear hK K
    try simp only [Act.put, List.setIfInBounds_toArray, List.set_cons_zero, List.set_cons_succ]
    exact o3_0_012 HT M1 M2 M3 HQ  (show g ≠ W.heap.size from Nat.ne_of_lt K0.out.1.2.2) ED02.out (show W.heap.size ≠ j from Nat.ne_of_gt K2.out.1.2.2) _ B2.out ⟨K0.out.1.alloc _, K0.out.2⟩ ⟨HoldsD.zero4 rfl, HB.out.size⟩ ⟨K2.out.1.alloc _, K2.out.2⟩

set_option linter.unusedVariables false in
set_option linter.unusedSimpArgs false in
set_option maxRecDepth 100000 in
set_option maxHeartbeats 4000000 in
theorem o3_0_12 (HT : Hid (Tab w1)) (M1 : Hid (MakeC n1 h1 l1 x1)) (M2 : Hid (MakeC n2 h2 l2 x2)) (M3 : Hid (MakeC n3 h3 l3 x3)) (HQ : Hid (OkQ w1 (fun g k j na ah al ea nb bh bl eb nc ch cl ec => { tmps := #[Dv n1 h1 l1 x1, Dv n2 h2 l2 x2, Dv n3 h3 l3 x3, .pointer (some ⟨q, 0, none⟩), .pointer (some ⟨q + 1, 0, none⟩), .pointer (some ⟨q + 1 + 1, 0, none⟩), .bool false, .pointer (some ⟨g, 0, none⟩), .pointer (some ⟨k, 0, none⟩), .pointer (some ⟨j, 0, none⟩), undef, undef, undef, .bool true, .bool false, Dv n1 h1 l1 x1, Dv na ah al ea, Dv n2 h2 l2 x2, Dv nb bh bl eb, Dv n3 h3 l3 x3, Dv nc ch cl ec, undef, undef, undef, undef, undef, undef, undef, undef, undef, undef, undef, undef, undef, undef, undef, undef, undef, undef, undef, undef, undef, undef, undef, undef, undef, undef, undef, undef, undef, undef, undef, undef, undef, undef, undef, undef, undef, undef, undef, undef, undef, undef, undef, undef, undef, undef, undef, undef, undef, undef], defers := [] }) Q))  {k : Nat} {j : Nat} (D12 : k ≠ j) (W : World) (hb : Below w1.heap.size w1 W) (G1 : HoldsD W k false 0 0 0 ∧ w1.heap.size ≤ k) (G2 : HoldsD W j false 0 0 0 ∧ w1.heap.size ≤ j) : wpAnyH Tryd.prog .any opsO Q (fun w' => Below w1.heap.size w1 w') 7 #[true, false, true, false, true, false, false, true, true, false, false, false] { tmps := #[Dv n1 h1 l1 x1, Dv n2 h2 l2 x2, Dv n3 h3 l3 x3, .pointer (some ⟨q, 0, none⟩), .pointer (some ⟨q + 1, 0, none⟩), .pointer (some ⟨q + 1 + 1, 0, none⟩), .bool false, undef, .pointer (some ⟨k, 0, none⟩), .pointer (some ⟨j, 0, none⟩), undef, undef, undef, .bool true, .bool false, Dv n1 h1 l1 x1, undef, Dv n2 h2 l2 x2, undef, Dv n3 h3 l3 x3, undef, undef, undef, undef, undef, undef, undef, undef, undef, undef, undef, undef, undef, undef, undef, undef, undef, undef, undef, undef, undef, undef, undef, undef, undef, undef, undef, undef, undef, undef, undef, undef, undef, undef, undef, undef, undef, undef, undef, undef, undef, undef, undef, undef, undef, undef, undef, undef, undef, undef, undef], defers := [] } W := by
  have HB := Lib.hid hb
  have K1 := Lib.hid G1
  have K2 := Lib.hid G2
  have ED12 := Lib.hid D12
  clear hb G1 G2  D12
  refine wpAnyH_ready (rs := [1, 6]) (by kernel_rfl) (by simp) ?_
  refine AllReadyH.cons (o := { dst := some 16, op := Go.Op.call { callee := Go.Callee.value (Go.Operand.func 14), args := #[Go.Operand.tmp 15], argTypes := #[26] }, type := 28, pos := "law.go:158", after := #[{ on := 0, ground := Go.Ground.data }], guard := none }) rfl (fun K hK => ?_) (AllReadyH.cons (o := { dst := some 7, op := Go.Op.alloc 28, type := 0, pos := "law.go:158", after := #[], guard := none }) rfl (fun K hK => ?_) AllReadyH.nil)
  · go_simp
    refine (M1.out _ (HT.out.below HB.out)).mono ?_
    rintro e W2 ⟨na, ah, al, ea, N, rfl, hb2⟩
    have HN := Lib.hid N
    have B2 := Lib.hid (bstep HB.out hb2)
    replace K1 := Lib.hid (show HoldsD W2 k false 0 0 0 ∧ w1.heap.size ≤ k from ⟨K1.out.1.below hb2, K1.out.2⟩)
    replace K2 := Lib.hid (show HoldsD W2 j false 0 0 0 ∧ w1.heap.size ≤ j from ⟨K2.out.1.below hb2, K2.out.2⟩)
    clear hb2 N
    refine hK.out _ _ B2.out (fun _ => ?_)
    clear hK K
    try simp only [Act.put, List.setIfInBounds_toArray, List.set_cons_zero, List.set_cons_succ]
    exact o3_1_12 HT M1 M2 M3 HQ  HN.out ED12.out _ B2.out K1.out K2.out
  · go_simp
    have B2 := Lib.hid (ballD1 HB.out (.cells #[.bool false, .int .u64 0, .int .u64 0, .int .i64 0] 28))
    refine hK.out _ _ B2.out (fun _ => ?_)
    clear hK K
    try simp only [Act.put, List.setIfInBounds_toArray, List.set_cons_zero, List.set_cons_succ]
    exact o3_0_012 HT M1 M2 M3 HQ  (show W.heap.size ≠ k from Nat.ne_of_gt K1.out.1.2.2) (show W.heap.size ≠ j from Nat.ne_of_gt K2.out.1.2.2) ED12.out _ B2.out ⟨HoldsD.zero4 rfl, HB.out.size⟩ ⟨K1.out.1.alloc _, K1.out.2⟩ ⟨K2.out.1.alloc _, K2.out.2⟩

set_option linter.unusedVariables false in
set_option linter.unusedSimpArgs false in
set_option maxRecDepth 100000 in
set_option maxHeartbeats 4000000 in
theorem o3_1_n (HT : Hid (Tab w1)) (M1 : Hid (MakeC n1 h1 l1 x1)) (M2 : Hid (MakeC n2 h2 l2 x2)) (M3 : Hid (MakeC n3 h3 l3 x3)) (HQ : Hid (OkQ w1 (fun g k j na ah al ea nb bh bl eb nc ch cl ec => { tmps := #[Dv n1 h1 l1 x1, Dv n2 h2 l2 x2, Dv n3 h3 l3 x3, .pointer (some ⟨q, 0, none⟩), .pointer (some ⟨q + 1, 0, none⟩), .pointer (some ⟨q + 1 + 1, 0, none⟩), .bool false, .pointer (some ⟨g, 0, none⟩), .pointer (some ⟨k, 0, none⟩), .pointer (some ⟨j, 0, none⟩), undef, undef, undef, .bool true, .bool false, Dv n1 h1 l1 x1, Dv na ah al ea, Dv n2 h2 l2 x2, Dv nb bh bl eb, Dv n3 h3 l3 x3, Dv nc ch cl ec, undef, undef, undef, undef, undef, undef, undef, undef, undef, undef, undef, undef, undef, undef, undef, undef, undef, undef, undef, undef, undef, undef, undef, undef, undef, undef, undef, undef, undef, undef, undef, undef, undef, undef, undef, undef, undef, undef, undef, undef, undef, undef, undef, undef, undef, undef, undef, undef, undef, undef], defers := [] }) Q)) {na : Bool} {ah al : Nat} {ea : Int} (N0 : NumOk na ah al ea)   (W : World) (hb : Below w1.heap.size w1 W)  : wpAnyH Tryd.prog .any opsO Q (fun w' => Below w1.heap.size w1 w') 8 #[true, true, true, false, true, false, false, false, false, false, false, false] { tmps := #[Dv n1 h1 l1 x1, Dv n2 h2 l2 x2, Dv n3 h3 l3 x3, .pointer (some ⟨q, 0, none⟩), .pointer (some ⟨q + 1, 0, none⟩), .pointer (some ⟨q + 1 + 1, 0, none⟩), .bool false, undef, undef, undef, undef, undef, undef, .bool true, .bool false, Dv n1 h1 l1 x1, Dv na ah al ea, Dv n2 h2 l2 x2, undef, Dv n3 h3 l3 x3, undef, undef, undef, undef, undef, undef, undef, undef, undef, undef, undef, undef, undef, undef, undef, undef, undef, undef, undef, undef, undef, undef, undef, undef, undef, undef, undef, undef, undef, undef, undef, undef, undef, undef, undef, undef, undef, undef, undef, undef, undef, undef, undef, undef, undef, undef, undef, undef, undef, undef, undef], defers := [] } W := by
  have HB := Lib.hid hb
  have NN0 := Lib.hid N0
  clear hb  N0 
  refine wpAnyH_ready (rs := [3, 6, 7, 8]) (by kernel_rfl) (by simp) ?_
  refine AllReadyH.cons (o := { dst := some 18, op := Go.Op.call { callee := Go.Callee.value (Go.Operand.func 14), args := #[Go.Operand.tmp 17], argTypes := #[26] }, type := 28, pos := "law.go:158", after := #[{ on := 2, ground := Go.Ground.data }, { on := 1, ground := Go.Ground.chain }], guard := none }) rfl (fun K hK => ?_) (AllReadyH.cons (o := { dst := some 7, op := Go.Op.alloc 28, type := 0, pos := "law.go:158", after := #[], guard := none }) rfl (fun K hK => ?_) (AllReadyH.cons (o := { dst := some 8, op := Go.Op.alloc 28, type := 0, pos := "law.go:158", after := #[], guard := none }) rfl (fun K hK => ?_) (AllReadyH.cons (o := { dst := some 9, op := Go.Op.alloc 28, type := 0, pos := "law.go:158", after := #[], guard := none }) rfl (fun K hK => ?_) AllReadyH.nil)))
  · go_simp
    refine (M2.out _ (HT.out.below HB.out)).mono ?_
    rintro e W2 ⟨nb, bh, bl, eb, N, rfl, hb2⟩
    have HN := Lib.hid N
    have B2 := Lib.hid (bstep HB.out hb2)
    clear hb2 N
    refine hK.out _ _ B2.out (fun _ => ?_)
    clear hK K
    try simp only [Act.put, List.setIfInBounds_toArray, List.set_cons_zero, List.set_cons_succ]
    exact o3_2_n HT M1 M2 M3 HQ NN0.out HN.out  _ B2.out 
  · go_simp
    have B2 := Lib.hid (ballD1 HB.out (.cells #[.bool false, .int .u64 0, .int .u64 0, .int .i64 0] 28))
    refine hK.out _ _ B2.out (fun _ => ?_)
    clear hK K
    try simp only [Act.put, List.setIfInBounds_toArray, List.set_cons_zero, List.set_cons_succ]
    exact o3_1_0 HT M1 M2 M3 HQ NN0.out  _ B2.out ⟨HoldsD.zero4 rfl, HB.out.size⟩
  · go_simp
    have B2 := Lib.hid (ballD1 HB.out (.cells #[.bool false, .int .u64 0, .int .u64 0, .int .i64 0] 28))
    refine hK.out _ _ B2.out (fun _ => ?_)
    clear hK K
    try simp only [Act.put, List.setIfInBounds_toArray, List.set_cons_zero, List.set_cons_succ]
    exact o3_1_1 HT M1 M2 M3 HQ NN0.out  _ B2.out ⟨HoldsD.zero4 rfl, HB.out.size⟩
  · go_simp
    have B2 := Lib.hid (ballD1 HB.out (.cells #[.bool false, .int .u64 0, .int .u64 0, .int .i64 0] 28))
    refine hK.out _ _ B2.out (fun _ => ?_)
    clear hK K
    try simp only [Act.put, List.setIfInBounds_toArray, List.set_cons_zero, List.set_cons_succ]
    exact o3_1_2 HT M1 M2 M3 HQ NN0.out  _ B2.out ⟨HoldsD.zero4 rfl, HB.out.size⟩

set_option linter.unusedVariables false in
set_option linter.unusedSimpArgs false in
set_option maxRecDepth 100000 in
set_option maxHeartbeats 4000000 in
theorem o3_0_0 (HT : Hid (Tab w1)) (M1 : Hid (MakeC n1 h1 l1 x1)) (M2 : Hid (MakeC n2 h2 l2 x2)) (M3 : Hid (MakeC n3 h3 l3 x3)) (HQ : Hid (OkQ w1 (fun g k j na ah al ea nb bh bl eb nc ch cl ec => { tmps := #[Dv n1 h1 l1 x1, Dv n2 h2 l2 x2, Dv n3 h3 l3 x3, .pointer (some ⟨q, 0, none⟩), .pointer (some ⟨q + 1, 0, none⟩), .pointer (some ⟨q + 1 + 1, 0, none⟩), .bool false, .pointer (some ⟨g, 0, none⟩), .pointer (some ⟨k, 0, none⟩), .pointer (some ⟨j, 0, none⟩), undef, undef, undef, .bool true, .bool false, Dv n1 h1 l1 x1, Dv na ah al ea, Dv n2 h2 l2 x2, Dv nb bh bl eb, Dv n3 h3 l3 x3, Dv nc ch cl ec, undef, undef, undef, undef, undef, undef, undef, undef, undef, undef, undef, undef, undef, undef, undef, undef, undef, undef, undef, undef, undef, undef, undef, undef, undef, undef, undef, undef, undef, undef, undef, undef, undef, undef, undef, undef, undef, undef, undef, undef, undef, undef, undef, undef, undef, undef, undef, undef, undef, undef], defers := [] }) Q))  {g : Nat}  (W : World) (hb : Below w1.heap.size w1 W) (G0 : HoldsD W g false 0 0 0 ∧ w1.heap.size ≤ g) : wpAnyH Tryd.prog .any opsO Q (fun w' => Below w1.heap.size w1 w') 8 #[true, false, true, false, true, false, true, false, false, false, false, false] { tmps := #[Dv n1 h1 l1 x1, Dv n2 h2 l2 x2, Dv n3 h3 l3 x3, .pointer (some ⟨q, 0, none⟩), .pointer (some ⟨q + 1, 0, none⟩), .pointer (some ⟨q + 1 + 1, 0, none⟩), .bool false, .pointer (some ⟨g, 0, none⟩), undef, undef, undef, undef, undef, .bool true, .bool false, Dv n1 h1 l1 x1, undef, Dv n2 h2 l2 x2, undef, Dv n3 h3 l3 x3, undef, undef, undef, undef, undef, undef, undef, undef, undef, undef, undef, undef, undef, undef, undef, undef, undef, undef, undef, undef, undef, undef, undef, undef, undef, undef, undef, undef, undef, undef, undef, undef, undef, undef, undef, undef, undef, undef, undef, undef, undef, undef, undef, undef, undef, undef, undef, undef, undef, undef, undef], defers := [] } W := by
  have HB := Lib.hid hb
  have K0 := Lib.hid G0
  clear hb G0  
  refine wpAnyH_ready (rs := [1, 7, 8]) (by kernel_rfl) (by simp) ?_
  refine AllReadyH.cons (o := { dst := some 16, op := Go.Op.call { callee := Go.Callee.value (Go.Operand.func 14), args := #[Go.Operand.tmp 15], argTypes := #[26] }, type := 28, pos := "law.go:158", after := #[{ on := 0, ground := Go.Ground.data }], guard := none }) rfl (fun K hK => ?_) (AllReadyH.cons (o := { dst := some 8, op := Go.Op.alloc 28, type := 0, pos := "law.go:158", after := #[], guard := none }) rfl (fun K hK => ?_) (AllReadyH.cons (o := { dst := some 9, op := Go.Op.alloc 28, type := 0, pos := "law.go:158", after := #[], guard := none }) rfl (fun K hK => ?_) AllReadyH.nil))
  · go_simp
    refine (M1.out _ (HT.out.below HB.out)).mono ?_
    rintro e W2 ⟨na, ah, al, ea, N, rfl, hb2⟩
    have HN := Lib.hid N
    have B2 := Lib.hid (bstep HB.out hb2)
    replace K0 := Lib.hid (show HoldsD W2 g false 0 0 0 ∧ w1.heap.size ≤ g from ⟨K0.out.1.below hb2, K0.out.2⟩)
    clear hb2 N
    refine hK.out _ _ B2.out (fun _ => ?_)
    clear hK K
    try simp only [Act.put, List.setIfInBounds_toArray, List.set_cons_zero, List.set_cons_succ]
    exact o3_1_0 HT M1 M2 M3 HQ  HN.out  _ B2.out K0.out
  · go_simp
    have B2 := Lib.hid (ballD1 HB.out (.cells #[.bool false, .int .u64 0, .int .u64 0, .int .i64 0] 28))
    refine hK.out _ _ B2.out (fun _ => ?_)
    clear hK K
    try simp only [Act.put, List.setIfInBounds_toArray, List.set_cons_zero, List.set_cons_succ]
    exact o3_0_01 HT M1 M2 M3 HQ  (show g ≠ W.heap.size from Nat.ne_of_lt K0.out.1.2.2) _ B2.out ⟨K0.out.1.alloc _, K0.out.2⟩ ⟨HoldsD.zero4 rfl, HB.out.size⟩
  · go_simp
    have B2 := Lib.hid (ballD1 HB.out (.cells #[.bool false, .int .u64 0, .int .u64 0, .int .i64 0] 28))
    refine hK.out _ _ B2.out (fun _ => ?_)
    clear hK K
    try simp only [Act.put, List.setIfInBounds_toArray, List.set_cons_zero, List.set_cons_succ]
    exact o3_0_02 HT M1 M2 M3 HQ  (show g ≠ W.heap.size from Nat.ne_of_lt K0.out.1.2.2) _ B2.out ⟨K0.out.1.alloc _, K0.out.2⟩ ⟨HoldsD.zero4 rfl, HB.out.size⟩

set_option linter.unusedVariables false in
set_option linter.unusedSimpArgs false in
set_option maxRecDepth 100000 in
set_option maxHeartbeats 4000000 in
theorem o3_0_1 (HT : Hid (Tab w1)) (M1 : Hid (MakeC n1 h1 l1 x1)) (M2 : Hid (MakeC n2 h2 l2 x2)) (M3 : Hid (MakeC n3 h3 l3 x3)) (HQ : Hid (OkQ w1 (fun g k j na ah al ea nb bh bl eb nc ch cl ec => { tmps := #[Dv n1 h1 l1 x1, Dv n2 h2 l2 x2, Dv n3 h3 l3 x3, .pointer (some ⟨q, 0, none⟩), .pointer (some ⟨q + 1, 0, none⟩), .pointer (some ⟨q + 1 + 1, 0, none⟩), .bool false, .pointer (some ⟨g, 0, none⟩), .pointer (some ⟨k, 0, none⟩), .pointer (some ⟨j, 0, none⟩), undef, undef, undef, .bool true, .bool false, Dv n1 h1 l1 x1, Dv na ah al ea, Dv n2 h2 l2 x2, Dv nb bh bl eb, Dv n3 h3 l3 x3, Dv nc ch cl ec, undef, undef, undef, undef, undef, undef, undef, undef, undef, undef, undef, undef, undef, undef, undef, undef, undef, undef, undef, undef, undef, undef, undef, undef, undef, undef, undef, undef, undef, undef, undef, undef, undef, undef, undef, undef, undef, undef, undef, undef, undef, undef, undef, undef, undef, undef, undef, undef, undef, undef], defers := [] }) Q))  {k : Nat}  (W : World) (hb : Below w1.heap.size w1 W) (G1 : HoldsD W k false 0 0 0 ∧ w1.heap.size ≤ k) : wpAnyH Tryd.prog .any opsO Q (fun w' => Below w1.heap.size w1 w') 8 #[true, false, true, false, true, false, false, true, false, false, false, false] { tmps := #[Dv n1 h1 l1 x1, Dv n2 h2 l2 x2, Dv n3 h3 l3 x3, .pointer (some ⟨q, 0, none⟩), .pointer (some ⟨q + 1, 0, none⟩), .pointer (some ⟨q + 1 + 1, 0, none⟩), .bool false, undef, .pointer (some ⟨k, 0, none⟩), undef, undef, undef, undef, .bool true, .bool false, Dv n1 h1 l1 x1, undef, Dv n2 h2 l2 x2, undef, Dv n3 h3 l3 x3, undef, undef, undef, undef, undef, undef, undef, undef, undef, undef, undef, undef, undef, undef, undef, undef, undef, undef, undef, undef, undef, undef, undef, undef, undef, undef, undef, undef, undef, undef, undef, undef, undef, undef, undef, undef, undef, undef, undef, undef, undef, undef, undef, undef, undef, undef, undef, undef, undef, undef, undef], defers := [] } W := by
  have HB := Lib.hid hb
  have K1 := Lib.hid G1
  clear hb G1  
  refine wpAnyH_ready (rs := [1, 6, 8]) (by kernel_rfl) (by simp) ?_
  refine AllReadyH.cons (o := { dst := some 16, op := Go.Op.call { callee := Go.Callee.value (Go.Operand.func 14), args := #[Go.Operand.tmp 15], argTypes := #[26] }, type := 28, pos := "law.go:158", after := #[{ on := 0, ground := Go.Ground.data }], guard := none }) rfl (fun K hK => ?_) (AllReadyH.cons (o := { dst := some 7, op := Go.Op.alloc 28, type := 0, pos := "law.go:158", after := #[], guard := none }) rfl (fun K hK => ?_) (AllReadyH.cons (o := { dst := some 9, op := Go.Op.alloc 28, type := 0, pos := "law.go:158", after := #[], guard := none }) rfl (fun K hK => ?_) AllReadyH.nil))
  · go_simp
    refine (M1.out _ (HT.out.below HB.out)).mono ?_
    rintro e W2 ⟨na, ah, al, ea, N, rfl, hb2⟩
    have HN := Lib.hid N
    have B2 := Lib.hid (bstep HB.out hb2)
    replace K1 := Lib.hid (show HoldsD W2 k false 0 0 0 ∧ w1.heap.size ≤ k from ⟨K1.out.1.below hb2, K1.out.2⟩)
    clear hb2 N
    refine hK.out _ _ B2.out (fun _ => ?_)
    clear hK K
    try simp only [Act.put, List.setIfInBounds_toArray, List.set_cons_zero, List.set_cons_succ]
    exact o3_1_1 HT M1 M2 M3 HQ  HN.out  _ B2.out K1.out
  · go_simp
    have B2 := Lib.hid (ballD1 HB.out (.cells #[.bool false, .int .u64 0, .int .u64 0, .int .i64 0] 28))
    refine hK.out _ _ B2.out (fun _ => ?_)
    clear hK K
    try simp only [Act.put, List.setIfInBounds_toArray, List.set_cons_zero, List.set_cons_succ]
    exact o3_0_01 HT M1 M2 M3 HQ  (show W.heap.size ≠ k from Nat.ne_of_gt K1.out.1.2.2) _ B2.out ⟨HoldsD.zero4 rfl, HB.out.size⟩ ⟨K1.out.1.alloc _, K1.out.2⟩
  · go_simp
    have B2 := Lib.hid (ballD1 HB.out (.cells #[.bool false, .int .u64 0, .int .u64 0, .int .i64 0] 28))
    refine hK.out _ _ B2.out (fun _ => ?_)
    clear hK K
    try simp only [Act.put, List.setIfInBounds_toArray, List.set_cons_zero, List.set_cons_succ]
    exact o3_0_12 HT M1 M2 M3 HQ  (show k ≠ W.heap.size from Nat.ne_of_lt K1.out.1.2.2) _ B2.out ⟨K1.out.1.alloc _, K1.out.2⟩ ⟨HoldsD.zero4 rfl, HB.out.size⟩

set_option linter.unusedVariables false in
set_option linter.unusedSimpArgs false in
set_option maxRecDepth 100000 in
set_option maxHeartbeats 4000000 in
theorem o3_0_2 (HT : Hid (Tab w1)) (M1 : Hid (MakeC n1 h1 l1 x1)) (M2 : Hid (MakeC n2 h2 l2 x2)) (M3 : Hid (MakeC n3 h3 l3 x3)) (HQ : Hid (OkQ w1 (fun g k j na ah al ea nb bh bl eb nc ch cl ec => { tmps := #[Dv n1 h1 l1 x1, Dv n2 h2 l2 x2, Dv n3 h3 l3 x3, .pointer (some ⟨q, 0, none⟩), .pointer (some ⟨q + 1, 0, none⟩), .pointer (some ⟨q + 1 + 1, 0, none⟩), .bool false, .pointer (some ⟨g, 0, none⟩), .pointer (some ⟨k, 0, none⟩), .pointer (some ⟨j, 0, none⟩), undef, undef, undef, .bool true, .bool false, Dv n1 h1 l1 x1, Dv na ah al ea, Dv n2 h2 l2 x2, Dv nb bh bl eb, Dv n3 h3 l3 x3, Dv nc ch cl ec, undef, undef, undef, undef, undef, undef, undef, undef, undef, undef, undef, undef, undef, undef, undef, undef, undef, undef, undef, undef, undef, undef, undef, undef, undef, undef, undef, undef, undef, undef, undef, undef, undef, undef, undef, undef, undef, undef, undef, undef, undef, undef, undef, undef, undef, undef, undef, undef, undef, undef], defers := [] }) Q))  {j : Nat}  (W : World) (hb : Below w1.heap.size w1 W) (G2 : HoldsD W j false 0 0 0 ∧ w1.heap.size ≤ j) : wpAnyH Tryd.prog .any opsO Q (fun w' => Below w1.heap.size w1 w') 8 #[true, false, true, false, true, false, false, false, true, false, false, false] { tmps := #[Dv n1 h1 l1 x1, Dv n2 h2 l2 x2, Dv n3 h3 l3 x3, .pointer (some ⟨q, 0, none⟩), .pointer (some ⟨q + 1, 0, none⟩), .pointer (some ⟨q + 1 + 1, 0, none⟩), .bool false, undef, undef, .pointer (some ⟨j, 0, none⟩), undef, undef, undef, .bool true, .bool false, Dv n1 h1 l1 x1, undef, Dv n2 h2 l2 x2, undef, Dv n3 h3 l3 x3, undef, undef, undef, undef, undef, undef, undef, undef, undef, undef, undef, undef, undef, undef, undef, undef, undef, undef, undef, undef, undef, undef, undef, undef, undef, undef, undef, undef, undef, undef, undef, undef, undef, undef, undef, undef, undef, undef, undef, undef, undef, undef, undef, undef, undef, undef, undef, undef, undef, undef, undef], defers := [] } W := by
  have HB := Lib.hid hb
  have K2 := Lib.hid G2
  clear hb G2  
  refine wpAnyH_ready (rs := [1, 6, 7]) (by kernel_rfl) (by simp) ?_
  refine AllReadyH.cons (o := { dst := some 16, op := Go.Op.call { callee := Go.Callee.value (Go.Operand.func 14), args := #[Go.Operand.tmp 15], argTypes := #[26] }, type := 28, pos := "law.go:158", after := #[{ on := 0, ground := Go.Ground.data }], guard := none }) rfl (fun K hK => ?_) (AllReadyH.cons (o := { dst := some 7, op := Go.Op.alloc 28, type := 0, pos := "law.go:158", after := #[], guard := none }) rfl (fun K hK => ?_) (AllReadyH.cons (o := { dst := some 8, op := Go.Op.alloc 28, type := 0, pos := "law.go:158", after := #[], guard := none }) rfl (fun K hK => ?_) AllReadyH.nil))
  · go_simp
    refine (M1.out _ (HT.out.below HB.out)).mono ?_
    rintro e W2 ⟨na, ah, al, ea, N, rfl, hb2⟩
    have HN := Lib.hid N
    have B2 := Lib.hid (bstep HB.out hb2)
    replace K2 := Lib.hid (show HoldsD W2 j false 0 0 0 ∧ w1.heap.size ≤ j from ⟨K2.out.1.below hb2, K2.out.2⟩)
    clear hb2 N
    refine hK.out _ _ B2.out (fun _ => ?_)
    clear hK K
    try simp only [Act.put, List.setIfInBounds_toArray, List.set_cons_zero, List.set_cons_succ]
    exact o3_1_2 HT M1 M2 M3 HQ  HN.out  _ B2.out K2.out
  · go_simp
    have B2 := Lib.hid (ballD1 HB.out (.cells #[.bool false, .int .u64 0, .int .u64 0, .int .i64 0] 28))
    refine hK.out _ _ B2.out (fun _ => ?_)
    clear hK K
    try simp only [Act.put, List.setIfInBounds_toArray, List.set_cons_zero, List.set_cons_succ]
    exact o3_0_02 HT M1 M2 M3 HQ  (show W.heap.size ≠ j from Nat.ne_of_gt K2.out.1.2.2) _ B2.out ⟨HoldsD.zero4 rfl, HB.out.size⟩ ⟨K2.out.1.alloc _, K2.out.2⟩
  · go_simp
    have B2 := Lib.hid (ballD1 HB.out (.cells #[.bool false, .int .u64 0, .int .u64 0, .int .i64 0] 28))
    refine hK.out _ _ B2.out (fun _ => ?_)
    clear hK K
    try simp only [Act.put, List.setIfInBounds_toArray, List.set_cons_zero, List.set_cons_succ]
    exact o3_0_12 HT M1 M2 M3 HQ  (show W.heap.size ≠ j from Nat.ne_of_gt K2.out.1.2.2) _ B2.out ⟨HoldsD.zero4 rfl, HB.out.size⟩ ⟨K2.out.1.alloc _, K2.out.2⟩

set_option linter.unusedVariables false in
set_option linter.unusedSimpArgs false in
set_option maxRecDepth 100000 in
set_option maxHeartbeats 4000000 in
theorem o3_0_n (HT : Hid (Tab w1)) (M1 : Hid (MakeC n1 h1 l1 x1)) (M2 : Hid (MakeC n2 h2 l2 x2)) (M3 : Hid (MakeC n3 h3 l3 x3)) (HQ : Hid (OkQ w1 (fun g k j na ah al ea nb bh bl eb nc ch cl ec => { tmps := #[Dv n1 h1 l1 x1, Dv n2 h2 l2 x2, Dv n3 h3 l3 x3, .pointer (some ⟨q, 0, none⟩), .pointer (some ⟨q + 1, 0, none⟩), .pointer (some ⟨q + 1 + 1, 0, none⟩), .bool false, .pointer (some ⟨g, 0, none⟩), .pointer (some ⟨k, 0, none⟩), .pointer (some ⟨j, 0, none⟩), undef, undef, undef, .bool true, .bool false, Dv n1 h1 l1 x1, Dv na ah al ea, Dv n2 h2 l2 x2, Dv nb bh bl eb, Dv n3 h3 l3 x3, Dv nc ch cl ec, undef, undef, undef, undef, undef, undef, undef, undef, undef, undef, undef, undef, undef, undef, undef, undef, undef, undef, undef, undef, undef, undef, undef, undef, undef, undef, undef, undef, undef, undef, undef, undef, undef, undef, undef, undef, undef, undef, undef, undef, undef, undef, undef, undef, undef, undef, undef, undef, undef, undef], defers := [] }) Q))    (W : World) (hb : Below w1.heap.size w1 W)  : wpAnyH Tryd.prog .any opsO Q (fun w' => Below w1.heap.size w1 w') 9 #[true, false, true, false, true, false, false, false, false, false, false, false] { tmps := #[Dv n1 h1 l1 x1, Dv n2 h2 l2 x2, Dv n3 h3 l3 x3, .pointer (some ⟨q, 0, none⟩), .pointer (some ⟨q + 1, 0, none⟩), .pointer (some ⟨q + 1 + 1, 0, none⟩), .bool false, undef, undef, undef, undef, undef, undef, .bool true, .bool false, Dv n1 h1 l1 x1, undef, Dv n2 h2 l2 x2, undef, Dv n3 h3 l3 x3, undef, undef, undef, undef, undef, undef, undef, undef, undef, undef, undef, undef, undef, undef, undef, undef, undef, undef, undef, undef, undef, undef, undef, undef, undef, undef, undef, undef, undef, undef, undef, undef, undef, undef, undef, undef, undef, undef, undef, undef, undef, undef, undef, undef, undef, undef, undef, undef, undef, undef, undef], defers := [] } W := by
  have HB := Lib.hid hb
  clear hb   
  refine wpAnyH_ready (rs := [1, 6, 7, 8]) (by kernel_rfl) (by simp) ?_
  refine AllReadyH.cons (o := { dst := some 16, op := Go.Op.call { callee := Go.Callee.value (Go.Operand.func 14), args := #[Go.Operand.tmp 15], argTypes := #[26] }, type := 28, pos := "law.go:158", after := #[{ on := 0, ground := Go.Ground.data }], guard := none }) rfl (fun K hK => ?_) (AllReadyH.cons (o := { dst := some 7, op := Go.Op.alloc 28, type := 0, pos := "law.go:158", after := #[], guard := none }) rfl (fun K hK => ?_) (AllReadyH.cons (o := { dst := some 8, op := Go.Op.alloc 28, type := 0, pos := "law.go:158", after := #[], guard := none }) rfl (fun K hK => ?_) (AllReadyH.cons (o := { dst := some 9, op := Go.Op.alloc 28, type := 0, pos := "law.go:158", after := #[], guard := none }) rfl (fun K hK => ?_) AllReadyH.nil)))
  · go_simp
    refine (M1.out _ (HT.out.below HB.out)).mono ?_
    rintro e W2 ⟨na, ah, al, ea, N, rfl, hb2⟩
    have HN := Lib.hid N
    have B2 := Lib.hid (bstep HB.out hb2)
    clear hb2 N
    refine hK.out _ _ B2.out (fun _ => ?_)
    clear hK K
    try simp only [Act.put, List.setIfInBounds_toArray, List.set_cons_zero, List.set_cons_succ]
    exact o3_1_n HT M1 M2 M3 HQ  HN.out  _ B2.out 
  · go_simp
    have B2 := Lib.hid (ballD1 HB.out (.cells #[.bool false, .int .u64 0, .int .u64 0, .int .i64 0] 28))
    refine hK.out _ _ B2.out (fun _ => ?_)
    clear hK K
    try simp only [Act.put, List.setIfInBounds_toArray, List.set_cons_zero, List.set_cons_succ]
    exact o3_0_0 HT M1 M2 M3 HQ   _ B2.out ⟨HoldsD.zero4 rfl, HB.out.size⟩
  · go_simp
    have B2 := Lib.hid (ballD1 HB.out (.cells #[.bool false, .int .u64 0, .int .u64 0, .int .i64 0] 28))
    refine hK.out _ _ B2.out (fun _ => ?_)
    clear hK K
    try simp only [Act.put, List.setIfInBounds_toArray, List.set_cons_zero, List.set_cons_succ]
    exact o3_0_1 HT M1 M2 M3 HQ   _ B2.out ⟨HoldsD.zero4 rfl, HB.out.size⟩
  · go_simp
    have B2 := Lib.hid (ballD1 HB.out (.cells #[.bool false, .int .u64 0, .int .u64 0, .int .i64 0] 28))
    refine hK.out _ _ B2.out (fun _ => ?_)
    clear hK K
    try simp only [Act.put, List.setIfInBounds_toArray, List.set_cons_zero, List.set_cons_succ]
    exact o3_0_2 HT M1 M2 M3 HQ   _ B2.out ⟨HoldsD.zero4 rfl, HB.out.size⟩

end
end Go.Proofs.YteboohejlkionaaDoor

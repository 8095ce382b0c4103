/-
  The document's durations (begun, ended, days, months of the statements), each as a contract of its call.
-/
import Derived.Test.YthgondbiddncpaaDoorYh
namespace Go.Proofs.YthgondbiddncpaaDoor
open Go.RowKit

/-- Where a duration goes on behind its P. -/
def bgI (l : List UInt8) : Nat := if (strip 45 l).2 = true then 2 else 1
/-- What begun answers. -/
def BgP (s : ByteArray) (e : Ending) : Prop := e = .returned (.tuple #[.int .i64 ((bgI s.data.toList : Nat) : Int), .bool (bodyL s.data.toList).2.2])
theorem body_cons (b : UInt8) (t : List UInt8) (h : ¬ b = 45) : bodyL (b :: t) = ((strip 80 (b :: t)).1, false, (strip 80 (b :: t)).2) := by
  unfold bodyL
  rw [strip_cons, if_neg h]
theorem body_neg (t : List UInt8) : bodyL (45 :: t) = ((strip 80 t).1, true, (strip 80 t).2) := by
  unfold bodyL
  rw [strip_cons, if_pos rfl]
theorem strip80 (c : UInt8) (t : List UInt8) : (strip 80 (c :: t)).2 = decide (c = 80) ∧ ((strip 80 (c :: t)).2 = true → (strip 80 (c :: t)).1 = t) := by
  rw [strip_cons]
  by_cases h : c = 80
  · rw [if_pos h]; exact ⟨(decide_eq_true h).symm, fun _ => rfl⟩
  · rw [if_neg h]; exact ⟨(decide_eq_false h).symm, fun k => by cases k⟩
theorem bg_drop : ∀ l : List UInt8, (bodyL l).2.2 = true → bgI l ≤ l.length ∧ l.drop (bgI l) = (bodyL l).1
  | [] => fun h => by cases h
  | b :: t => fun h => by
    by_cases k : b = 45
    · subst k
      rw [body_neg] at h ⊢
      have e : bgI (45 :: t) = 2 := by unfold bgI; rw [strip_cons, if_pos rfl]; rfl
      rw [e]
      cases t with
      | nil => cases h
      | cons c r => exact ⟨by rw [List.length_cons, List.length_cons]; omega, ((strip80 c r).2 h).symm⟩
    · rw [body_cons b t k] at h ⊢
      have e : bgI (b :: t) = 1 := by unfold bgI; rw [strip_cons, if_neg k]; rfl
      rw [e]
      exact ⟨by rw [List.length_cons]; omega, ((strip80 b t).2 h).symm⟩
theorem byte_dec (c : UInt8) (x : Nat) (h : c.toNat = x) (k : UInt8) : decide (c = k) = decide (x = k.toNat) := by
  rw [decide_eq_decide, ← h]
  exact UInt8.toNat_inj.symm
set_option linter.unusedSimpArgs false in
set_option linter.unusedVariables false in
set_option maxRecDepth 100000 in
set_option maxHeartbeats 4000000 in
theorem begun_any (s : ByteArray) (hs : s.size ≤ 200000000000000) (w : World) : Calls Tryd.prog 53 #[.string s] w (fun e w' => BgP s e ∧ Below w.heap.size w w') := by
  cases hl : s.data.toList with
  | nil =>
    have sz : s.size = 0 := by show s.data.toList.length = 0; rw [hl]; rfl
    have T0 : decide (0 < s.size) = false := decide_eq_false (by omega)
    have T1 : decide ((0 : Int) < (s.size : Int)) = false := decide_eq_false (by omega)
    have RES := Lib.hid (show BgP s (.returned (.tuple #[.int .i64 1, .bool false])) from by unfold BgP; rw [hl]; rfl)
    clear hl sz
    have wz : IntKind.i64.wrap 1 = 1 := by rw [IntKind.wrap_i64]; omega
    go_enter Tryd.func53, Tryd.ntmps53
    go_upto_region 4 with fail
    refine wp_region_held_drew (S := fun w' => Below w.heap.size w w') (by kernel_rfl) ?_ (fun hHeld => ?_)
    · exact (Below.refl _ _).drew
    refine wpAnyH_take (i := 0) (oi := { dst := some 13, op := Go.Op.move (Go.Operand.tmp 4), type := 3, pos := "law.go:161", after := #[], guard := none }) (v := ?_) rfl (by kernel_rfl) (by kernel_rfl) (by kernel_rfl) (fun _ _ _ h => h) (Or.inl ⟨by rfl, ?_⟩) (by assumption) ?_
    rotate_left
    · intro w hSw
      try dsimp only at hSw
      go_simp
      try with_reducible rfl
    try simp only [Act.put, List.setIfInBounds_toArray, List.set_cons_zero, List.set_cons_succ]
    refine wpAnyH_take (i := 2) (oi := { dst := some 15, op := Go.Op.move (Go.Operand.tmp 4), type := 3, pos := "law.go:161", after := #[], guard := none }) (v := ?_) rfl (by kernel_rfl) (by kernel_rfl) (by kernel_rfl) (fun _ _ _ h => h) (Or.inl ⟨by rfl, ?_⟩) (by assumption) ?_
    rotate_left
    · intro w hSw
      try dsimp only at hSw
      go_simp
      try with_reducible rfl
    try simp only [Act.put, List.setIfInBounds_toArray, List.set_cons_zero, List.set_cons_succ]
    refine wpAnyH_take (i := 3) (oi := { dst := some 16, op := Go.Op.move (Go.Operand.tmp 0), type := 9, pos := "law.go:161", after := #[], guard := none }) (v := ?_) rfl (by kernel_rfl) (by kernel_rfl) (by kernel_rfl) (fun _ _ _ h => h) (Or.inl ⟨by rfl, ?_⟩) (by assumption) ?_
    rotate_left
    · intro w hSw
      try dsimp only at hSw
      go_simp
      try with_reducible rfl
    try simp only [Act.put, List.setIfInBounds_toArray, List.set_cons_zero, List.set_cons_succ]
    refine wpAnyH_take (i := 1) (oi := { dst := some 14, op := Go.Op.binOp Go.BinOp.add 3 (Go.Operand.tmp 13) (Go.Operand.const (Go.Value.int Go.IntKind.i64 1)) 3, type := 3, pos := "law.go:161", after := #[{ on := 0, ground := Go.Ground.data }], guard := none }) (v := ?_) rfl (by kernel_rfl) (by kernel_rfl) (by kernel_rfl) (fun _ _ _ h => h) (Or.inl ⟨by rfl, ?_⟩) (by assumption) ?_
    rotate_left
    · intro w hSw
      try dsimp only at hSw
      go_simp
      try with_reducible rfl
    try simp only [Act.put, List.setIfInBounds_toArray, List.set_cons_zero, List.set_cons_succ]
    refine wpAnyH_take (i := 4) (oi := { dst := some 17, op := Go.Op.call { callee := Go.Callee.builtin Go.Builtin.len, args := #[Go.Operand.tmp 16], argTypes := #[9] }, type := 3, pos := "law.go:161", after := #[{ on := 3, ground := Go.Ground.data }], guard := none }) (v := ?_) rfl (by kernel_rfl) (by kernel_rfl) (by kernel_rfl) (fun _ _ _ h => h) (Or.inl ⟨by rfl, ?_⟩) (by assumption) ?_
    rotate_left
    · intro w hSw
      try dsimp only at hSw
      go_simp
      try with_reducible rfl
    try simp only [Act.put, List.setIfInBounds_toArray, List.set_cons_zero, List.set_cons_succ]
    refine wpAnyH_take (i := 5) (oi := { dst := some 18, op := Go.Op.binOp Go.BinOp.lss 3 (Go.Operand.tmp 15) (Go.Operand.tmp 17) 3, type := 4, pos := "law.go:161", after := #[{ on := 2, ground := Go.Ground.data }, { on := 4, ground := Go.Ground.data }], guard := none }) (v := ?_) rfl (by kernel_rfl) (by kernel_rfl) (by kernel_rfl) (fun _ _ _ h => h) (Or.inl ⟨by rfl, ?_⟩) (by assumption) ?_
    rotate_left
    · intro w hSw
      try dsimp only at hSw
      go_simp
      try with_reducible rfl
    try simp only [Act.put, List.setIfInBounds_toArray, List.set_cons_zero, List.set_cons_succ]
    refine wpAnyH_take (i := 6) (oi := { dst := some 19, op := Go.Op.move (Go.Operand.tmp 18), type := 4, pos := "law.go:161", after := #[{ on := 5, ground := Go.Ground.data }], guard := none }) (v := ?_) rfl (by kernel_rfl) (by kernel_rfl) (by kernel_rfl) (fun _ _ _ h => h) (Or.inl ⟨by rfl, ?_⟩) (by assumption) ?_
    rotate_left
    · intro w hSw
      try dsimp only at hSw
      go_simp
      try with_reducible rfl
    try simp only [Act.put, List.setIfInBounds_toArray, List.set_cons_zero, List.set_cons_succ]
    refine wpAnyH_take (i := 7) (oi := { dst := some 20, op := Go.Op.move (Go.Operand.tmp 0), type := 9, pos := "law.go:161", after := #[{ on := 6, ground := Go.Ground.guard }, { on := 12, ground := Go.Ground.gcOnly Go.Departure.lateStores }], guard := some (6, true) }) (v := undef) rfl (by kernel_rfl) (by kernel_rfl) (by kernel_rfl) (fun _ _ _ h => h) (Or.inr ⟨by rfl, rfl⟩) (by assumption) ?_
    try simp only [Act.put, List.setIfInBounds_toArray, List.set_cons_zero, List.set_cons_succ]
    refine wpAnyH_take (i := 8) (oi := { dst := some 21, op := Go.Op.move (Go.Operand.tmp 4), type := 3, pos := "law.go:161", after := #[{ on := 6, ground := Go.Ground.guard }, { on := 12, ground := Go.Ground.gcOnly Go.Departure.lateStores }], guard := some (6, true) }) (v := undef) rfl (by kernel_rfl) (by kernel_rfl) (by kernel_rfl) (fun _ _ _ h => h) (Or.inr ⟨by rfl, rfl⟩) (by assumption) ?_
    try simp only [Act.put, List.setIfInBounds_toArray, List.set_cons_zero, List.set_cons_succ]
    refine wpAnyH_take (i := 12) (oi := { dst := some 2, op := Go.Op.assign (Go.Operand.tmp 14), type := 3, pos := "law.go:161", after := #[{ on := 1, ground := Go.Ground.data }, { on := 6, ground := Go.Ground.chain }, { on := 0, ground := Go.Ground.phase }, { on := 1, ground := Go.Ground.phase }, { on := 2, ground := Go.Ground.textOnly Go.Departure.lateStores }, { on := 3, ground := Go.Ground.textOnly Go.Departure.lateStores }, { on := 4, ground := Go.Ground.textOnly Go.Departure.lateStoresUnsure }, { on := 5, ground := Go.Ground.textOnly Go.Departure.lateStores }, { on := 6, ground := Go.Ground.textOnly Go.Departure.lateStores }, { on := 7, ground := Go.Ground.textOnly Go.Departure.lateStores }, { on := 8, ground := Go.Ground.textOnly Go.Departure.lateStores }, { on := 9, ground := Go.Ground.textOnly Go.Departure.lateStores }, { on := 10, ground := Go.Ground.textOnly Go.Departure.lateStores }, { on := 11, ground := Go.Ground.textOnly Go.Departure.lateStores }], guard := none }) (v := ?_) rfl (by kernel_rfl) (by kernel_rfl) (by kernel_rfl) (fun _ _ _ h => h) (Or.inl ⟨by rfl, ?_⟩) (by assumption) ?_
    rotate_left
    · intro w hSw
      try dsimp only at hSw
      go_simp
      try with_reducible rfl
    try simp only [Act.put, List.setIfInBounds_toArray, List.set_cons_zero, List.set_cons_succ]
    refine wpAnyH_take (i := 9) (oi := { dst := some 22, op := Go.Op.index 9 (Go.Operand.tmp 20) (Go.Operand.tmp 21), type := 5, pos := "law.go:161", after := #[{ on := 7, ground := Go.Ground.data }, { on := 8, ground := Go.Ground.data }, { on := 6, ground := Go.Ground.guard }, { on := 12, ground := Go.Ground.gcOnly Go.Departure.lateStores }], guard := some (6, true) }) (v := undef) rfl (by kernel_rfl) (by kernel_rfl) (by kernel_rfl) (fun _ _ _ h => h) (Or.inr ⟨by rfl, rfl⟩) (by assumption) ?_
    try simp only [Act.put, List.setIfInBounds_toArray, List.set_cons_zero, List.set_cons_succ]
    refine wpAnyH_take (i := 10) (oi := { dst := some 23, op := Go.Op.binOp Go.BinOp.eql 5 (Go.Operand.tmp 22) (Go.Operand.const (Go.Value.int Go.IntKind.u8 80)) 5, type := 4, pos := "law.go:161", after := #[{ on := 9, ground := Go.Ground.data }, { on := 6, ground := Go.Ground.guard }, { on := 12, ground := Go.Ground.gcOnly Go.Departure.lateStores }], guard := some (6, true) }) (v := undef) rfl (by kernel_rfl) (by kernel_rfl) (by kernel_rfl) (fun _ _ _ h => h) (Or.inr ⟨by rfl, rfl⟩) (by assumption) ?_
    try simp only [Act.put, List.setIfInBounds_toArray, List.set_cons_zero, List.set_cons_succ]
    refine wpAnyH_take (i := 11) (oi := { dst := some 24, op := Go.Op.pick (Go.Operand.tmp 19) (Go.Operand.tmp 23) (Go.Operand.const (Go.Value.bool false)), type := 4, pos := "law.go:161", after := #[{ on := 6, ground := Go.Ground.data }, { on := 10, ground := Go.Ground.data }, { on := 12, ground := Go.Ground.gcOnly Go.Departure.lateStores }], guard := none }) (v := ?_) rfl (by kernel_rfl) (by kernel_rfl) (by kernel_rfl) (fun _ _ _ h => h) (Or.inl ⟨by rfl, ?_⟩) (by assumption) ?_
    rotate_left
    · intro w hSw
      try dsimp only at hSw
      go_simp
      try with_reducible rfl
    try simp only [Act.put, List.setIfInBounds_toArray, List.set_cons_zero, List.set_cons_succ]
    refine wpAnyH_take (i := 13) (oi := { dst := some 3, op := Go.Op.assign (Go.Operand.tmp 24), type := 4, pos := "law.go:161", after := #[{ on := 11, ground := Go.Ground.data }, { on := 12, ground := Go.Ground.chain }, { on := 0, ground := Go.Ground.phase }, { on := 1, ground := Go.Ground.phase }, { on := 2, ground := Go.Ground.phase }, { on := 3, ground := Go.Ground.phase }, { on := 4, ground := Go.Ground.phase }, { on := 5, ground := Go.Ground.phase }, { on := 6, ground := Go.Ground.phase }, { on := 7, ground := Go.Ground.phase }, { on := 8, ground := Go.Ground.phase }, { on := 9, ground := Go.Ground.phase }, { on := 10, ground := Go.Ground.phase }, { on := 11, ground := Go.Ground.phase }, { on := 12, ground := Go.Ground.phase }], guard := none }) (v := ?_) rfl (by kernel_rfl) (by kernel_rfl) (by kernel_rfl) (fun _ _ _ h => h) (Or.inl ⟨by rfl, ?_⟩) (by assumption) ?_
    rotate_left
    · intro w hSw
      try dsimp only at hSw
      go_simp
      try with_reducible rfl
    try simp only [Act.put, List.setIfInBounds_toArray, List.set_cons_zero, List.set_cons_succ]
    refine wpAnyH_done (by kernel_rfl) ?_ _
    go_wp2
    refine ret_via (v := .tuple #[.int .i64 1, .bool false]) (fun _ => True) (fun VF _ => ?_) trivial rfl ⟨RES.out, hHeld⟩
    simp [results, Tryd.results53, go_sem, *]
  | cons b t =>
    by_cases h45 : b = 45
    · subst h45
      cases t with
      | nil =>
        have hd0 : s.data.toList.drop 0 = 45 :: [] := by rw [hl]; rfl
        obtain ⟨h0, hx0⟩ := byte_of hd0
        obtain ⟨x, hx⟩ : ∃ x : Nat, (45 : UInt8).toNat = x := ⟨_, rfl⟩
        obtain ⟨xi, hxi⟩ : ∃ y : Int, (x : Int) = y := ⟨_, rfl⟩
        have hy0 : (((s[0]'h0).toNat : Nat) : Int) = xi := by rw [hx0, hx, hxi]
        clear hx0 hd0
        have sz : s.size = 1 := by show s.data.toList.length = 1; rw [hl]; rfl
        have T00 : decide (0 < s.size) = true := decide_eq_true h0
        have T01 : decide ((0 : Int) < (s.size : Int)) = true := decide_eq_true (by omega)
        have K0 : (0 : Int) < (s.size : Int) := by omega
        have E0 : (xi == 45) = true := by rw [← hxi, ← hx]; rfl
        have T10 : decide (1 < s.size) = false := decide_eq_false (by omega)
        have T11 : decide ((1 : Int) < (s.size : Int)) = false := decide_eq_false (by omega)
        have RES := Lib.hid (show BgP s (.returned (.tuple #[.int .i64 2, .bool false])) from by unfold BgP bgI; rw [hl, body_neg]; rfl)
        clear hl sz hx hxi
        have wz : IntKind.i64.wrap 2 = 2 := by rw [IntKind.wrap_i64]; omega
        go_enter Tryd.func53, Tryd.ntmps53
        go_upto_region 4 with fail
        refine wp_region_held_drew (S := fun w' => Below w.heap.size w w') (by kernel_rfl) ?_ (fun hHeld => ?_)
        · exact (Below.refl _ _).drew
        refine wpAnyH_take (i := 0) (oi := { dst := some 13, op := Go.Op.move (Go.Operand.tmp 4), type := 3, pos := "law.go:161", after := #[], guard := none }) (v := ?_) rfl (by kernel_rfl) (by kernel_rfl) (by kernel_rfl) (fun _ _ _ h => h) (Or.inl ⟨by rfl, ?_⟩) (by assumption) ?_
        rotate_left
        · intro w hSw
          try dsimp only at hSw
          go_simp
          try with_reducible rfl
        try simp only [Act.put, List.setIfInBounds_toArray, List.set_cons_zero, List.set_cons_succ]
        refine wpAnyH_take (i := 2) (oi := { dst := some 15, op := Go.Op.move (Go.Operand.tmp 4), type := 3, pos := "law.go:161", after := #[], guard := none }) (v := ?_) rfl (by kernel_rfl) (by kernel_rfl) (by kernel_rfl) (fun _ _ _ h => h) (Or.inl ⟨by rfl, ?_⟩) (by assumption) ?_
        rotate_left
        · intro w hSw
          try dsimp only at hSw
          go_simp
          try with_reducible rfl
        try simp only [Act.put, List.setIfInBounds_toArray, List.set_cons_zero, List.set_cons_succ]
        refine wpAnyH_take (i := 3) (oi := { dst := some 16, op := Go.Op.move (Go.Operand.tmp 0), type := 9, pos := "law.go:161", after := #[], guard := none }) (v := ?_) rfl (by kernel_rfl) (by kernel_rfl) (by kernel_rfl) (fun _ _ _ h => h) (Or.inl ⟨by rfl, ?_⟩) (by assumption) ?_
        rotate_left
        · intro w hSw
          try dsimp only at hSw
          go_simp
          try with_reducible rfl
        try simp only [Act.put, List.setIfInBounds_toArray, List.set_cons_zero, List.set_cons_succ]
        refine wpAnyH_take (i := 1) (oi := { dst := some 14, op := Go.Op.binOp Go.BinOp.add 3 (Go.Operand.tmp 13) (Go.Operand.const (Go.Value.int Go.IntKind.i64 1)) 3, type := 3, pos := "law.go:161", after := #[{ on := 0, ground := Go.Ground.data }], guard := none }) (v := ?_) rfl (by kernel_rfl) (by kernel_rfl) (by kernel_rfl) (fun _ _ _ h => h) (Or.inl ⟨by rfl, ?_⟩) (by assumption) ?_
        rotate_left
        · intro w hSw
          try dsimp only at hSw
          go_simp
          try with_reducible rfl
        try simp only [Act.put, List.setIfInBounds_toArray, List.set_cons_zero, List.set_cons_succ]
        refine wpAnyH_take (i := 4) (oi := { dst := some 17, op := Go.Op.call { callee := Go.Callee.builtin Go.Builtin.len, args := #[Go.Operand.tmp 16], argTypes := #[9] }, type := 3, pos := "law.go:161", after := #[{ on := 3, ground := Go.Ground.data }], guard := none }) (v := ?_) rfl (by kernel_rfl) (by kernel_rfl) (by kernel_rfl) (fun _ _ _ h => h) (Or.inl ⟨by rfl, ?_⟩) (by assumption) ?_
        rotate_left
        · intro w hSw
          try dsimp only at hSw
          go_simp
          try with_reducible rfl
        try simp only [Act.put, List.setIfInBounds_toArray, List.set_cons_zero, List.set_cons_succ]
        refine wpAnyH_take (i := 5) (oi := { dst := some 18, op := Go.Op.binOp Go.BinOp.lss 3 (Go.Operand.tmp 15) (Go.Operand.tmp 17) 3, type := 4, pos := "law.go:161", after := #[{ on := 2, ground := Go.Ground.data }, { on := 4, ground := Go.Ground.data }], guard := none }) (v := ?_) rfl (by kernel_rfl) (by kernel_rfl) (by kernel_rfl) (fun _ _ _ h => h) (Or.inl ⟨by rfl, ?_⟩) (by assumption) ?_
        rotate_left
        · intro w hSw
          try dsimp only at hSw
          go_simp
          try with_reducible rfl
        try simp only [Act.put, List.setIfInBounds_toArray, List.set_cons_zero, List.set_cons_succ]
        refine wpAnyH_take (i := 6) (oi := { dst := some 19, op := Go.Op.move (Go.Operand.tmp 18), type := 4, pos := "law.go:161", after := #[{ on := 5, ground := Go.Ground.data }], guard := none }) (v := ?_) rfl (by kernel_rfl) (by kernel_rfl) (by kernel_rfl) (fun _ _ _ h => h) (Or.inl ⟨by rfl, ?_⟩) (by assumption) ?_
        rotate_left
        · intro w hSw
          try dsimp only at hSw
          go_simp
          try with_reducible rfl
        try simp only [Act.put, List.setIfInBounds_toArray, List.set_cons_zero, List.set_cons_succ]
        refine wpAnyH_take (i := 7) (oi := { dst := some 20, op := Go.Op.move (Go.Operand.tmp 0), type := 9, pos := "law.go:161", after := #[{ on := 6, ground := Go.Ground.guard }, { on := 12, ground := Go.Ground.gcOnly Go.Departure.lateStores }], guard := some (6, true) }) (v := undef) rfl (by kernel_rfl) (by kernel_rfl) (by kernel_rfl) (fun _ _ _ h => h) (Or.inr ⟨by rfl, rfl⟩) (by assumption) ?_
        try simp only [Act.put, List.setIfInBounds_toArray, List.set_cons_zero, List.set_cons_succ]
        refine wpAnyH_take (i := 8) (oi := { dst := some 21, op := Go.Op.move (Go.Operand.tmp 4), type := 3, pos := "law.go:161", after := #[{ on := 6, ground := Go.Ground.guard }, { on := 12, ground := Go.Ground.gcOnly Go.Departure.lateStores }], guard := some (6, true) }) (v := undef) rfl (by kernel_rfl) (by kernel_rfl) (by kernel_rfl) (fun _ _ _ h => h) (Or.inr ⟨by rfl, rfl⟩) (by assumption) ?_
        try simp only [Act.put, List.setIfInBounds_toArray, List.set_cons_zero, List.set_cons_succ]
        refine wpAnyH_take (i := 12) (oi := { dst := some 2, op := Go.Op.assign (Go.Operand.tmp 14), type := 3, pos := "law.go:161", after := #[{ on := 1, ground := Go.Ground.data }, { on := 6, ground := Go.Ground.chain }, { on := 0, ground := Go.Ground.phase }, { on := 1, ground := Go.Ground.phase }, { on := 2, ground := Go.Ground.textOnly Go.Departure.lateStores }, { on := 3, ground := Go.Ground.textOnly Go.Departure.lateStores }, { on := 4, ground := Go.Ground.textOnly Go.Departure.lateStoresUnsure }, { on := 5, ground := Go.Ground.textOnly Go.Departure.lateStores }, { on := 6, ground := Go.Ground.textOnly Go.Departure.lateStores }, { on := 7, ground := Go.Ground.textOnly Go.Departure.lateStores }, { on := 8, ground := Go.Ground.textOnly Go.Departure.lateStores }, { on := 9, ground := Go.Ground.textOnly Go.Departure.lateStores }, { on := 10, ground := Go.Ground.textOnly Go.Departure.lateStores }, { on := 11, ground := Go.Ground.textOnly Go.Departure.lateStores }], guard := none }) (v := ?_) rfl (by kernel_rfl) (by kernel_rfl) (by kernel_rfl) (fun _ _ _ h => h) (Or.inl ⟨by rfl, ?_⟩) (by assumption) ?_
        rotate_left
        · intro w hSw
          try dsimp only at hSw
          go_simp
          try with_reducible rfl
        try simp only [Act.put, List.setIfInBounds_toArray, List.set_cons_zero, List.set_cons_succ]
        refine wpAnyH_take (i := 9) (oi := { dst := some 22, op := Go.Op.index 9 (Go.Operand.tmp 20) (Go.Operand.tmp 21), type := 5, pos := "law.go:161", after := #[{ on := 7, ground := Go.Ground.data }, { on := 8, ground := Go.Ground.data }, { on := 6, ground := Go.Ground.guard }, { on := 12, ground := Go.Ground.gcOnly Go.Departure.lateStores }], guard := some (6, true) }) (v := undef) rfl (by kernel_rfl) (by kernel_rfl) (by kernel_rfl) (fun _ _ _ h => h) (Or.inr ⟨by rfl, rfl⟩) (by assumption) ?_
        try simp only [Act.put, List.setIfInBounds_toArray, List.set_cons_zero, List.set_cons_succ]
        refine wpAnyH_take (i := 10) (oi := { dst := some 23, op := Go.Op.binOp Go.BinOp.eql 5 (Go.Operand.tmp 22) (Go.Operand.const (Go.Value.int Go.IntKind.u8 80)) 5, type := 4, pos := "law.go:161", after := #[{ on := 9, ground := Go.Ground.data }, { on := 6, ground := Go.Ground.guard }, { on := 12, ground := Go.Ground.gcOnly Go.Departure.lateStores }], guard := some (6, true) }) (v := undef) rfl (by kernel_rfl) (by kernel_rfl) (by kernel_rfl) (fun _ _ _ h => h) (Or.inr ⟨by rfl, rfl⟩) (by assumption) ?_
        try simp only [Act.put, List.setIfInBounds_toArray, List.set_cons_zero, List.set_cons_succ]
        refine wpAnyH_take (i := 11) (oi := { dst := some 24, op := Go.Op.pick (Go.Operand.tmp 19) (Go.Operand.tmp 23) (Go.Operand.const (Go.Value.bool false)), type := 4, pos := "law.go:161", after := #[{ on := 6, ground := Go.Ground.data }, { on := 10, ground := Go.Ground.data }, { on := 12, ground := Go.Ground.gcOnly Go.Departure.lateStores }], guard := none }) (v := ?_) rfl (by kernel_rfl) (by kernel_rfl) (by kernel_rfl) (fun _ _ _ h => h) (Or.inl ⟨by rfl, ?_⟩) (by assumption) ?_
        rotate_left
        · intro w hSw
          try dsimp only at hSw
          go_simp
          try with_reducible rfl
        try simp only [Act.put, List.setIfInBounds_toArray, List.set_cons_zero, List.set_cons_succ]
        refine wpAnyH_take (i := 13) (oi := { dst := some 3, op := Go.Op.assign (Go.Operand.tmp 24), type := 4, pos := "law.go:161", after := #[{ on := 11, ground := Go.Ground.data }, { on := 12, ground := Go.Ground.chain }, { on := 0, ground := Go.Ground.phase }, { on := 1, ground := Go.Ground.phase }, { on := 2, ground := Go.Ground.phase }, { on := 3, ground := Go.Ground.phase }, { on := 4, ground := Go.Ground.phase }, { on := 5, ground := Go.Ground.phase }, { on := 6, ground := Go.Ground.phase }, { on := 7, ground := Go.Ground.phase }, { on := 8, ground := Go.Ground.phase }, { on := 9, ground := Go.Ground.phase }, { on := 10, ground := Go.Ground.phase }, { on := 11, ground := Go.Ground.phase }, { on := 12, ground := Go.Ground.phase }], guard := none }) (v := ?_) rfl (by kernel_rfl) (by kernel_rfl) (by kernel_rfl) (fun _ _ _ h => h) (Or.inl ⟨by rfl, ?_⟩) (by assumption) ?_
        rotate_left
        · intro w hSw
          try dsimp only at hSw
          go_simp
          try with_reducible rfl
        try simp only [Act.put, List.setIfInBounds_toArray, List.set_cons_zero, List.set_cons_succ]
        refine wpAnyH_done (by kernel_rfl) ?_ _
        go_wp2
        refine ret_via (v := .tuple #[.int .i64 2, .bool false]) (fun _ => True) (fun VF _ => ?_) trivial rfl ⟨RES.out, hHeld⟩
        simp [results, Tryd.results53, go_sem, *]
      | cons c r =>
        have hd0 : s.data.toList.drop 0 = 45 :: c :: r := by rw [hl]; rfl
        obtain ⟨h0, hx0⟩ := byte_of hd0
        obtain ⟨z, hz⟩ : ∃ z : Nat, (45 : UInt8).toNat = z := ⟨_, rfl⟩
        obtain ⟨zi, hzi⟩ : ∃ y : Int, (z : Int) = y := ⟨_, rfl⟩
        have hy0 : (((s[0]'h0).toNat : Nat) : Int) = zi := by rw [hx0, hz, hzi]
        clear hx0 hd0
        have hd1 : s.data.toList.drop 1 = c :: r := by rw [hl]; rfl
        obtain ⟨h1, hx1⟩ := byte_of hd1
        obtain ⟨x, hx⟩ : ∃ x : Nat, c.toNat = x := ⟨_, rfl⟩
        obtain ⟨xi, hxi⟩ : ∃ y : Int, (x : Int) = y := ⟨_, rfl⟩
        have hy1 : (((s[1]'h1).toNat : Nat) : Int) = xi := by rw [hx1, hx, hxi]
        clear hx1 hd1
        have T00 : decide (0 < s.size) = true := decide_eq_true h0
        have T01 : decide ((0 : Int) < (s.size : Int)) = true := decide_eq_true (by omega)
        have K0 : (0 : Int) < (s.size : Int) := by omega
        have T10 : decide (1 < s.size) = true := decide_eq_true h1
        have T11 : decide ((1 : Int) < (s.size : Int)) = true := decide_eq_true (by omega)
        have K1 : (1 : Int) < (s.size : Int) := by omega
        have E0 : (zi == 45) = true := by rw [← hzi, ← hz]; rfl
        have S8 := strip80 c r
        obtain ⟨ok, hok⟩ : ∃ o : Bool, o = decide (c = 80) := ⟨_, rfl⟩
        have E1 : (xi == 80) = ok := by
          rw [hok, byte_dec c x hx 80, ← hxi]
          by_cases k : x = 80
          · subst k; rfl
          · rw [show decide (x = (80 : UInt8).toNat) = false from decide_eq_false k, beq_eq_false_iff_ne]; omega
        have RES := Lib.hid (show BgP s (.returned (.tuple #[.int .i64 2, .bool ok])) from by
          unfold BgP bgI
          rw [hl, body_neg, strip_cons, if_pos rfl]
          show _ = Ending.returned (.tuple #[.int .i64 2, .bool (strip 80 (c :: r)).2])
          rw [S8.1, hok])
        clear hl hx hxi hz hzi S8 hok
        have wz : IntKind.i64.wrap 2 = 2 := by rw [IntKind.wrap_i64]; omega
        go_enter Tryd.func53, Tryd.ntmps53
        go_upto_region 4 with fail
        refine wp_region_held_drew (S := fun w' => Below w.heap.size w w') (by kernel_rfl) ?_ (fun hHeld => ?_)
        · exact (Below.refl _ _).drew
        refine wpAnyH_take (i := 0) (oi := { dst := some 13, op := Go.Op.move (Go.Operand.tmp 4), type := 3, pos := "law.go:161", after := #[], guard := none }) (v := ?_) rfl (by kernel_rfl) (by kernel_rfl) (by kernel_rfl) (fun _ _ _ h => h) (Or.inl ⟨by rfl, ?_⟩) (by assumption) ?_
        rotate_left
        · intro w hSw
          try dsimp only at hSw
          go_simp
          try with_reducible rfl
        try simp only [Act.put, List.setIfInBounds_toArray, List.set_cons_zero, List.set_cons_succ]
        refine wpAnyH_take (i := 2) (oi := { dst := some 15, op := Go.Op.move (Go.Operand.tmp 4), type := 3, pos := "law.go:161", after := #[], guard := none }) (v := ?_) rfl (by kernel_rfl) (by kernel_rfl) (by kernel_rfl) (fun _ _ _ h => h) (Or.inl ⟨by rfl, ?_⟩) (by assumption) ?_
        rotate_left
        · intro w hSw
          try dsimp only at hSw
          go_simp
          try with_reducible rfl
        try simp only [Act.put, List.setIfInBounds_toArray, List.set_cons_zero, List.set_cons_succ]
        refine wpAnyH_take (i := 3) (oi := { dst := some 16, op := Go.Op.move (Go.Operand.tmp 0), type := 9, pos := "law.go:161", after := #[], guard := none }) (v := ?_) rfl (by kernel_rfl) (by kernel_rfl) (by kernel_rfl) (fun _ _ _ h => h) (Or.inl ⟨by rfl, ?_⟩) (by assumption) ?_
        rotate_left
        · intro w hSw
          try dsimp only at hSw
          go_simp
          try with_reducible rfl
        try simp only [Act.put, List.setIfInBounds_toArray, List.set_cons_zero, List.set_cons_succ]
        refine wpAnyH_take (i := 1) (oi := { dst := some 14, op := Go.Op.binOp Go.BinOp.add 3 (Go.Operand.tmp 13) (Go.Operand.const (Go.Value.int Go.IntKind.i64 1)) 3, type := 3, pos := "law.go:161", after := #[{ on := 0, ground := Go.Ground.data }], guard := none }) (v := ?_) rfl (by kernel_rfl) (by kernel_rfl) (by kernel_rfl) (fun _ _ _ h => h) (Or.inl ⟨by rfl, ?_⟩) (by assumption) ?_
        rotate_left
        · intro w hSw
          try dsimp only at hSw
          go_simp
          try with_reducible rfl
        try simp only [Act.put, List.setIfInBounds_toArray, List.set_cons_zero, List.set_cons_succ]
        refine wpAnyH_take (i := 4) (oi := { dst := some 17, op := Go.Op.call { callee := Go.Callee.builtin Go.Builtin.len, args := #[Go.Operand.tmp 16], argTypes := #[9] }, type := 3, pos := "law.go:161", after := #[{ on := 3, ground := Go.Ground.data }], guard := none }) (v := ?_) rfl (by kernel_rfl) (by kernel_rfl) (by kernel_rfl) (fun _ _ _ h => h) (Or.inl ⟨by rfl, ?_⟩) (by assumption) ?_
        rotate_left
        · intro w hSw
          try dsimp only at hSw
          go_simp
          try with_reducible rfl
        try simp only [Act.put, List.setIfInBounds_toArray, List.set_cons_zero, List.set_cons_succ]
        refine wpAnyH_take (i := 5) (oi := { dst := some 18, op := Go.Op.binOp Go.BinOp.lss 3 (Go.Operand.tmp 15) (Go.Operand.tmp 17) 3, type := 4, pos := "law.go:161", after := #[{ on := 2, ground := Go.Ground.data }, { on := 4, ground := Go.Ground.data }], guard := none }) (v := ?_) rfl (by kernel_rfl) (by kernel_rfl) (by kernel_rfl) (fun _ _ _ h => h) (Or.inl ⟨by rfl, ?_⟩) (by assumption) ?_
        rotate_left
        · intro w hSw
          try dsimp only at hSw
          go_simp
          try with_reducible rfl
        try simp only [Act.put, List.setIfInBounds_toArray, List.set_cons_zero, List.set_cons_succ]
        refine wpAnyH_take (i := 6) (oi := { dst := some 19, op := Go.Op.move (Go.Operand.tmp 18), type := 4, pos := "law.go:161", after := #[{ on := 5, ground := Go.Ground.data }], guard := none }) (v := ?_) rfl (by kernel_rfl) (by kernel_rfl) (by kernel_rfl) (fun _ _ _ h => h) (Or.inl ⟨by rfl, ?_⟩) (by assumption) ?_
        rotate_left
        · intro w hSw
          try dsimp only at hSw
          go_simp
          try with_reducible rfl
        try simp only [Act.put, List.setIfInBounds_toArray, List.set_cons_zero, List.set_cons_succ]
        refine wpAnyH_take (i := 7) (oi := { dst := some 20, op := Go.Op.move (Go.Operand.tmp 0), type := 9, pos := "law.go:161", after := #[{ on := 6, ground := Go.Ground.guard }, { on := 12, ground := Go.Ground.gcOnly Go.Departure.lateStores }], guard := some (6, true) }) (v := ?_) rfl (by kernel_rfl) (by kernel_rfl) (by kernel_rfl) (fun _ _ _ h => h) (Or.inl ⟨by rfl, ?_⟩) (by assumption) ?_
        rotate_left
        · intro w hSw
          try dsimp only at hSw
          go_simp
          try with_reducible rfl
        try simp only [Act.put, List.setIfInBounds_toArray, List.set_cons_zero, List.set_cons_succ]
        refine wpAnyH_take (i := 8) (oi := { dst := some 21, op := Go.Op.move (Go.Operand.tmp 4), type := 3, pos := "law.go:161", after := #[{ on := 6, ground := Go.Ground.guard }, { on := 12, ground := Go.Ground.gcOnly Go.Departure.lateStores }], guard := some (6, true) }) (v := ?_) rfl (by kernel_rfl) (by kernel_rfl) (by kernel_rfl) (fun _ _ _ h => h) (Or.inl ⟨by rfl, ?_⟩) (by assumption) ?_
        rotate_left
        · intro w hSw
          try dsimp only at hSw
          go_simp
          try with_reducible rfl
        try simp only [Act.put, List.setIfInBounds_toArray, List.set_cons_zero, List.set_cons_succ]
        refine wpAnyH_take (i := 12) (oi := { dst := some 2, op := Go.Op.assign (Go.Operand.tmp 14), type := 3, pos := "law.go:161", after := #[{ on := 1, ground := Go.Ground.data }, { on := 6, ground := Go.Ground.chain }, { on := 0, ground := Go.Ground.phase }, { on := 1, ground := Go.Ground.phase }, { on := 2, ground := Go.Ground.textOnly Go.Departure.lateStores }, { on := 3, ground := Go.Ground.textOnly Go.Departure.lateStores }, { on := 4, ground := Go.Ground.textOnly Go.Departure.lateStoresUnsure }, { on := 5, ground := Go.Ground.textOnly Go.Departure.lateStores }, { on := 6, ground := Go.Ground.textOnly Go.Departure.lateStores }, { on := 7, ground := Go.Ground.textOnly Go.Departure.lateStores }, { on := 8, ground := Go.Ground.textOnly Go.Departure.lateStores }, { on := 9, ground := Go.Ground.textOnly Go.Departure.lateStores }, { on := 10, ground := Go.Ground.textOnly Go.Departure.lateStores }, { on := 11, ground := Go.Ground.textOnly Go.Departure.lateStores }], guard := none }) (v := ?_) rfl (by kernel_rfl) (by kernel_rfl) (by kernel_rfl) (fun _ _ _ h => h) (Or.inl ⟨by rfl, ?_⟩) (by assumption) ?_
        rotate_left
        · intro w hSw
          try dsimp only at hSw
          go_simp
          try with_reducible rfl
        try simp only [Act.put, List.setIfInBounds_toArray, List.set_cons_zero, List.set_cons_succ]
        refine wpAnyH_take (i := 9) (oi := { dst := some 22, op := Go.Op.index 9 (Go.Operand.tmp 20) (Go.Operand.tmp 21), type := 5, pos := "law.go:161", after := #[{ on := 7, ground := Go.Ground.data }, { on := 8, ground := Go.Ground.data }, { on := 6, ground := Go.Ground.guard }, { on := 12, ground := Go.Ground.gcOnly Go.Departure.lateStores }], guard := some (6, true) }) (v := ?_) rfl (by kernel_rfl) (by kernel_rfl) (by kernel_rfl) (fun _ _ _ h => h) (Or.inl ⟨by rfl, ?_⟩) (by assumption) ?_
        rotate_left
        · intro w hSw
          try dsimp only at hSw
          go_simp
          try with_reducible rfl
        try simp only [Act.put, List.setIfInBounds_toArray, List.set_cons_zero, List.set_cons_succ]
        refine wpAnyH_take (i := 10) (oi := { dst := some 23, op := Go.Op.binOp Go.BinOp.eql 5 (Go.Operand.tmp 22) (Go.Operand.const (Go.Value.int Go.IntKind.u8 80)) 5, type := 4, pos := "law.go:161", after := #[{ on := 9, ground := Go.Ground.data }, { on := 6, ground := Go.Ground.guard }, { on := 12, ground := Go.Ground.gcOnly Go.Departure.lateStores }], guard := some (6, true) }) (v := ?_) rfl (by kernel_rfl) (by kernel_rfl) (by kernel_rfl) (fun _ _ _ h => h) (Or.inl ⟨by rfl, ?_⟩) (by assumption) ?_
        rotate_left
        · intro w hSw
          try dsimp only at hSw
          go_simp
          try with_reducible rfl
        try simp only [Act.put, List.setIfInBounds_toArray, List.set_cons_zero, List.set_cons_succ]
        refine wpAnyH_take (i := 11) (oi := { dst := some 24, op := Go.Op.pick (Go.Operand.tmp 19) (Go.Operand.tmp 23) (Go.Operand.const (Go.Value.bool false)), type := 4, pos := "law.go:161", after := #[{ on := 6, ground := Go.Ground.data }, { on := 10, ground := Go.Ground.data }, { on := 12, ground := Go.Ground.gcOnly Go.Departure.lateStores }], guard := none }) (v := ?_) rfl (by kernel_rfl) (by kernel_rfl) (by kernel_rfl) (fun _ _ _ h => h) (Or.inl ⟨by rfl, ?_⟩) (by assumption) ?_
        rotate_left
        · intro w hSw
          try dsimp only at hSw
          go_simp
          try with_reducible rfl
        try simp only [Act.put, List.setIfInBounds_toArray, List.set_cons_zero, List.set_cons_succ]
        refine wpAnyH_take (i := 13) (oi := { dst := some 3, op := Go.Op.assign (Go.Operand.tmp 24), type := 4, pos := "law.go:161", after := #[{ on := 11, ground := Go.Ground.data }, { on := 12, ground := Go.Ground.chain }, { on := 0, ground := Go.Ground.phase }, { on := 1, ground := Go.Ground.phase }, { on := 2, ground := Go.Ground.phase }, { on := 3, ground := Go.Ground.phase }, { on := 4, ground := Go.Ground.phase }, { on := 5, ground := Go.Ground.phase }, { on := 6, ground := Go.Ground.phase }, { on := 7, ground := Go.Ground.phase }, { on := 8, ground := Go.Ground.phase }, { on := 9, ground := Go.Ground.phase }, { on := 10, ground := Go.Ground.phase }, { on := 11, ground := Go.Ground.phase }, { on := 12, ground := Go.Ground.phase }], guard := none }) (v := ?_) rfl (by kernel_rfl) (by kernel_rfl) (by kernel_rfl) (fun _ _ _ h => h) (Or.inl ⟨by rfl, ?_⟩) (by assumption) ?_
        rotate_left
        · intro w hSw
          try dsimp only at hSw
          go_simp
          try with_reducible rfl
        try simp only [Act.put, List.setIfInBounds_toArray, List.set_cons_zero, List.set_cons_succ]
        refine wpAnyH_done (by kernel_rfl) ?_ _
        go_wp2
        refine ret_via (v := .tuple #[.int .i64 2, .bool ok]) (fun _ => True) (fun VF _ => ?_) trivial rfl ⟨RES.out, hHeld⟩
        simp [results, Tryd.results53, go_sem, *]
    · have hd0 : s.data.toList.drop 0 = b :: t := by rw [hl]; rfl
      obtain ⟨h0, hx0⟩ := byte_of hd0
      obtain ⟨x, hx⟩ : ∃ x : Nat, b.toNat = x := ⟨_, rfl⟩
      obtain ⟨xi, hxi⟩ : ∃ y : Int, (x : Int) = y := ⟨_, rfl⟩
      have hy0 : (((s[0]'h0).toNat : Nat) : Int) = xi := by rw [hx0, hx, hxi]
      clear hx0 hd0
      have T00 : decide (0 < s.size) = true := decide_eq_true h0
      have T01 : decide ((0 : Int) < (s.size : Int)) = true := decide_eq_true (by omega)
      have K0 : (0 : Int) < (s.size : Int) := by omega
      have E0 : (xi == 45) = false := by
        rw [← hxi, beq_eq_false_iff_ne]
        intro k
        exact h45 (UInt8.toNat_inj.1 (by rw [hx]; show x = 45; omega))
      have S8 := strip80 b t
      obtain ⟨ok, hok⟩ : ∃ o : Bool, o = decide (b = 80) := ⟨_, rfl⟩
      have E1 : (xi == 80) = ok := by
        rw [hok, byte_dec b x hx 80, ← hxi]
        by_cases k : x = 80
        · subst k; rfl
        · rw [show decide (x = (80 : UInt8).toNat) = false from decide_eq_false k, beq_eq_false_iff_ne]; omega
      have RES := Lib.hid (show BgP s (.returned (.tuple #[.int .i64 1, .bool ok])) from by
        unfold BgP bgI
        rw [hl, body_cons b t h45, strip_cons, if_neg h45]
        show _ = Ending.returned (.tuple #[.int .i64 1, .bool (strip 80 (b :: t)).2])
        rw [S8.1, hok])
      clear hl hx hxi S8 hok h45
      have wz : IntKind.i64.wrap 1 = 1 := by rw [IntKind.wrap_i64]; omega
      go_enter Tryd.func53, Tryd.ntmps53
      go_upto_region 4 with fail
      refine wp_region_held_drew (S := fun w' => Below w.heap.size w w') (by kernel_rfl) ?_ (fun hHeld => ?_)
      · exact (Below.refl _ _).drew
      refine wpAnyH_take (i := 0) (oi := { dst := some 13, op := Go.Op.move (Go.Operand.tmp 4), type := 3, pos := "law.go:161", after := #[], guard := none }) (v := ?_) rfl (by kernel_rfl) (by kernel_rfl) (by kernel_rfl) (fun _ _ _ h => h) (Or.inl ⟨by rfl, ?_⟩) (by assumption) ?_
      rotate_left
      · intro w hSw
        try dsimp only at hSw
        go_simp
        try with_reducible rfl
      try simp only [Act.put, List.setIfInBounds_toArray, List.set_cons_zero, List.set_cons_succ]
      refine wpAnyH_take (i := 2) (oi := { dst := some 15, op := Go.Op.move (Go.Operand.tmp 4), type := 3, pos := "law.go:161", after := #[], guard := none }) (v := ?_) rfl (by kernel_rfl) (by kernel_rfl) (by kernel_rfl) (fun _ _ _ h => h) (Or.inl ⟨by rfl, ?_⟩) (by assumption) ?_
      rotate_left
      · intro w hSw
        try dsimp only at hSw
        go_simp
        try with_reducible rfl
      try simp only [Act.put, List.setIfInBounds_toArray, List.set_cons_zero, List.set_cons_succ]
      refine wpAnyH_take (i := 3) (oi := { dst := some 16, op := Go.Op.move (Go.Operand.tmp 0), type := 9, pos := "law.go:161", after := #[], guard := none }) (v := ?_) rfl (by kernel_rfl) (by kernel_rfl) (by kernel_rfl) (fun _ _ _ h => h) (Or.inl ⟨by rfl, ?_⟩) (by assumption) ?_
      rotate_left
      · intro w hSw
        try dsimp only at hSw
        go_simp
        try with_reducible rfl
      try simp only [Act.put, List.setIfInBounds_toArray, List.set_cons_zero, List.set_cons_succ]
      refine wpAnyH_take (i := 1) (oi := { dst := some 14, op := Go.Op.binOp Go.BinOp.add 3 (Go.Operand.tmp 13) (Go.Operand.const (Go.Value.int Go.IntKind.i64 1)) 3, type := 3, pos := "law.go:161", after := #[{ on := 0, ground := Go.Ground.data }], guard := none }) (v := ?_) rfl (by kernel_rfl) (by kernel_rfl) (by kernel_rfl) (fun _ _ _ h => h) (Or.inl ⟨by rfl, ?_⟩) (by assumption) ?_
      rotate_left
      · intro w hSw
        try dsimp only at hSw
        go_simp
        try with_reducible rfl
      try simp only [Act.put, List.setIfInBounds_toArray, List.set_cons_zero, List.set_cons_succ]
      refine wpAnyH_take (i := 4) (oi := { dst := some 17, op := Go.Op.call { callee := Go.Callee.builtin Go.Builtin.len, args := #[Go.Operand.tmp 16], argTypes := #[9] }, type := 3, pos := "law.go:161", after := #[{ on := 3, ground := Go.Ground.data }], guard := none }) (v := ?_) rfl (by kernel_rfl) (by kernel_rfl) (by kernel_rfl) (fun _ _ _ h => h) (Or.inl ⟨by rfl, ?_⟩) (by assumption) ?_
      rotate_left
      · intro w hSw
        try dsimp only at hSw
        go_simp
        try with_reducible rfl
      try simp only [Act.put, List.setIfInBounds_toArray, List.set_cons_zero, List.set_cons_succ]
      refine wpAnyH_take (i := 5) (oi := { dst := some 18, op := Go.Op.binOp Go.BinOp.lss 3 (Go.Operand.tmp 15) (Go.Operand.tmp 17) 3, type := 4, pos := "law.go:161", after := #[{ on := 2, ground := Go.Ground.data }, { on := 4, ground := Go.Ground.data }], guard := none }) (v := ?_) rfl (by kernel_rfl) (by kernel_rfl) (by kernel_rfl) (fun _ _ _ h => h) (Or.inl ⟨by rfl, ?_⟩) (by assumption) ?_
      rotate_left
      · intro w hSw
        try dsimp only at hSw
        go_simp
        try with_reducible rfl
      try simp only [Act.put, List.setIfInBounds_toArray, List.set_cons_zero, List.set_cons_succ]
      refine wpAnyH_take (i := 6) (oi := { dst := some 19, op := Go.Op.move (Go.Operand.tmp 18), type := 4, pos := "law.go:161", after := #[{ on := 5, ground := Go.Ground.data }], guard := none }) (v := ?_) rfl (by kernel_rfl) (by kernel_rfl) (by kernel_rfl) (fun _ _ _ h => h) (Or.inl ⟨by rfl, ?_⟩) (by assumption) ?_
      rotate_left
      · intro w hSw
        try dsimp only at hSw
        go_simp
        try with_reducible rfl
      try simp only [Act.put, List.setIfInBounds_toArray, List.set_cons_zero, List.set_cons_succ]
      refine wpAnyH_take (i := 7) (oi := { dst := some 20, op := Go.Op.move (Go.Operand.tmp 0), type := 9, pos := "law.go:161", after := #[{ on := 6, ground := Go.Ground.guard }, { on := 12, ground := Go.Ground.gcOnly Go.Departure.lateStores }], guard := some (6, true) }) (v := ?_) rfl (by kernel_rfl) (by kernel_rfl) (by kernel_rfl) (fun _ _ _ h => h) (Or.inl ⟨by rfl, ?_⟩) (by assumption) ?_
      rotate_left
      · intro w hSw
        try dsimp only at hSw
        go_simp
        try with_reducible rfl
      try simp only [Act.put, List.setIfInBounds_toArray, List.set_cons_zero, List.set_cons_succ]
      refine wpAnyH_take (i := 8) (oi := { dst := some 21, op := Go.Op.move (Go.Operand.tmp 4), type := 3, pos := "law.go:161", after := #[{ on := 6, ground := Go.Ground.guard }, { on := 12, ground := Go.Ground.gcOnly Go.Departure.lateStores }], guard := some (6, true) }) (v := ?_) rfl (by kernel_rfl) (by kernel_rfl) (by kernel_rfl) (fun _ _ _ h => h) (Or.inl ⟨by rfl, ?_⟩) (by assumption) ?_
      rotate_left
      · intro w hSw
        try dsimp only at hSw
        go_simp
        try with_reducible rfl
      try simp only [Act.put, List.setIfInBounds_toArray, List.set_cons_zero, List.set_cons_succ]
      refine wpAnyH_take (i := 12) (oi := { dst := some 2, op := Go.Op.assign (Go.Operand.tmp 14), type := 3, pos := "law.go:161", after := #[{ on := 1, ground := Go.Ground.data }, { on := 6, ground := Go.Ground.chain }, { on := 0, ground := Go.Ground.phase }, { on := 1, ground := Go.Ground.phase }, { on := 2, ground := Go.Ground.textOnly Go.Departure.lateStores }, { on := 3, ground := Go.Ground.textOnly Go.Departure.lateStores }, { on := 4, ground := Go.Ground.textOnly Go.Departure.lateStoresUnsure }, { on := 5, ground := Go.Ground.textOnly Go.Departure.lateStores }, { on := 6, ground := Go.Ground.textOnly Go.Departure.lateStores }, { on := 7, ground := Go.Ground.textOnly Go.Departure.lateStores }, { on := 8, ground := Go.Ground.textOnly Go.Departure.lateStores }, { on := 9, ground := Go.Ground.textOnly Go.Departure.lateStores }, { on := 10, ground := Go.Ground.textOnly Go.Departure.lateStores }, { on := 11, ground := Go.Ground.textOnly Go.Departure.lateStores }], guard := none }) (v := ?_) rfl (by kernel_rfl) (by kernel_rfl) (by kernel_rfl) (fun _ _ _ h => h) (Or.inl ⟨by rfl, ?_⟩) (by assumption) ?_
      rotate_left
      · intro w hSw
        try dsimp only at hSw
        go_simp
        try with_reducible rfl
      try simp only [Act.put, List.setIfInBounds_toArray, List.set_cons_zero, List.set_cons_succ]
      refine wpAnyH_take (i := 9) (oi := { dst := some 22, op := Go.Op.index 9 (Go.Operand.tmp 20) (Go.Operand.tmp 21), type := 5, pos := "law.go:161", after := #[{ on := 7, ground := Go.Ground.data }, { on := 8, ground := Go.Ground.data }, { on := 6, ground := Go.Ground.guard }, { on := 12, ground := Go.Ground.gcOnly Go.Departure.lateStores }], guard := some (6, true) }) (v := ?_) rfl (by kernel_rfl) (by kernel_rfl) (by kernel_rfl) (fun _ _ _ h => h) (Or.inl ⟨by rfl, ?_⟩) (by assumption) ?_
      rotate_left
      · intro w hSw
        try dsimp only at hSw
        go_simp
        try with_reducible rfl
      try simp only [Act.put, List.setIfInBounds_toArray, List.set_cons_zero, List.set_cons_succ]
      refine wpAnyH_take (i := 10) (oi := { dst := some 23, op := Go.Op.binOp Go.BinOp.eql 5 (Go.Operand.tmp 22) (Go.Operand.const (Go.Value.int Go.IntKind.u8 80)) 5, type := 4, pos := "law.go:161", after := #[{ on := 9, ground := Go.Ground.data }, { on := 6, ground := Go.Ground.guard }, { on := 12, ground := Go.Ground.gcOnly Go.Departure.lateStores }], guard := some (6, true) }) (v := ?_) rfl (by kernel_rfl) (by kernel_rfl) (by kernel_rfl) (fun _ _ _ h => h) (Or.inl ⟨by rfl, ?_⟩) (by assumption) ?_
      rotate_left
      · intro w hSw
        try dsimp only at hSw
        go_simp
        try with_reducible rfl
      try simp only [Act.put, List.setIfInBounds_toArray, List.set_cons_zero, List.set_cons_succ]
      refine wpAnyH_take (i := 11) (oi := { dst := some 24, op := Go.Op.pick (Go.Operand.tmp 19) (Go.Operand.tmp 23) (Go.Operand.const (Go.Value.bool false)), type := 4, pos := "law.go:161", after := #[{ on := 6, ground := Go.Ground.data }, { on := 10, ground := Go.Ground.data }, { on := 12, ground := Go.Ground.gcOnly Go.Departure.lateStores }], guard := none }) (v := ?_) rfl (by kernel_rfl) (by kernel_rfl) (by kernel_rfl) (fun _ _ _ h => h) (Or.inl ⟨by rfl, ?_⟩) (by assumption) ?_
      rotate_left
      · intro w hSw
        try dsimp only at hSw
        go_simp
        try with_reducible rfl
      try simp only [Act.put, List.setIfInBounds_toArray, List.set_cons_zero, List.set_cons_succ]
      refine wpAnyH_take (i := 13) (oi := { dst := some 3, op := Go.Op.assign (Go.Operand.tmp 24), type := 4, pos := "law.go:161", after := #[{ on := 11, ground := Go.Ground.data }, { on := 12, ground := Go.Ground.chain }, { on := 0, ground := Go.Ground.phase }, { on := 1, ground := Go.Ground.phase }, { on := 2, ground := Go.Ground.phase }, { on := 3, ground := Go.Ground.phase }, { on := 4, ground := Go.Ground.phase }, { on := 5, ground := Go.Ground.phase }, { on := 6, ground := Go.Ground.phase }, { on := 7, ground := Go.Ground.phase }, { on := 8, ground := Go.Ground.phase }, { on := 9, ground := Go.Ground.phase }, { on := 10, ground := Go.Ground.phase }, { on := 11, ground := Go.Ground.phase }, { on := 12, ground := Go.Ground.phase }], guard := none }) (v := ?_) rfl (by kernel_rfl) (by kernel_rfl) (by kernel_rfl) (fun _ _ _ h => h) (Or.inl ⟨by rfl, ?_⟩) (by assumption) ?_
      rotate_left
      · intro w hSw
        try dsimp only at hSw
        go_simp
        try with_reducible rfl
      try simp only [Act.put, List.setIfInBounds_toArray, List.set_cons_zero, List.set_cons_succ]
      refine wpAnyH_done (by kernel_rfl) ?_ _
      go_wp2
      refine ret_via (v := .tuple #[.int .i64 1, .bool ok]) (fun _ => True) (fun VF _ => ?_) trivial rfl ⟨RES.out, hHeld⟩
      simp [results, Tryd.results53, go_sem, *]
set_option linter.unusedSimpArgs false in
set_option linter.unusedVariables false in
set_option maxRecDepth 100000 in
set_option maxHeartbeats 4000000 in
theorem ended_any (s : ByteArray) (b : UInt8) (t : List UInt8) (hl : s.data.toList = b :: t) (n : Nat) (hn : n ≤ 2000000000000000000) (w : World) : Calls Tryd.prog 55 #[.string s, .int .i64 (n : Int)] w (Ret (SgV (signU (some n) (strip 45 s.data.toList).2)) w) := by
  obtain ⟨i, hi⟩ : ∃ i : Int, i = (n : Int) := ⟨_, rfl⟩
  have hd0 : s.data.toList.drop 0 = b :: t := by rw [hl]; rfl
  obtain ⟨h0, hx0⟩ := byte_of hd0
  obtain ⟨xi, hxi⟩ : ∃ y : Int, ((b.toNat : Nat) : Int) = y := ⟨_, rfl⟩
  have hy0 : (((s[0]'h0).toNat : Nat) : Int) = xi := by rw [hx0, hxi]
  have K0 : (0 : Int) < (s.size : Int) := by omega
  obtain ⟨bl, hbl⟩ : ∃ o : Bool, o = (strip 45 s.data.toList).2 := ⟨_, rfl⟩
  have E0 : (xi == 45) = bl := by
    rw [hbl, hl, strip_cons, ← hxi]
    by_cases k : b = 45
    · rw [if_pos k, k]; rfl
    · rw [if_neg k]
      show ((b.toNat : Int) == 45) = false
      rw [beq_eq_false_iff_ne]
      intro e
      exact k (UInt8.toNat_inj.1 (by show b.toNat = 45; omega))
  rw [← hbl]
  have RES : SgV (signU (some n) bl) = if 9007199254740992 < i then .tuple #[.int .i64 0, .bool false] else if bl then .tuple #[.int .i64 (-i), .bool true] else .tuple #[.int .i64 i, .bool true] := by
    unfold signU
    show SgV (if 9007199254740992 < n then none else some (if bl = true then -(n : Int) else (n : Int))) = _
    by_cases k : 9007199254740992 < n
    · rw [if_pos k, if_pos (show 9007199254740992 < i by omega)]; rfl
    · rw [if_neg k, if_neg (show ¬ 9007199254740992 < i by omega), hi]
      cases bl <;> rfl
  rw [RES, ← hi]
  have e1 : wrap64 (-i) = -i := by unfold wrap64; omega
  have e2 : IntKind.i64.wrap (-i) = -i := by clear e1; rw [IntKind.wrap_i64]; omega
  clear RES hd0 hx0 hxi hbl hl
  by_cases k : 9007199254740992 < i
  · rw [if_pos k]
    have t1 : decide (9007199254740992 < i) = true := decide_eq_true k
    clear k hi hn
    go_enter Tryd.func55, Tryd.ntmps55
    go_wp2
    refine ret_via (v := (.tuple #[.int .i64 0, .bool false])) (fun _ => True) (fun VF _ => ?_) trivial rfl ⟨rfl, by go_grown⟩
    simp [results, Tryd.results55, go_sem, *]
  · rw [if_neg k]
    have t1 : decide (9007199254740992 < i) = false := decide_eq_false k
    clear k hi hn
    cases bl
    · rw [if_neg (by decide)]
      go_enter Tryd.func55, Tryd.ntmps55
      go_wp2
      refine ret_via (v := .tuple #[.int .i64 i, .bool true]) (fun _ => True) (fun VF _ => ?_) trivial rfl ⟨rfl, by go_grown⟩
      simp [results, Tryd.results55, go_sem, *]
    · rw [if_pos rfl]
      go_enter Tryd.func55, Tryd.ntmps55
      go_wp2
      refine ret_via (v := .tuple #[.int .i64 (-i), .bool true]) (fun _ => True) (fun VF _ => ?_) trivial rfl ⟨rfl, by go_grown⟩
      simp [results, Tryd.results55, go_sem, *]
/-- What the document reads durations' texts as. -/
def lawDL (l : List UInt8) : Option Int := if (bodyL l).2.2 = true then signU (lawD (bodyL l).1) (bodyL l).2.1 else none
def lawML (l : List UInt8) : Option Int := if (bodyL l).2.2 = true then signU (lawM (bodyL l).1) (bodyL l).2.1 else none
theorem body_some {l : List UInt8} (h : (bodyL l).2.2 = true) : ∃ b t, l = b :: t := by
  cases l with
  | nil => cases h
  | cons b t => exact ⟨b, t, rfl⟩
theorem piece_ex (m : Nat) (u : Nat × Nat) (l : List UInt8) : ∃ v r b, pieceU m u l = (v, r, b) ∧ r <:+ l ∧ v ≤ 10 ^ m * u.2 := by
  refine ⟨(pieceU m u l).1, (pieceU m u l).2.1, (pieceU m u l).2.2, rfl, suf_piece m u l, piece_lt m u l⟩
theorem lawM_of {l : List UInt8} {v r b v2 r2 b2} (hne : l ≠ []) (h : pieceU 15 uY l = (v, r, b)) (h2 : pieceU 15 uO r = (v2, r2, b2)) : lawM l = if r2 = [] then some (v + v2) else none := by
  unfold lawM
  rw [if_neg hne, h]
  show (if (pieceU 15 uO r).2.1 = [] then some (v + (pieceU 15 uO r).1) else none) = _
  rw [h2]
theorem timeD_of {a : Nat} {l : List UInt8} {v r b v2 r2 b2 v3 r3 b3} (h : pieceU 12 uH l = (v, r, b)) (h2 : pieceU 12 uM r = (v2, r2, b2)) (h3 : pieceU 12 uS r2 = (v3, r3, b3)) : timeD a l = if r3 = [] then some (a + v + v2 + v3) else none := by
  unfold timeD
  rw [h]
  show (if (pieceU 12 uS (pieceU 12 uM r).2.1).2.1 = [] then some (a + v + (pieceU 12 uM r).1 + (pieceU 12 uS (pieceU 12 uM r).2.1).1) else none) = _
  rw [h2]
  show (if (pieceU 12 uS r2).2.1 = [] then some (a + v + v2 + (pieceU 12 uS r2).1) else none) = _
  rw [h3]
set_option linter.unusedSimpArgs false in
set_option linter.unusedVariables false in
set_option maxRecDepth 100000 in
set_option maxHeartbeats 4000000 in
theorem monthsR_any (s : ByteArray) (hs : s.size ≤ 200000000000000) (w : World) : Calls Tryd.prog 27 #[.string s] w (Ret (SgV (lawML s.data.toList)) w) := by
  have HBD := bg_drop s.data.toList
  have NE := body_some (l := s.data.toList)
  have BG0 := begun_any s hs
  unfold BgP at BG0
  have ENX := ended_any s
  have SB : (strip 45 s.data.toList).2 = (bodyL s.data.toList).2.1 := rfl
  rw [SB] at ENX
  unfold lawML
  obtain ⟨R, hR⟩ : ∃ R, R = (bodyL s.data.toList).1 := ⟨_, rfl⟩
  rw [← hR] at HBD
  rw [← hR]
  generalize (bodyL s.data.toList).2.1 = bl at *
  generalize (bodyL s.data.toList).2.2 = ok at *
  generalize bgI s.data.toList = i at *
  have BG := Lib.hid (show ∀ w, Calls Tryd.prog 53 #[.string s] w (Ret (.tuple #[.int .i64 (i : Int), .bool ok]) w) from fun w => (BG0 w).mono fun e w' H => ⟨H.1, H.2⟩)
  clear BG0 SB hR
  cases ok
  · rw [if_neg (by decide)]
    clear HBD NE ENX
    go_enter Tryd.func27, Tryd.ntmps27
    go_wp2_with fail
    refine (BG.out _).mono ?_
    rintro e w1 ⟨rfl, hb⟩
    have B : Below w.heap.size w w1 := bstep (by go_grown) hb
    clear hb BG
    go_wp2
    refine ret_via (v := (.tuple #[.int .i64 0, .bool false])) (fun _ => True) (fun VF _ => ?_) trivial rfl ⟨rfl, B⟩
    simp [results, Tryd.results27, go_sem, *]
  · rw [if_pos rfl]
    obtain ⟨il, ir⟩ := HBD rfl
    replace il : i ≤ s.size := il
    obtain ⟨hb, ht, hl⟩ := NE rfl
    have pR : R <:+ s.data.toList := by rw [← ir]; exact List.drop_suffix _ _
    clear HBD NE
    have zi : i = s.size ↔ R = [] := by
      rw [← pos_end pR, ← ir, pos_of il]
    by_cases q : R = []
    · rw [show lawM R = none by unfold lawM; rw [if_pos q]]
      have qi := zi.2 q
      have Ta : ((i : Int) == (s.size : Int)) = true := by rw [beq_iff_eq]; exact congrArg Int.ofNat (qi)
      have Tb : (i == s.size) = true := by rw [beq_iff_eq]; exact qi
      clear il ir hl pR zi q qi ENX
      go_enter Tryd.func27, Tryd.ntmps27
      go_wp2_with fail
      refine (BG.out _).mono ?_
      rintro e w1 ⟨rfl, hb⟩
      have B : Below w.heap.size w w1 := bstep (by go_grown) hb
      clear hb BG
      go_wp2
      refine ret_via (v := (.tuple #[.int .i64 0, .bool false])) (fun _ => True) (fun VF _ => ?_) trivial rfl ⟨rfl, B⟩
      simp [results, Tryd.results27, go_sem, *]
    · have qi : ¬ i = s.size := fun e => q (zi.1 e)
      have Ta : ((i : Int) == (s.size : Int)) = false := by rw [beq_eq_false_iff_ne]; exact fun e => (qi) (Int.ofNat.inj e)
      have Tb : (i == s.size) = false := by rw [beq_eq_false_iff_ne]; exact qi
      obtain ⟨v1, r1, b1, eP1, sP1, lP1⟩ := piece_ex 15 uY R
      obtain ⟨kr1, hkr1⟩ : ∃ k : Nat, k = posU s r1 := ⟨_, rfl⟩
      have pr1 : r1 <:+ s.data.toList := sP1.trans pR
      have dr1 : s.data.toList.drop kr1 = r1 := by rw [hkr1]; exact pos_drop pr1
      have qr1 : kr1 ≤ s.size := by rw [hkr1]; exact pos_le _ _
      have zr1 : kr1 = s.size ↔ r1 = [] := by rw [hkr1]; exact pos_end pr1
      obtain ⟨iv1, hv1⟩ : ∃ y : Int, y = (v1 : Int) := ⟨_, rfl⟩
      have P1 := Lib.hid (show ∀ w, Calls Tryd.prog 54 #[.string s, .int .i64 (i : Int), .int .u8 89, .int .i64 12, .int .i64 15] w (Ret (.tuple #[.int .i64 iv1, .int .i64 (kr1 : Int), .bool b1]) w) from fun w => by
        have e := piece_any s hs i _ rfl il 89 12 15 89 12 15 rfl rfl rfl (by decide) (by decide) w
        rw [ir, show pieceU 15 (89, 12) R = _ from eP1] at e
        rw [hv1, hkr1]
        exact e)
      obtain ⟨v2, r2, b2, eP2, sP2, lP2⟩ := piece_ex 15 uO r1
      obtain ⟨kr2, hkr2⟩ : ∃ k : Nat, k = posU s r2 := ⟨_, rfl⟩
      have pr2 : r2 <:+ s.data.toList := sP2.trans pr1
      have dr2 : s.data.toList.drop kr2 = r2 := by rw [hkr2]; exact pos_drop pr2
      have qr2 : kr2 ≤ s.size := by rw [hkr2]; exact pos_le _ _
      have zr2 : kr2 = s.size ↔ r2 = [] := by rw [hkr2]; exact pos_end pr2
      obtain ⟨iv2, hv2⟩ : ∃ y : Int, y = (v2 : Int) := ⟨_, rfl⟩
      have P2 := Lib.hid (show ∀ w, Calls Tryd.prog 54 #[.string s, .int .i64 (kr1 : Int), .int .u8 77, .int .i64 1, .int .i64 15] w (Ret (.tuple #[.int .i64 iv2, .int .i64 (kr2 : Int), .bool b2]) w) from fun w => by
        have e := piece_any s hs kr1 _ rfl qr1 77 1 15 77 1 15 rfl rfl rfl (by decide) (by decide) w
        rw [dr1, show pieceU 15 (77, 1) r1 = _ from eP2] at e
        rw [hv2, hkr2]
        exact e)
      rw [lawM_of q eP1 eP2]
      have LV1 : v1 ≤ 12000000000000000 := Nat.le_trans lP1 (by decide)
      have LV2 : v2 ≤ 1000000000000000 := Nat.le_trans lP2 (by decide)
      by_cases q2 : r2 = []
      · rw [if_pos q2]
        have qk := zr2.2 q2
        have T2a : ((kr2 : Int) != (s.size : Int)) = false := by rw [bne_eq_false_iff_eq]; exact congrArg Int.ofNat qk
        have T2b : (kr2 != s.size) = false := by rw [bne_eq_false_iff_eq]; exact qk
        have EN0 := ENX _ _ hl (v1 + v2) (by omega)
        obtain ⟨sm, hsm⟩ : ∃ y : Int, y = ((v1 + v2 : Nat) : Int) := ⟨_, rfl⟩
        rw [← hsm] at EN0
        have q9 : I64 sm := by unfold I64; omega
        have w9 : iv1 + iv2 = sm := by omega
        have f9 : wrap64 (iv1 + iv2) = sm := by rw [w9]; exact q9.wrap'
        have g9 : IntKind.i64.wrap (iv1 + iv2) = sm := by rw [w9]; exact q9.wrap
        clear il ir hl pR zi q qi eP1 sP1 lP1 hkr1 pr1 dr1 qr1 zr1 hv1 eP2 sP2 lP2 hkr2 pr2 dr2 qr2 zr2 hv2 LV1 LV2 q2 qk ENX hsm q9 w9
        generalize signU (some (v1 + v2)) bl = r at *
        cases r with
        | none =>
          have EN := Lib.hid (show ∀ w, Calls Tryd.prog 55 #[.string s, .int .i64 sm] w (Ret ((.tuple #[.int .i64 0, .bool false])) w) from EN0)
          clear EN0
          go_enter Tryd.func27, Tryd.ntmps27
          go_wp2_with fail
          refine (BG.out _).mono ?_
          rintro e w1 ⟨rfl, hb⟩
          have B : Below w.heap.size w w1 := bstep (by go_grown) hb
          clear hb BG
          go_wp2_with fail
          refine (P1.out _).mono ?_
          rintro e w2 ⟨rfl, hb⟩
          replace B := bstep B hb
          clear hb P1
          go_wp2_with fail
          refine (P2.out _).mono ?_
          rintro e w3 ⟨rfl, hb⟩
          replace B := bstep B hb
          clear hb P2
          go_wp2_with fail
          refine (EN.out _).mono ?_
          rintro e w4 ⟨rfl, hb⟩
          replace B := bstep B hb
          clear hb EN
          go_wp2
          refine ret_via (v := (.tuple #[.int .i64 0, .bool false])) (fun _ => True) (fun VF _ => ?_) trivial rfl ⟨rfl, B⟩
          simp [results, Tryd.results27, go_sem, *]
        | some i' =>
          have EN := Lib.hid (show ∀ w, Calls Tryd.prog 55 #[.string s, .int .i64 sm] w (Ret (.tuple #[.int .i64 i', .bool true]) w) from EN0)
          clear EN0
          go_enter Tryd.func27, Tryd.ntmps27
          go_wp2_with fail
          refine (BG.out _).mono ?_
          rintro e w1 ⟨rfl, hb⟩
          have B : Below w.heap.size w w1 := bstep (by go_grown) hb
          clear hb BG
          go_wp2_with fail
          refine (P1.out _).mono ?_
          rintro e w2 ⟨rfl, hb⟩
          replace B := bstep B hb
          clear hb P1
          go_wp2_with fail
          refine (P2.out _).mono ?_
          rintro e w3 ⟨rfl, hb⟩
          replace B := bstep B hb
          clear hb P2
          go_wp2_with fail
          refine (EN.out _).mono ?_
          rintro e w4 ⟨rfl, hb⟩
          replace B := bstep B hb
          clear hb EN
          go_wp2
          refine ret_via (v := .tuple #[.int .i64 i', .bool true]) (fun _ => True) (fun VF _ => ?_) trivial rfl ⟨rfl, B⟩
          simp [results, Tryd.results27, go_sem, *]
      · rw [if_neg q2]
        have qk : ¬ kr2 = s.size := fun e => q2 (zr2.1 e)
        have T2a : ((kr2 : Int) != (s.size : Int)) = true := by rw [bne_iff_ne]; exact fun e => qk (Int.ofNat.inj e)
        have T2b : (kr2 != s.size) = true := by rw [bne_iff_ne]; exact qk
        clear il ir hl pR zi q qi eP1 sP1 lP1 hkr1 pr1 dr1 qr1 zr1 hv1 eP2 sP2 lP2 hkr2 pr2 dr2 qr2 zr2 hv2 LV1 LV2 q2 qk ENX
        go_enter Tryd.func27, Tryd.ntmps27
        go_wp2_with fail
        refine (BG.out _).mono ?_
        rintro e w1 ⟨rfl, hb⟩
        have B : Below w.heap.size w w1 := bstep (by go_grown) hb
        clear hb BG
        go_wp2_with fail
        refine (P1.out _).mono ?_
        rintro e w2 ⟨rfl, hb⟩
        replace B := bstep B hb
        clear hb P1
        go_wp2_with fail
        refine (P2.out _).mono ?_
        rintro e w3 ⟨rfl, hb⟩
        replace B := bstep B hb
        clear hb P2
        go_wp2
        refine ret_via (v := (.tuple #[.int .i64 0, .bool false])) (fun _ => True) (fun VF _ => ?_) trivial rfl ⟨rfl, B⟩
        simp [results, Tryd.results27, go_sem, *]
set_option linter.unusedSimpArgs false in
set_option linter.unusedVariables false in
set_option maxRecDepth 100000 in
set_option maxHeartbeats 4000000 in
theorem daysR_any (s : ByteArray) (hs : s.size ≤ 200000000000000) (w : World) : Calls Tryd.prog 26 #[.string s] w (Ret (SgV (lawDL s.data.toList)) w) := by
  have HBD := bg_drop s.data.toList
  have NE := body_some (l := s.data.toList)
  have BG0 := begun_any s hs
  unfold BgP at BG0
  have ENX := ended_any s
  have SB : (strip 45 s.data.toList).2 = (bodyL s.data.toList).2.1 := rfl
  rw [SB] at ENX
  unfold lawDL
  obtain ⟨R, hR⟩ : ∃ R, R = (bodyL s.data.toList).1 := ⟨_, rfl⟩
  rw [← hR] at HBD
  rw [← hR]
  generalize (bodyL s.data.toList).2.1 = bl at *
  generalize (bodyL s.data.toList).2.2 = ok at *
  generalize bgI s.data.toList = i at *
  have BG := Lib.hid (show ∀ w, Calls Tryd.prog 53 #[.string s] w (Ret (.tuple #[.int .i64 (i : Int), .bool ok]) w) from fun w => (BG0 w).mono fun e w' H => ⟨H.1, H.2⟩)
  clear BG0 SB hR
  cases ok
  · rw [if_neg (by decide)]
    clear HBD NE ENX
    go_enter Tryd.func26, Tryd.ntmps26
    go_wp2_with fail
    refine (BG.out _).mono ?_
    rintro e w1 ⟨rfl, hb⟩
    have B : Below w.heap.size w w1 := bstep (by go_grown) hb
    clear hb BG
    go_wp2
    refine ret_via (v := (.tuple #[.int .i64 0, .bool false])) (fun _ => True) (fun VF _ => ?_) trivial rfl ⟨rfl, B⟩
    simp [results, Tryd.results26, go_sem, *]
  · rw [if_pos rfl]
    obtain ⟨il, ir⟩ := HBD rfl
    replace il : i ≤ s.size := il
    obtain ⟨hb, ht, hl⟩ := NE rfl
    have pR : R <:+ s.data.toList := by rw [← ir]; exact List.drop_suffix _ _
    clear HBD NE
    obtain ⟨v1, r1, b1, eP1, sP1, lP1⟩ := piece_ex 12 uD R
    obtain ⟨kr1, hkr1⟩ : ∃ k : Nat, k = posU s r1 := ⟨_, rfl⟩
    have pr1 : r1 <:+ s.data.toList := sP1.trans pR
    have dr1 : s.data.toList.drop kr1 = r1 := by rw [hkr1]; exact pos_drop pr1
    have qr1 : kr1 ≤ s.size := by rw [hkr1]; exact pos_le _ _
    have zr1 : kr1 = s.size ↔ r1 = [] := by rw [hkr1]; exact pos_end pr1
    obtain ⟨iv1, hv1⟩ : ∃ y : Int, y = (v1 : Int) := ⟨_, rfl⟩
    have P1 := Lib.hid (show ∀ w, Calls Tryd.prog 54 #[.string s, .int .i64 (i : Int), .int .u8 68, .int .i64 86400, .int .i64 12] w (Ret (.tuple #[.int .i64 iv1, .int .i64 (kr1 : Int), .bool b1]) w) from fun w => by
      have e := piece_any s hs i _ rfl il 68 86400 12 68 86400 12 rfl rfl rfl (by decide) (by decide) w
      rw [ir, show pieceU 12 (68, 86400) R = _ from eP1] at e
      rw [hv1, hkr1]
      exact e)
    have LV1 : v1 ≤ 86400000000000000 := Nat.le_trans lP1 (by decide)
    cases hr1 : r1 with
    | nil =>
      have qk := zr1.2 hr1
      have Ta : ((kr1 : Int) == (s.size : Int)) = true := by rw [beq_iff_eq]; exact congrArg Int.ofNat (qk)
      have Tb : (kr1 == s.size) = true := by rw [beq_iff_eq]; exact qk
      rw [hr1] at eP1
      rw [lawD_nil eP1]
      cases b1
      · rw [if_neg (by decide)]
        clear il ir hl pR eP1 sP1 lP1 hkr1 pr1 dr1 qr1 zr1 hv1 LV1 qk ENX
        go_enter Tryd.func26, Tryd.ntmps26
        go_wp2_with fail
        refine (BG.out _).mono ?_
        rintro e w1 ⟨rfl, hb⟩
        have B : Below w.heap.size w w1 := bstep (by go_grown) hb
        clear hb BG
        go_wp2_with fail
        refine (P1.out _).mono ?_
        rintro e w2 ⟨rfl, hb⟩
        replace B := bstep B hb
        clear hb P1
        go_wp2
        refine ret_via (v := (.tuple #[.int .i64 0, .bool false])) (fun _ => True) (fun VF _ => ?_) trivial rfl ⟨rfl, B⟩
        simp [results, Tryd.results26, go_sem, *]
      · rw [if_pos rfl]
        have EN0 := ENX _ _ hl v1 (by omega)
        rw [← hv1] at EN0
        clear il ir hl pR eP1 sP1 lP1 hkr1 pr1 dr1 qr1 zr1 hv1 LV1 qk ENX
        generalize signU (some v1) bl = r at *
        cases r with
        | none =>
          have EN := Lib.hid (show ∀ w, Calls Tryd.prog 55 #[.string s, .int .i64 iv1] w (Ret ((.tuple #[.int .i64 0, .bool false])) w) from EN0)
          clear EN0
          go_enter Tryd.func26, Tryd.ntmps26
          go_wp2_with fail
          refine (BG.out _).mono ?_
          rintro e w1 ⟨rfl, hb⟩
          have B : Below w.heap.size w w1 := bstep (by go_grown) hb
          clear hb BG
          go_wp2_with fail
          refine (P1.out _).mono ?_
          rintro e w2 ⟨rfl, hb⟩
          replace B := bstep B hb
          clear hb P1
          go_wp2_with fail
          refine (EN.out _).mono ?_
          rintro e w3 ⟨rfl, hb⟩
          replace B := bstep B hb
          clear hb EN
          go_wp2
          refine ret_via (v := (.tuple #[.int .i64 0, .bool false])) (fun _ => True) (fun VF _ => ?_) trivial rfl ⟨rfl, B⟩
          simp [results, Tryd.results26, go_sem, *]
        | some i' =>
          have EN := Lib.hid (show ∀ w, Calls Tryd.prog 55 #[.string s, .int .i64 iv1] w (Ret (.tuple #[.int .i64 i', .bool true]) w) from EN0)
          clear EN0
          go_enter Tryd.func26, Tryd.ntmps26
          go_wp2_with fail
          refine (BG.out _).mono ?_
          rintro e w1 ⟨rfl, hb⟩
          have B : Below w.heap.size w w1 := bstep (by go_grown) hb
          clear hb BG
          go_wp2_with fail
          refine (P1.out _).mono ?_
          rintro e w2 ⟨rfl, hb⟩
          replace B := bstep B hb
          clear hb P1
          go_wp2_with fail
          refine (EN.out _).mono ?_
          rintro e w3 ⟨rfl, hb⟩
          replace B := bstep B hb
          clear hb EN
          go_wp2
          refine ret_via (v := .tuple #[.int .i64 i', .bool true]) (fun _ => True) (fun VF _ => ?_) trivial rfl ⟨rfl, B⟩
          simp [results, Tryd.results26, go_sem, *]
    | cons c t =>
      have qk : ¬ kr1 = s.size := fun e => by rw [zr1.1 e] at hr1; cases hr1
      have Ta : ((kr1 : Int) == (s.size : Int)) = false := by rw [beq_eq_false_iff_ne]; exact fun e => (qk) (Int.ofNat.inj e)
      have Tb : (kr1 == s.size) = false := by rw [beq_eq_false_iff_ne]; exact qk
      rw [hr1] at eP1 dr1
      obtain ⟨hi, hx0⟩ := byte_of dr1
      obtain ⟨xi, hxi⟩ : ∃ y : Int, ((c.toNat : Nat) : Int) = y := ⟨_, rfl⟩
      have hx : (((s[kr1]'hi).toNat : Nat) : Int) = xi := by rw [hx0, hxi]
      have K0 : (0 : Int) ≤ (kr1 : Int) := Int.natCast_nonneg _
      have K1 : (kr1 : Int) < (s.size : Int) := Int.ofNat_lt.2 hi
      clear hx0
      by_cases c84 : c = 84
      · subst c84
        have E84 : (xi != 84) = false := by rw [← hxi]; rfl
        clear hxi
        obtain ⟨k2, hk2⟩ : ∃ k : Nat, k = kr1 + 1 := ⟨_, rfl⟩
        have j2 : (kr1 : Int) + 1 = (k2 : Int) := by rw [hk2]; rfl
        have qk2 : I64 (k2 : Int) := by unfold I64; omega
        have f2 : wrap64 ((kr1 : Int) + 1) = (k2 : Int) := by rw [j2]; exact qk2.wrap'
        have g2 : IntKind.i64.wrap ((kr1 : Int) + 1) = (k2 : Int) := by rw [j2]; exact qk2.wrap
        clear j2 qk2
        have dt : s.data.toList.drop k2 = t := by
          rw [hk2, ← List.drop_drop, dr1]
          rfl
        have q2 : k2 ≤ s.size := by rw [hk2]; exact hi
        have pt : t <:+ s.data.toList := by rw [← dt]; exact List.drop_suffix _ _
        have zt : k2 = s.size ↔ t = [] := by
          rw [← pos_end pt, ← dt, pos_of q2]
        by_cases q : t = []
        · rw [lawD_no eP1 (.inr q)]
          have qt := zt.2 q
          have Ua : ((k2 : Int) == (s.size : Int)) = true := by rw [beq_iff_eq]; exact congrArg Int.ofNat (qt)
          have Ub : (k2 == s.size) = true := by rw [beq_iff_eq]; exact qt
          clear il ir hl pR eP1 sP1 lP1 hkr1 pr1 dr1 qr1 zr1 hv1 LV1 hr1 qk hk2 dt q2 pt zt q qt ENX
          go_enter Tryd.func26, Tryd.ntmps26
          go_wp2_with fail
          refine (BG.out _).mono ?_
          rintro e w1 ⟨rfl, hb⟩
          have B : Below w.heap.size w w1 := bstep (by go_grown) hb
          clear hb BG
          go_wp2_with fail
          refine (P1.out _).mono ?_
          rintro e w2 ⟨rfl, hb⟩
          replace B := bstep B hb
          clear hb P1
          go_wp2
          refine ret_via (v := (.tuple #[.int .i64 0, .bool false])) (fun _ => True) (fun VF _ => ?_) trivial rfl ⟨rfl, B⟩
          simp [results, Tryd.results26, go_sem, *]
        · have qt : ¬ k2 = s.size := fun e => q (zt.1 e)
          have Ua : ((k2 : Int) == (s.size : Int)) = false := by rw [beq_eq_false_iff_ne]; exact fun e => (qt) (Int.ofNat.inj e)
          have Ub : (k2 == s.size) = false := by rw [beq_eq_false_iff_ne]; exact qt
          rw [lawD_yes eP1 q]
          obtain ⟨v2, r2, b2, eP2, sP2, lP2⟩ := piece_ex 12 uH t
          obtain ⟨kr2, hkr2⟩ : ∃ k : Nat, k = posU s r2 := ⟨_, rfl⟩
          have pr2 : r2 <:+ s.data.toList := sP2.trans pt
          have dr2 : s.data.toList.drop kr2 = r2 := by rw [hkr2]; exact pos_drop pr2
          have qr2 : kr2 ≤ s.size := by rw [hkr2]; exact pos_le _ _
          have zr2 : kr2 = s.size ↔ r2 = [] := by rw [hkr2]; exact pos_end pr2
          obtain ⟨iv2, hv2⟩ : ∃ y : Int, y = (v2 : Int) := ⟨_, rfl⟩
          have P2 := Lib.hid (show ∀ w, Calls Tryd.prog 54 #[.string s, .int .i64 (k2 : Int), .int .u8 72, .int .i64 3600, .int .i64 12] w (Ret (.tuple #[.int .i64 iv2, .int .i64 (kr2 : Int), .bool b2]) w) from fun w => by
            have e := piece_any s hs k2 _ rfl q2 72 3600 12 72 3600 12 rfl rfl rfl (by decide) (by decide) w
            rw [dt, show pieceU 12 (72, 3600) t = _ from eP2] at e
            rw [hv2, hkr2]
            exact e)
          obtain ⟨v3, r3, b3, eP3, sP3, lP3⟩ := piece_ex 12 uM r2
          obtain ⟨kr3, hkr3⟩ : ∃ k : Nat, k = posU s r3 := ⟨_, rfl⟩
          have pr3 : r3 <:+ s.data.toList := sP3.trans pr2
          have dr3 : s.data.toList.drop kr3 = r3 := by rw [hkr3]; exact pos_drop pr3
          have qr3 : kr3 ≤ s.size := by rw [hkr3]; exact pos_le _ _
          have zr3 : kr3 = s.size ↔ r3 = [] := by rw [hkr3]; exact pos_end pr3
          obtain ⟨iv3, hv3⟩ : ∃ y : Int, y = (v3 : Int) := ⟨_, rfl⟩
          have P3 := Lib.hid (show ∀ w, Calls Tryd.prog 54 #[.string s, .int .i64 (kr2 : Int), .int .u8 77, .int .i64 60, .int .i64 12] w (Ret (.tuple #[.int .i64 iv3, .int .i64 (kr3 : Int), .bool b3]) w) from fun w => by
            have e := piece_any s hs kr2 _ rfl qr2 77 60 12 77 60 12 rfl rfl rfl (by decide) (by decide) w
            rw [dr2, show pieceU 12 (77, 60) r2 = _ from eP3] at e
            rw [hv3, hkr3]
            exact e)
          obtain ⟨v4, r4, b4, eP4, sP4, lP4⟩ := piece_ex 12 uS r3
          obtain ⟨kr4, hkr4⟩ : ∃ k : Nat, k = posU s r4 := ⟨_, rfl⟩
          have pr4 : r4 <:+ s.data.toList := sP4.trans pr3
          have dr4 : s.data.toList.drop kr4 = r4 := by rw [hkr4]; exact pos_drop pr4
          have qr4 : kr4 ≤ s.size := by rw [hkr4]; exact pos_le _ _
          have zr4 : kr4 = s.size ↔ r4 = [] := by rw [hkr4]; exact pos_end pr4
          obtain ⟨iv4, hv4⟩ : ∃ y : Int, y = (v4 : Int) := ⟨_, rfl⟩
          have P4 := Lib.hid (show ∀ w, Calls Tryd.prog 54 #[.string s, .int .i64 (kr3 : Int), .int .u8 83, .int .i64 1, .int .i64 12] w (Ret (.tuple #[.int .i64 iv4, .int .i64 (kr4 : Int), .bool b4]) w) from fun w => by
            have e := piece_any s hs kr3 _ rfl qr3 83 1 12 83 1 12 rfl rfl rfl (by decide) (by decide) w
            rw [dr3, show pieceU 12 (83, 1) r3 = _ from eP4] at e
            rw [hv4, hkr4]
            exact e)
          rw [timeD_of eP2 eP3 eP4]
          have LV2 : v2 ≤ 3600000000000000 := Nat.le_trans lP2 (by decide)
          have LV3 : v3 ≤ 60000000000000 := Nat.le_trans lP3 (by decide)
          have LV4 : v4 ≤ 1000000000000 := Nat.le_trans lP4 (by decide)
          by_cases q4 : r4 = []
          · rw [if_pos q4]
            have qk4 := zr4.2 q4
            have T4a : ((kr4 : Int) != (s.size : Int)) = false := by rw [bne_eq_false_iff_eq]; exact congrArg Int.ofNat qk4
            have T4b : (kr4 != s.size) = false := by rw [bne_eq_false_iff_eq]; exact qk4
            have EN0 := ENX _ _ hl (v1 + v2 + v3 + v4) (by clear f2 g2; omega)
            obtain ⟨s1, hs1⟩ : ∃ y : Int, y = iv1 + iv2 := ⟨_, rfl⟩
            obtain ⟨s2, hs2⟩ : ∃ y : Int, y = s1 + iv3 := ⟨_, rfl⟩
            obtain ⟨sm, hsm⟩ : ∃ y : Int, y = ((v1 + v2 + v3 + v4 : Nat) : Int) := ⟨_, rfl⟩
            rw [← hsm] at EN0
            have w9 : s2 + iv4 = sm := by clear f2 g2; omega
            have q7 : I64 s1 := by clear f2 g2; unfold I64; omega
            have q8 : I64 s2 := by clear f2 g2; unfold I64; omega
            have q9 : I64 sm := by clear f2 g2; unfold I64; omega
            have f7 : wrap64 (iv1 + iv2) = s1 := by rw [← hs1]; exact q7.wrap'
            have g7 : IntKind.i64.wrap (iv1 + iv2) = s1 := by rw [← hs1]; exact q7.wrap
            have f8 : wrap64 (s1 + iv3) = s2 := by rw [← hs2]; exact q8.wrap'
            have g8 : IntKind.i64.wrap (s1 + iv3) = s2 := by rw [← hs2]; exact q8.wrap
            have f9 : wrap64 (s2 + iv4) = sm := by rw [w9]; exact q9.wrap'
            have g9 : IntKind.i64.wrap (s2 + iv4) = sm := by rw [w9]; exact q9.wrap
            clear il ir hl pR eP1 sP1 lP1 hkr1 pr1 dr1 qr1 zr1 hv1 LV1 hr1 qk hk2 dt q2 pt zt q qt eP2 sP2 lP2 hkr2 pr2 dr2 qr2 zr2 hv2 LV2 eP3 sP3 lP3 hkr3 pr3 dr3 qr3 zr3 hv3 LV3 eP4 sP4 lP4 hkr4 pr4 dr4 qr4 zr4 hv4 LV4 q4 qk4 ENX hs1 hs2 hsm q7 q8 q9 w9
            generalize signU (some (v1 + v2 + v3 + v4)) bl = r at *
            cases r with
            | none =>
              have EN := Lib.hid (show ∀ w, Calls Tryd.prog 55 #[.string s, .int .i64 sm] w (Ret ((.tuple #[.int .i64 0, .bool false])) w) from EN0)
              clear EN0
              go_enter Tryd.func26, Tryd.ntmps26
              go_wp2_with fail
              refine (BG.out _).mono ?_
              rintro e w1 ⟨rfl, hb⟩
              have B : Below w.heap.size w w1 := bstep (by go_grown) hb
              clear hb BG
              go_wp2_with fail
              refine (P1.out _).mono ?_
              rintro e w2 ⟨rfl, hb⟩
              replace B := bstep B hb
              clear hb P1
              go_wp2_with fail
              refine (P2.out _).mono ?_
              rintro e w3 ⟨rfl, hb⟩
              replace B := bstep B hb
              clear hb P2
              go_wp2_with fail
              refine (P3.out _).mono ?_
              rintro e w4 ⟨rfl, hb⟩
              replace B := bstep B hb
              clear hb P3
              go_wp2_with fail
              refine (P4.out _).mono ?_
              rintro e w5 ⟨rfl, hb⟩
              replace B := bstep B hb
              clear hb P4
              go_wp2_with fail
              refine (EN.out _).mono ?_
              rintro e w6 ⟨rfl, hb⟩
              replace B := bstep B hb
              clear hb EN
              go_wp2
              refine ret_via (v := (.tuple #[.int .i64 0, .bool false])) (fun _ => True) (fun VF _ => ?_) trivial rfl ⟨rfl, B⟩
              simp [results, Tryd.results26, go_sem, *]
            | some i' =>
              have EN := Lib.hid (show ∀ w, Calls Tryd.prog 55 #[.string s, .int .i64 sm] w (Ret (.tuple #[.int .i64 i', .bool true]) w) from EN0)
              clear EN0
              go_enter Tryd.func26, Tryd.ntmps26
              go_wp2_with fail
              refine (BG.out _).mono ?_
              rintro e w1 ⟨rfl, hb⟩
              have B : Below w.heap.size w w1 := bstep (by go_grown) hb
              clear hb BG
              go_wp2_with fail
              refine (P1.out _).mono ?_
              rintro e w2 ⟨rfl, hb⟩
              replace B := bstep B hb
              clear hb P1
              go_wp2_with fail
              refine (P2.out _).mono ?_
              rintro e w3 ⟨rfl, hb⟩
              replace B := bstep B hb
              clear hb P2
              go_wp2_with fail
              refine (P3.out _).mono ?_
              rintro e w4 ⟨rfl, hb⟩
              replace B := bstep B hb
              clear hb P3
              go_wp2_with fail
              refine (P4.out _).mono ?_
              rintro e w5 ⟨rfl, hb⟩
              replace B := bstep B hb
              clear hb P4
              go_wp2_with fail
              refine (EN.out _).mono ?_
              rintro e w6 ⟨rfl, hb⟩
              replace B := bstep B hb
              clear hb EN
              go_wp2
              refine ret_via (v := .tuple #[.int .i64 i', .bool true]) (fun _ => True) (fun VF _ => ?_) trivial rfl ⟨rfl, B⟩
              simp [results, Tryd.results26, go_sem, *]
          · rw [if_neg q4]
            have qk4 : ¬ kr4 = s.size := fun e => q4 (zr4.1 e)
            have T4a : ((kr4 : Int) != (s.size : Int)) = true := by rw [bne_iff_ne]; exact fun e => qk4 (Int.ofNat.inj e)
            have T4b : (kr4 != s.size) = true := by rw [bne_iff_ne]; exact qk4
            clear il ir hl pR eP1 sP1 lP1 hkr1 pr1 dr1 qr1 zr1 hv1 LV1 hr1 qk hk2 dt q2 pt zt q qt eP2 sP2 lP2 hkr2 pr2 dr2 qr2 zr2 hv2 LV2 eP3 sP3 lP3 hkr3 pr3 dr3 qr3 zr3 hv3 LV3 eP4 sP4 lP4 hkr4 pr4 dr4 qr4 zr4 hv4 LV4 q4 qk4 ENX
            go_enter Tryd.func26, Tryd.ntmps26
            go_wp2_with fail
            refine (BG.out _).mono ?_
            rintro e w1 ⟨rfl, hb⟩
            have B : Below w.heap.size w w1 := bstep (by go_grown) hb
            clear hb BG
            go_wp2_with fail
            refine (P1.out _).mono ?_
            rintro e w2 ⟨rfl, hb⟩
            replace B := bstep B hb
            clear hb P1
            go_wp2_with fail
            refine (P2.out _).mono ?_
            rintro e w3 ⟨rfl, hb⟩
            replace B := bstep B hb
            clear hb P2
            go_wp2_with fail
            refine (P3.out _).mono ?_
            rintro e w4 ⟨rfl, hb⟩
            replace B := bstep B hb
            clear hb P3
            go_wp2_with fail
            refine (P4.out _).mono ?_
            rintro e w5 ⟨rfl, hb⟩
            replace B := bstep B hb
            clear hb P4
            go_wp2
            refine ret_via (v := (.tuple #[.int .i64 0, .bool false])) (fun _ => True) (fun VF _ => ?_) trivial rfl ⟨rfl, B⟩
            simp [results, Tryd.results26, go_sem, *]
      · rw [lawD_no eP1 (.inl c84)]
        have E84 : (xi != 84) = true := by
          rw [← hxi, bne_iff_ne]
          intro e
          exact c84 (UInt8.toNat_inj.1 (by show c.toNat = 84; omega))
        clear il ir hl pR eP1 sP1 lP1 hkr1 pr1 dr1 qr1 zr1 hv1 LV1 hr1 qk hxi c84 ENX
        go_enter Tryd.func26, Tryd.ntmps26
        go_wp2_with fail
        refine (BG.out _).mono ?_
        rintro e w1 ⟨rfl, hb⟩
        have B : Below w.heap.size w w1 := bstep (by go_grown) hb
        clear hb BG
        go_wp2_with fail
        refine (P1.out _).mono ?_
        rintro e w2 ⟨rfl, hb⟩
        replace B := bstep B hb
        clear hb P1
        go_wp2
        refine ret_via (v := (.tuple #[.int .i64 0, .bool false])) (fun _ => True) (fun VF _ => ?_) trivial rfl ⟨rfl, B⟩
        simp [results, Tryd.results26, go_sem, *]
end Go.Proofs.YthgondbiddncpaaDoor

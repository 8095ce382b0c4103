/-
  The statement ClockParts, walked: it answers true.
-/
import Derived.Test.YtbllinbafpdgjaaKc
namespace Go.Proofs.Ytbllinbafpdgjaa
open Go.RowKit

theorem keepM {W w' : World} {g : Nat} {v0 v1 v2 : Value} (h : W.cell? ⟨g, 0, none⟩ = some v0 ∧ W.cell? ⟨g, 1, none⟩ = some v1 ∧ W.cell? ⟨g, 2, none⟩ = some v2) (s : g < W.heap.size) (hb : Below W.heap.size W w') : w'.cell? ⟨g, 0, none⟩ = some v0 ∧ w'.cell? ⟨g, 1, none⟩ = some v1 ∧ w'.cell? ⟨g, 2, none⟩ = some v2 ∧ Below W.heap.size W w' :=
  ⟨((bcell hb).1 _ _ s).trans h.1, ((bcell hb).1 _ _ s).trans h.2.1, ((bcell hb).1 _ _ s).trans h.2.2, hb⟩
/-- What Of answers of three numbers. -/
theorem of_some (h m s : Int) : ∃ T : Int, (∀ w : World, Calls Try.prog 10 #[.int .i64 h, .int .i64 m, .int .i64 s] w (Ret (.tuple #[Tm T false 0, .bool (ofOk h m s)]) w)) ∧ (ofOk h m s = false → T = 0) ∧ (ofOk h m s = true → mayM T false 0 = true ∧ T / 3600 = h ∧ T % 3600 / 60 = m ∧ T % 60 = s) := by
  cases k : ofOk h m s
  · exact ⟨0, of_no h m s k, fun _ => rfl, fun c => by cases c⟩
  · refine ⟨_, of_yes h m s k, (fun c => by cases c), fun _ => ?_⟩
    have k' : ((((0 ≤ h ∧ h < 24) ∧ 0 ≤ m) ∧ m < 60) ∧ 0 ≤ s) ∧ s < 60 := by simpa [ofOk] using k
    unfold mayM
    simp only [Bool.and_eq_true, decide_eq_true_eq]
    refine ⟨⟨⟨⟨⟨?_, ?_⟩, by decide⟩, by decide⟩, by decide⟩, ?_, ?_, ?_⟩ <;> omega
/-- A time of the day is made again of its parts. -/
theorem of_parts (X : Int) (h : 0 ≤ X ∧ X < 86400) : ofOk (X / 3600) (X % 3600 / 60) (X % 60) = true ∧ X / 3600 * 3600 + X % 3600 / 60 * 60 + X % 60 = X ∧ mayM X false 0 = true := by
  unfold ofOk mayM
  simp only [Bool.and_eq_true, decide_eq_true_eq]
  refine ⟨⟨⟨⟨⟨⟨?_, ?_⟩, ?_⟩, ?_⟩, ?_⟩, ?_⟩, ?_, ⟨⟨⟨?_, ?_⟩, by decide⟩, by decide⟩, by decide⟩ <;> omega
set_option maxRecDepth 100000 in
set_option maxHeartbeats 40000000 in
theorem parts_walk (h m s sec T X a b c : Int) (ok p1 p2 p3 p4 p5 p6 : Bool)
    (t1 : decide (0 ≤ h) = p1) (t2 : decide (h < 24) = p2) (t3 : decide (0 ≤ m) = p3) (t4 : decide (m < 60) = p4) (t5 : decide (0 ≤ s) = p5) (t6 : decide (s < 60) = p6) (hok0 : ok = (p1 && p2 && p3 && p4 && p5 && p6))
    (OF0 : ∀ w : World, Calls Try.prog 10 #[.int .i64 h, .int .i64 m, .int .i64 s] w (Ret (.tuple #[Tm T false 0, .bool ok]) w))
    (hno0 : ok = false → T = 0) (HT0 : ok = true → ∀ w : World, Calls Try.prog 11 #[Tm T false 0] w (Ret (.int .i64 h) w)) (MT0 : ok = true → ∀ w : World, Calls Try.prog 12 #[Tm T false 0] w (Ret (.int .i64 m) w)) (ST0 : ok = true → ∀ w : World, Calls Try.prog 13 #[Tm T false 0] w (Ret (.int .i64 s) w))
    (MK0 : ∀ w : World, Calls Try.prog 14 #[.int .i64 sec, .bool false, .int .i64 0] w (Ret (Tm X false 0) w))
    (HX0 : ∀ w : World, Calls Try.prog 11 #[Tm X false 0] w (Ret (.int .i64 a) w)) (MX0 : ∀ w : World, Calls Try.prog 12 #[Tm X false 0] w (Ret (.int .i64 b) w)) (SX0 : ∀ w : World, Calls Try.prog 13 #[Tm X false 0] w (Ret (.int .i64 c) w))
    (OX0 : ∀ w : World, Calls Try.prog 10 #[.int .i64 a, .int .i64 b, .int .i64 c] w (Ret (.tuple #[Tm X false 0, .bool true]) w)) (w : World) : Calls Try.prog 4 #[.int .i64 h, .int .i64 m, .int .i64 s, .int .i64 sec] w (Ret (.bool true) w) := by
  have AW := Lib.hid awake7
  have OF := Lib.hid OF0
  have hno := Lib.hid hno0
  have HT := Lib.hid HT0
  have MT := Lib.hid MT0
  have ST := Lib.hid ST0
  have MK := Lib.hid MK0
  have HX := Lib.hid HX0
  have MX := Lib.hid MX0
  have SX := Lib.hid SX0
  have OX := Lib.hid OX0
  have hok := Lib.hid hok0
  clear OF0 hno0 HT0 MT0 ST0 MK0 HX0 MX0 SX0 OX0 hok0
  go_enter Try.func4, Try.ntmps4
  go_wp2_with fail
  refine (AW.out _).mono ?_
  rintro e w1 ⟨rfl, hb⟩
  have B : Below w.heap.size w w1 := bstep (by go_grown) hb
  clear hb AW
  go_wp2_with fail
  refine (OF.out _).mono ?_
  rintro e w2 ⟨rfl, hb⟩
  replace B := bstep B hb
  clear hb OF
  have PT := Lib.hid (HoldsM.new rfl : HoldsM (w2.alloc (TmC T false 0)) w2.heap.size T false 0)
  replace B := ballD1 B (TmC T false 0)
  go_upto_region 4 with fail
  change Code.wp _ _ _ _ (w2.alloc (TmC T false 0))
  generalize w2.alloc (TmC T false 0) = w3 at *
  obtain ⟨gPT, hg⟩ : ∃ g, g = w2.heap.size := ⟨_, rfl⟩
  rw [← hg] at PT ⊢
  clear hg
  cases p1
  case' false =>
    have ok0 : ok = false := by simpa using hok.out
    subst ok0
    obtain rfl := hno.out rfl
    clear hok hno HT MT ST
    obtain ⟨⟨c01, c02, c03⟩, -, c09⟩ := PT.out
    go_upto_region 7 with fail
    clear c01 c02 c03 c09
  case' true =>
    cases p2
    case' false =>
      have ok0 : ok = false := by simpa using hok.out
      subst ok0
      obtain rfl := hno.out rfl
      clear hok hno HT MT ST
      obtain ⟨⟨c01, c02, c03⟩, -, c09⟩ := PT.out
      go_upto_region 7 with fail
      clear c01 c02 c03 c09
    case' true =>
      cases p3
      case' false =>
        have ok0 : ok = false := by simpa using hok.out
        subst ok0
        obtain rfl := hno.out rfl
        clear hok hno HT MT ST
        obtain ⟨⟨c01, c02, c03⟩, -, c09⟩ := PT.out
        go_upto_region 7 with fail
        clear c01 c02 c03 c09
      case' true =>
        cases p4
        case' false =>
          have ok0 : ok = false := by simpa using hok.out
          subst ok0
          obtain rfl := hno.out rfl
          clear hok hno HT MT ST
          obtain ⟨⟨c01, c02, c03⟩, -, c09⟩ := PT.out
          go_upto_region 7 with fail
          clear c01 c02 c03 c09
        case' true =>
          cases p5
          case' false =>
            have ok0 : ok = false := by simpa using hok.out
            subst ok0
            obtain rfl := hno.out rfl
            clear hok hno HT MT ST
            obtain ⟨⟨c01, c02, c03⟩, -, c09⟩ := PT.out
            go_upto_region 7 with fail
            clear c01 c02 c03 c09
          case' true =>
            cases p6
            case' false =>
              have ok0 : ok = false := by simpa using hok.out
              subst ok0
              obtain rfl := hno.out rfl
              clear hok hno HT MT ST
              obtain ⟨⟨c01, c02, c03⟩, -, c09⟩ := PT.out
              go_upto_region 7 with fail
              clear c01 c02 c03 c09
            case' true =>
              have ok0 : ok = true := by simpa using hok.out
              subst ok0
              replace HT := Lib.hid (HT.out rfl)
              replace MT := Lib.hid (MT.out rfl)
              replace ST := Lib.hid (ST.out rfl)
              clear hok hno
              obtain ⟨⟨c01, c02, c03⟩, -, c09⟩ := PT.out
              go_wp2_with fail
              refine (HT.out _).mono ?_
              rintro e w3 ⟨rfl, hb⟩
              replace PT := Lib.hid (PT.out.below hb)
              replace B := bstep B hb
              clear hb HT
              clear c01 c02 c03 c09
              obtain ⟨⟨c01, c02, c03⟩, -, c09⟩ := PT.out
              go_wp2_with fail
              refine (MT.out _).mono ?_
              rintro e w4 ⟨rfl, hb⟩
              replace PT := Lib.hid (PT.out.below hb)
              replace B := bstep B hb
              clear hb MT
              clear c01 c02 c03 c09
              obtain ⟨⟨c01, c02, c03⟩, -, c09⟩ := PT.out
              go_wp2_with fail
              refine (ST.out _).mono ?_
              rintro e w5 ⟨rfl, hb⟩
              replace PT := Lib.hid (PT.out.below hb)
              replace B := bstep B hb
              clear hb ST
              clear c01 c02 c03 c09
              obtain ⟨⟨c01, c02, c03⟩, -, c09⟩ := PT.out
              go_upto_region 7 with fail
              clear c01 c02 c03 c09
  all_goals
    clear PT
    go_wp2_with fail
    refine (MK.out _).mono ?_
    rintro e w9 ⟨rfl, hb⟩
    replace B := bstep B hb
    clear hb MK
    have PX := Lib.hid (HoldsM.new rfl : HoldsM (w9.alloc (TmC X false 0)) w9.heap.size X false 0)
    replace B := ballD1 B (TmC X false 0)
    go_upto_region 8 with fail
    change Code.wp _ _ _ _ (w9.alloc (TmC X false 0))
    generalize w9.alloc (TmC X false 0) = w10 at *
    obtain ⟨gPX, hg⟩ : ∃ g, g = w9.heap.size := ⟨_, rfl⟩
    rw [← hg] at PX ⊢
    clear hg
    generalize w10 = V at *
    generalize gPX = gx at *
    refine wp_region_held_drew (S := fun w' => w'.cell? ⟨gx, 0, none⟩ = some (.int .i64 X) ∧ w'.cell? ⟨gx, 1, none⟩ = some (.bool false) ∧ w'.cell? ⟨gx, 2, none⟩ = some (.int .i64 0) ∧ Below V.heap.size V w') (by kernel_rfl) ?_ (fun hHeld => ?_)
    · exact keepM PX.out.1 PX.out.2.2 (Below.refl _ _).drew
    refine wpAnyH_take (i := 0) (oi := { dst := some 86, op := Go.Op.load 23 (Go.Operand.tmp 12), type := 23, pos := "law.go:49", after := #[], guard := none }) (v := ?_) rfl (by kernel_rfl) (by kernel_rfl) (by kernel_rfl) (fun _ _ _ h => h) (Or.inl ⟨by rfl, ?_⟩) (by assumption) ?_
    rotate_left
    · intro w hSw
      try dsimp only at hSw
      go_simp
      try with_reducible rfl
    try simp only [Act.put, List.setIfInBounds_toArray, List.set_cons_zero, List.set_cons_succ]
    refine wpAnyH_take (i := 2) (oi := { dst := some 88, op := Go.Op.load 23 (Go.Operand.tmp 12), type := 23, pos := "law.go:49", after := #[], guard := none }) (v := ?_) rfl (by kernel_rfl) (by kernel_rfl) (by kernel_rfl) (fun _ _ _ h => h) (Or.inl ⟨by rfl, ?_⟩) (by assumption) ?_
    rotate_left
    · intro w hSw
      try dsimp only at hSw
      go_simp
      try with_reducible rfl
    try simp only [Act.put, List.setIfInBounds_toArray, List.set_cons_zero, List.set_cons_succ]
    refine wpAnyH_take (i := 4) (oi := { dst := some 90, op := Go.Op.load 23 (Go.Operand.tmp 12), type := 23, pos := "law.go:49", after := #[], guard := none }) (v := ?_) rfl (by kernel_rfl) (by kernel_rfl) (by kernel_rfl) (fun _ _ _ h => h) (Or.inl ⟨by rfl, ?_⟩) (by assumption) ?_
    rotate_left
    · intro w hSw
      try dsimp only at hSw
      go_simp
      try with_reducible rfl
    try simp only [Act.put, List.setIfInBounds_toArray, List.set_cons_zero, List.set_cons_succ]
    refine wpAnyH_ready (rs := [1, 10]) (by kernel_rfl) (by simp) ?_
    refine AllReadyH.cons (o := { dst := some 87, op := Go.Op.call { callee := Go.Callee.value (Go.Operand.func 11), args := #[Go.Operand.tmp 86], argTypes := #[23] }, type := 3, pos := "law.go:49", after := #[{ on := 0, ground := Go.Ground.data }], guard := none }) rfl (fun K hK => ?_) (AllReadyH.cons (o := { dst := some 13, op := Go.Op.alloc 23, type := 0, pos := "law.go:49", after := #[], guard := none }) rfl (fun K hK => ?_) AllReadyH.nil)
    · go_simp
      refine (HX.out _).mono ?_
      rintro e v1 ⟨rfl, hbv⟩
      have HBx := Lib.hid (bstep hHeld.2.2.2 hbv)
      clear hHeld hbv
      refine hK.out _ _ ?_ (fun hHeld => ?_)
      · exact keepM PX.out.1 PX.out.2.2 HBx.out
      clear hK K HBx
      try simp only [Act.put, List.setIfInBounds_toArray, List.set_cons_zero, List.set_cons_succ]
      refine wpAnyH_ready (rs := [3, 10]) (by kernel_rfl) (by simp) ?_
      refine AllReadyH.cons (o := { dst := some 89, op := Go.Op.call { callee := Go.Callee.value (Go.Operand.func 12), args := #[Go.Operand.tmp 88], argTypes := #[23] }, type := 3, pos := "law.go:49", after := #[{ on := 2, ground := Go.Ground.data }, { on := 1, ground := Go.Ground.chain }], guard := none }) rfl (fun K hK => ?_) (AllReadyH.cons (o := { dst := some 13, op := Go.Op.alloc 23, type := 0, pos := "law.go:49", after := #[], guard := none }) rfl (fun K hK => ?_) AllReadyH.nil)
      · go_simp
        refine (MX.out _).mono ?_
        rintro e v2 ⟨rfl, hbv⟩
        have HBx := Lib.hid (bstep hHeld.2.2.2 hbv)
        clear hHeld hbv
        refine hK.out _ _ ?_ (fun hHeld => ?_)
        · exact keepM PX.out.1 PX.out.2.2 HBx.out
        clear hK K HBx
        try simp only [Act.put, List.setIfInBounds_toArray, List.set_cons_zero, List.set_cons_succ]
        refine wpAnyH_ready (rs := [5, 10]) (by kernel_rfl) (by simp) ?_
        refine AllReadyH.cons (o := { dst := some 91, op := Go.Op.call { callee := Go.Callee.value (Go.Operand.func 13), args := #[Go.Operand.tmp 90], argTypes := #[23] }, type := 3, pos := "law.go:49", after := #[{ on := 4, ground := Go.Ground.data }, { on := 3, ground := Go.Ground.chain }], guard := none }) rfl (fun K hK => ?_) (AllReadyH.cons (o := { dst := some 13, op := Go.Op.alloc 23, type := 0, pos := "law.go:49", after := #[], guard := none }) rfl (fun K hK => ?_) AllReadyH.nil)
        · go_simp
          refine (SX.out _).mono ?_
          rintro e v3 ⟨rfl, hbv⟩
          have HBx := Lib.hid (bstep hHeld.2.2.2 hbv)
          clear hHeld hbv
          refine hK.out _ _ ?_ (fun hHeld => ?_)
          · exact keepM PX.out.1 PX.out.2.2 HBx.out
          clear hK K HBx
          try simp only [Act.put, List.setIfInBounds_toArray, List.set_cons_zero, List.set_cons_succ]
          refine wpAnyH_ready (rs := [6, 10]) (by kernel_rfl) (by simp) ?_
          refine AllReadyH.cons (o := { dst := some 92, op := Go.Op.call { callee := Go.Callee.value (Go.Operand.func 10), args := #[Go.Operand.tmp 87, Go.Operand.tmp 89, Go.Operand.tmp 91], argTypes := #[3, 3, 3] }, type := 25, pos := "law.go:49", after := #[{ on := 1, ground := Go.Ground.data }, { on := 3, ground := Go.Ground.data }, { on := 5, ground := Go.Ground.data }, { on := 5, ground := Go.Ground.chain }], guard := none }) rfl (fun K hK => ?_) (AllReadyH.cons (o := { dst := some 13, op := Go.Op.alloc 23, type := 0, pos := "law.go:49", after := #[], guard := none }) rfl (fun K hK => ?_) AllReadyH.nil)
          · go_simp
            refine (OX.out _).mono ?_
            rintro e v4 ⟨rfl, hbv⟩
            have HBx := Lib.hid (bstep hHeld.2.2.2 hbv)
            clear hHeld hbv
            refine hK.out _ _ ?_ (fun hHeld => ?_)
            · exact keepM PX.out.1 PX.out.2.2 HBx.out
            clear hK K HBx
            try simp only [Act.put, List.setIfInBounds_toArray, List.set_cons_zero, List.set_cons_succ]
            refine wpAnyH_take (i := 7) (oi := { dst := some 85, op := Go.Op.move (Go.Operand.tmp 92), type := 25, pos := "law.go:49", after := #[{ on := 6, ground := Go.Ground.data }], guard := none }) (v := ?_) rfl (by kernel_rfl) (by kernel_rfl) (by kernel_rfl) (fun _ _ _ h => h) (Or.inl ⟨by rfl, ?_⟩) (by assumption) ?_
            rotate_left
            · intro w hSw
              try dsimp only at hSw
              go_simp
              try with_reducible rfl
            try simp only [Act.put, List.setIfInBounds_toArray, List.set_cons_zero, List.set_cons_succ]
            refine wpAnyH_take (i := 8) (oi := { dst := some 93, op := Go.Op.extract (Go.Operand.tmp 85) 0, type := 23, pos := "law.go:49", after := #[{ on := 7, ground := Go.Ground.data }], guard := none }) (v := ?_) rfl (by kernel_rfl) (by kernel_rfl) (by kernel_rfl) (fun _ _ _ h => h) (Or.inl ⟨by rfl, ?_⟩) (by assumption) ?_
            rotate_left
            · intro w hSw
              try dsimp only at hSw
              go_simp
              try with_reducible rfl
            try simp only [Act.put, List.setIfInBounds_toArray, List.set_cons_zero, List.set_cons_succ]
            refine wpAnyH_take (i := 9) (oi := { dst := some 94, op := Go.Op.extract (Go.Operand.tmp 85) 1, type := 4, pos := "law.go:49", after := #[{ on := 7, ground := Go.Ground.data }, { on := 11, ground := Go.Ground.gcOnly Go.Departure.lateStores }], guard := none }) (v := ?_) rfl (by kernel_rfl) (by kernel_rfl) (by kernel_rfl) (fun _ _ _ h => h) (Or.inl ⟨by rfl, ?_⟩) (by assumption) ?_
            rotate_left
            · intro w hSw
              try dsimp only at hSw
              go_simp
              try with_reducible rfl
            try simp only [Act.put, List.setIfInBounds_toArray, List.set_cons_zero, List.set_cons_succ]
            refine wpAnyH_ready (rs := [10]) (by kernel_rfl) (by simp) ?_
            refine AllReadyH.cons (o := { dst := some 13, op := Go.Op.alloc 23, type := 0, pos := "law.go:49", after := #[], guard := none }) rfl (fun K hK => ?_) AllReadyH.nil
            go_simp
            have HBx := Lib.hid (ballD1 hHeld.2.2.2 (TmC 0 false 0))
            have le := hHeld.2.2.2.size
            have G := Lib.hid (HoldsM.new rfl : HoldsM ((v4).alloc (TmC 0 false 0)) (v4).heap.size 0 false 0)
            clear hHeld
            refine hK.out _ _ ?_ (fun hHeld => ?_)
            · exact keepM PX.out.1 PX.out.2.2 HBx.out
            clear hK K HBx
            try simp only [Act.put, List.setIfInBounds_toArray, List.set_cons_zero, List.set_cons_succ]
            obtain ⟨g, hg⟩ : ∃ g, g = (v4).heap.size := ⟨_, rfl⟩
            rw [← hg] at G le ⊢
            clear hg
            obtain ⟨⟨a1, a2, a3⟩, ⟨a4, a5, a6⟩, a9⟩ := id G.out
            refine wpAnyH_ready (rs := [11]) (by kernel_rfl) (by simp) ?_
            refine AllReadyH.cons (o := { dst := none, op := Go.Op.store 23 (Go.Operand.tmp 13) (Go.Operand.tmp 93), type := 0, pos := "law.go:49", after := #[{ on := 10, ground := Go.Ground.data }, { on := 8, ground := Go.Ground.data }, { on := 6, ground := Go.Ground.chain }, { on := 0, ground := Go.Ground.phase }, { on := 1, ground := Go.Ground.phase }, { on := 2, ground := Go.Ground.phase }, { on := 3, ground := Go.Ground.phase }, { on := 4, ground := Go.Ground.phase }, { on := 5, ground := Go.Ground.phase }, { on := 6, ground := Go.Ground.phase }, { on := 7, ground := Go.Ground.phase }, { on := 8, ground := Go.Ground.phase }, { on := 9, ground := Go.Ground.textOnly Go.Departure.lateStores }, { on := 10, ground := Go.Ground.phase }], guard := none }) rfl (fun K hK => ?_) AllReadyH.nil
            go_simp
            clear a1 a2 a3 a4 a5 a6 a9
            have HBx := Lib.hid (B3 hHeld.2.2.2 le (.int .i64 X) (.bool false) (.int .i64 0))
            replace G := Lib.hid (G.out.put (s := X) (z := false) (o := 0))
            clear hHeld
            refine hK.out _ _ ?_ (fun hHeld => ?_)
            · exact keepM PX.out.1 PX.out.2.2 HBx.out
            clear hK K HBx
            try simp only [Act.put, List.setIfInBounds_toArray, List.set_cons_zero, List.set_cons_succ]
            refine wpAnyH_take (i := 12) (oi := { dst := some 14, op := Go.Op.assign (Go.Operand.tmp 94), type := 4, pos := "law.go:49", after := #[{ on := 9, ground := Go.Ground.data }, { on := 11, ground := Go.Ground.chain }, { on := 0, ground := Go.Ground.phase }, { on := 1, ground := Go.Ground.phase }, { on := 2, ground := Go.Ground.phase }, { on := 3, ground := Go.Ground.phase }, { on := 4, ground := Go.Ground.phase }, { on := 5, ground := Go.Ground.phase }, { on := 6, ground := Go.Ground.phase }, { on := 7, ground := Go.Ground.phase }, { on := 8, ground := Go.Ground.phase }, { on := 9, ground := Go.Ground.phase }, { on := 10, ground := Go.Ground.phase }, { on := 11, ground := Go.Ground.phase }], guard := none }) (v := ?_) rfl (by kernel_rfl) (by kernel_rfl) (by kernel_rfl) (fun _ _ _ h => h) (Or.inl ⟨by rfl, ?_⟩) (by assumption) ?_
            rotate_left
            · intro w hSw
              try dsimp only at hSw
              go_simp
              try with_reducible rfl
            try simp only [Act.put, List.setIfInBounds_toArray, List.set_cons_zero, List.set_cons_succ]
            refine wpAnyH_done (by kernel_rfl) ?_ _
            replace B := bstep B hHeld.2.2.2
            replace PX := Lib.hid (PX.out.below hHeld.2.2.2)
            clear hHeld
            obtain ⟨⟨a1, a2, a3⟩, -, a9⟩ := PX.out
            obtain ⟨⟨b1, b2, b3⟩, -, b9⟩ := G.out
            go_wp2
            go_ret
            exact ⟨rfl, B⟩
          · go_simp
            have HBx := Lib.hid (ballD1 hHeld.2.2.2 (TmC 0 false 0))
            have le := hHeld.2.2.2.size
            have G := Lib.hid (HoldsM.new rfl : HoldsM ((v3).alloc (TmC 0 false 0)) (v3).heap.size 0 false 0)
            clear hHeld
            refine hK.out _ _ ?_ (fun hHeld => ?_)
            · exact keepM PX.out.1 PX.out.2.2 HBx.out
            clear hK K HBx
            try simp only [Act.put, List.setIfInBounds_toArray, List.set_cons_zero, List.set_cons_succ]
            obtain ⟨g, hg⟩ : ∃ g, g = (v3).heap.size := ⟨_, rfl⟩
            rw [← hg] at G le ⊢
            clear hg
            refine wpAnyH_ready (rs := [6]) (by kernel_rfl) (by simp) ?_
            refine AllReadyH.cons (o := { dst := some 92, op := Go.Op.call { callee := Go.Callee.value (Go.Operand.func 10), args := #[Go.Operand.tmp 87, Go.Operand.tmp 89, Go.Operand.tmp 91], argTypes := #[3, 3, 3] }, type := 25, pos := "law.go:49", after := #[{ on := 1, ground := Go.Ground.data }, { on := 3, ground := Go.Ground.data }, { on := 5, ground := Go.Ground.data }, { on := 5, ground := Go.Ground.chain }], guard := none }) rfl (fun K hK => ?_) AllReadyH.nil
            go_simp
            refine (OX.out _).mono ?_
            rintro e v4 ⟨rfl, hbv⟩
            have HBx := Lib.hid (bstep hHeld.2.2.2 hbv)
            replace G := Lib.hid (G.out.below hbv)
            clear hHeld hbv
            refine hK.out _ _ ?_ (fun hHeld => ?_)
            · exact keepM PX.out.1 PX.out.2.2 HBx.out
            clear hK K HBx
            try simp only [Act.put, List.setIfInBounds_toArray, List.set_cons_zero, List.set_cons_succ]
            refine wpAnyH_take (i := 7) (oi := { dst := some 85, op := Go.Op.move (Go.Operand.tmp 92), type := 25, pos := "law.go:49", after := #[{ on := 6, ground := Go.Ground.data }], guard := none }) (v := ?_) rfl (by kernel_rfl) (by kernel_rfl) (by kernel_rfl) (fun _ _ _ h => h) (Or.inl ⟨by rfl, ?_⟩) (by assumption) ?_
            rotate_left
            · intro w hSw
              try dsimp only at hSw
              go_simp
              try with_reducible rfl
            try simp only [Act.put, List.setIfInBounds_toArray, List.set_cons_zero, List.set_cons_succ]
            refine wpAnyH_take (i := 8) (oi := { dst := some 93, op := Go.Op.extract (Go.Operand.tmp 85) 0, type := 23, pos := "law.go:49", after := #[{ on := 7, ground := Go.Ground.data }], guard := none }) (v := ?_) rfl (by kernel_rfl) (by kernel_rfl) (by kernel_rfl) (fun _ _ _ h => h) (Or.inl ⟨by rfl, ?_⟩) (by assumption) ?_
            rotate_left
            · intro w hSw
              try dsimp only at hSw
              go_simp
              try with_reducible rfl
            try simp only [Act.put, List.setIfInBounds_toArray, List.set_cons_zero, List.set_cons_succ]
            refine wpAnyH_take (i := 9) (oi := { dst := some 94, op := Go.Op.extract (Go.Operand.tmp 85) 1, type := 4, pos := "law.go:49", after := #[{ on := 7, ground := Go.Ground.data }, { on := 11, ground := Go.Ground.gcOnly Go.Departure.lateStores }], guard := none }) (v := ?_) rfl (by kernel_rfl) (by kernel_rfl) (by kernel_rfl) (fun _ _ _ h => h) (Or.inl ⟨by rfl, ?_⟩) (by assumption) ?_
            rotate_left
            · intro w hSw
              try dsimp only at hSw
              go_simp
              try with_reducible rfl
            try simp only [Act.put, List.setIfInBounds_toArray, List.set_cons_zero, List.set_cons_succ]
            obtain ⟨⟨a1, a2, a3⟩, ⟨a4, a5, a6⟩, a9⟩ := id G.out
            refine wpAnyH_ready (rs := [11]) (by kernel_rfl) (by simp) ?_
            refine AllReadyH.cons (o := { dst := none, op := Go.Op.store 23 (Go.Operand.tmp 13) (Go.Operand.tmp 93), type := 0, pos := "law.go:49", after := #[{ on := 10, ground := Go.Ground.data }, { on := 8, ground := Go.Ground.data }, { on := 6, ground := Go.Ground.chain }, { on := 0, ground := Go.Ground.phase }, { on := 1, ground := Go.Ground.phase }, { on := 2, ground := Go.Ground.phase }, { on := 3, ground := Go.Ground.phase }, { on := 4, ground := Go.Ground.phase }, { on := 5, ground := Go.Ground.phase }, { on := 6, ground := Go.Ground.phase }, { on := 7, ground := Go.Ground.phase }, { on := 8, ground := Go.Ground.phase }, { on := 9, ground := Go.Ground.textOnly Go.Departure.lateStores }, { on := 10, ground := Go.Ground.phase }], guard := none }) rfl (fun K hK => ?_) AllReadyH.nil
            go_simp
            clear a1 a2 a3 a4 a5 a6 a9
            have HBx := Lib.hid (B3 hHeld.2.2.2 le (.int .i64 X) (.bool false) (.int .i64 0))
            replace G := Lib.hid (G.out.put (s := X) (z := false) (o := 0))
            clear hHeld
            refine hK.out _ _ ?_ (fun hHeld => ?_)
            · exact keepM PX.out.1 PX.out.2.2 HBx.out
            clear hK K HBx
            try simp only [Act.put, List.setIfInBounds_toArray, List.set_cons_zero, List.set_cons_succ]
            refine wpAnyH_take (i := 12) (oi := { dst := some 14, op := Go.Op.assign (Go.Operand.tmp 94), type := 4, pos := "law.go:49", after := #[{ on := 9, ground := Go.Ground.data }, { on := 11, ground := Go.Ground.chain }, { on := 0, ground := Go.Ground.phase }, { on := 1, ground := Go.Ground.phase }, { on := 2, ground := Go.Ground.phase }, { on := 3, ground := Go.Ground.phase }, { on := 4, ground := Go.Ground.phase }, { on := 5, ground := Go.Ground.phase }, { on := 6, ground := Go.Ground.phase }, { on := 7, ground := Go.Ground.phase }, { on := 8, ground := Go.Ground.phase }, { on := 9, ground := Go.Ground.phase }, { on := 10, ground := Go.Ground.phase }, { on := 11, ground := Go.Ground.phase }], guard := none }) (v := ?_) rfl (by kernel_rfl) (by kernel_rfl) (by kernel_rfl) (fun _ _ _ h => h) (Or.inl ⟨by rfl, ?_⟩) (by assumption) ?_
            rotate_left
            · intro w hSw
              try dsimp only at hSw
              go_simp
              try with_reducible rfl
            try simp only [Act.put, List.setIfInBounds_toArray, List.set_cons_zero, List.set_cons_succ]
            refine wpAnyH_done (by kernel_rfl) ?_ _
            replace B := bstep B hHeld.2.2.2
            replace PX := Lib.hid (PX.out.below hHeld.2.2.2)
            clear hHeld
            obtain ⟨⟨a1, a2, a3⟩, -, a9⟩ := PX.out
            obtain ⟨⟨b1, b2, b3⟩, -, b9⟩ := G.out
            go_wp2
            go_ret
            exact ⟨rfl, B⟩
        · go_simp
          have HBx := Lib.hid (ballD1 hHeld.2.2.2 (TmC 0 false 0))
          have le := hHeld.2.2.2.size
          have G := Lib.hid (HoldsM.new rfl : HoldsM ((v2).alloc (TmC 0 false 0)) (v2).heap.size 0 false 0)
          clear hHeld
          refine hK.out _ _ ?_ (fun hHeld => ?_)
          · exact keepM PX.out.1 PX.out.2.2 HBx.out
          clear hK K HBx
          try simp only [Act.put, List.setIfInBounds_toArray, List.set_cons_zero, List.set_cons_succ]
          obtain ⟨g, hg⟩ : ∃ g, g = (v2).heap.size := ⟨_, rfl⟩
          rw [← hg] at G le ⊢
          clear hg
          refine wpAnyH_ready (rs := [5]) (by kernel_rfl) (by simp) ?_
          refine AllReadyH.cons (o := { dst := some 91, op := Go.Op.call { callee := Go.Callee.value (Go.Operand.func 13), args := #[Go.Operand.tmp 90], argTypes := #[23] }, type := 3, pos := "law.go:49", after := #[{ on := 4, ground := Go.Ground.data }, { on := 3, ground := Go.Ground.chain }], guard := none }) rfl (fun K hK => ?_) AllReadyH.nil
          go_simp
          refine (SX.out _).mono ?_
          rintro e v3 ⟨rfl, hbv⟩
          have HBx := Lib.hid (bstep hHeld.2.2.2 hbv)
          replace G := Lib.hid (G.out.below hbv)
          clear hHeld hbv
          refine hK.out _ _ ?_ (fun hHeld => ?_)
          · exact keepM PX.out.1 PX.out.2.2 HBx.out
          clear hK K HBx
          try simp only [Act.put, List.setIfInBounds_toArray, List.set_cons_zero, List.set_cons_succ]
          refine wpAnyH_ready (rs := [6]) (by kernel_rfl) (by simp) ?_
          refine AllReadyH.cons (o := { dst := some 92, op := Go.Op.call { callee := Go.Callee.value (Go.Operand.func 10), args := #[Go.Operand.tmp 87, Go.Operand.tmp 89, Go.Operand.tmp 91], argTypes := #[3, 3, 3] }, type := 25, pos := "law.go:49", after := #[{ on := 1, ground := Go.Ground.data }, { on := 3, ground := Go.Ground.data }, { on := 5, ground := Go.Ground.data }, { on := 5, ground := Go.Ground.chain }], guard := none }) rfl (fun K hK => ?_) AllReadyH.nil
          go_simp
          refine (OX.out _).mono ?_
          rintro e v4 ⟨rfl, hbv⟩
          have HBx := Lib.hid (bstep hHeld.2.2.2 hbv)
          replace G := Lib.hid (G.out.below hbv)
          clear hHeld hbv
          refine hK.out _ _ ?_ (fun hHeld => ?_)
          · exact keepM PX.out.1 PX.out.2.2 HBx.out
          clear hK K HBx
          try simp only [Act.put, List.setIfInBounds_toArray, List.set_cons_zero, List.set_cons_succ]
          refine wpAnyH_take (i := 7) (oi := { dst := some 85, op := Go.Op.move (Go.Operand.tmp 92), type := 25, pos := "law.go:49", after := #[{ on := 6, ground := Go.Ground.data }], guard := none }) (v := ?_) rfl (by kernel_rfl) (by kernel_rfl) (by kernel_rfl) (fun _ _ _ h => h) (Or.inl ⟨by rfl, ?_⟩) (by assumption) ?_
          rotate_left
          · intro w hSw
            try dsimp only at hSw
            go_simp
            try with_reducible rfl
          try simp only [Act.put, List.setIfInBounds_toArray, List.set_cons_zero, List.set_cons_succ]
          refine wpAnyH_take (i := 8) (oi := { dst := some 93, op := Go.Op.extract (Go.Operand.tmp 85) 0, type := 23, pos := "law.go:49", after := #[{ on := 7, ground := Go.Ground.data }], guard := none }) (v := ?_) rfl (by kernel_rfl) (by kernel_rfl) (by kernel_rfl) (fun _ _ _ h => h) (Or.inl ⟨by rfl, ?_⟩) (by assumption) ?_
          rotate_left
          · intro w hSw
            try dsimp only at hSw
            go_simp
            try with_reducible rfl
          try simp only [Act.put, List.setIfInBounds_toArray, List.set_cons_zero, List.set_cons_succ]
          refine wpAnyH_take (i := 9) (oi := { dst := some 94, op := Go.Op.extract (Go.Operand.tmp 85) 1, type := 4, pos := "law.go:49", after := #[{ on := 7, ground := Go.Ground.data }, { on := 11, ground := Go.Ground.gcOnly Go.Departure.lateStores }], guard := none }) (v := ?_) rfl (by kernel_rfl) (by kernel_rfl) (by kernel_rfl) (fun _ _ _ h => h) (Or.inl ⟨by rfl, ?_⟩) (by assumption) ?_
          rotate_left
          · intro w hSw
            try dsimp only at hSw
            go_simp
            try with_reducible rfl
          try simp only [Act.put, List.setIfInBounds_toArray, List.set_cons_zero, List.set_cons_succ]
          obtain ⟨⟨a1, a2, a3⟩, ⟨a4, a5, a6⟩, a9⟩ := id G.out
          refine wpAnyH_ready (rs := [11]) (by kernel_rfl) (by simp) ?_
          refine AllReadyH.cons (o := { dst := none, op := Go.Op.store 23 (Go.Operand.tmp 13) (Go.Operand.tmp 93), type := 0, pos := "law.go:49", after := #[{ on := 10, ground := Go.Ground.data }, { on := 8, ground := Go.Ground.data }, { on := 6, ground := Go.Ground.chain }, { on := 0, ground := Go.Ground.phase }, { on := 1, ground := Go.Ground.phase }, { on := 2, ground := Go.Ground.phase }, { on := 3, ground := Go.Ground.phase }, { on := 4, ground := Go.Ground.phase }, { on := 5, ground := Go.Ground.phase }, { on := 6, ground := Go.Ground.phase }, { on := 7, ground := Go.Ground.phase }, { on := 8, ground := Go.Ground.phase }, { on := 9, ground := Go.Ground.textOnly Go.Departure.lateStores }, { on := 10, ground := Go.Ground.phase }], guard := none }) rfl (fun K hK => ?_) AllReadyH.nil
          go_simp
          clear a1 a2 a3 a4 a5 a6 a9
          have HBx := Lib.hid (B3 hHeld.2.2.2 le (.int .i64 X) (.bool false) (.int .i64 0))
          replace G := Lib.hid (G.out.put (s := X) (z := false) (o := 0))
          clear hHeld
          refine hK.out _ _ ?_ (fun hHeld => ?_)
          · exact keepM PX.out.1 PX.out.2.2 HBx.out
          clear hK K HBx
          try simp only [Act.put, List.setIfInBounds_toArray, List.set_cons_zero, List.set_cons_succ]
          refine wpAnyH_take (i := 12) (oi := { dst := some 14, op := Go.Op.assign (Go.Operand.tmp 94), type := 4, pos := "law.go:49", after := #[{ on := 9, ground := Go.Ground.data }, { on := 11, ground := Go.Ground.chain }, { on := 0, ground := Go.Ground.phase }, { on := 1, ground := Go.Ground.phase }, { on := 2, ground := Go.Ground.phase }, { on := 3, ground := Go.Ground.phase }, { on := 4, ground := Go.Ground.phase }, { on := 5, ground := Go.Ground.phase }, { on := 6, ground := Go.Ground.phase }, { on := 7, ground := Go.Ground.phase }, { on := 8, ground := Go.Ground.phase }, { on := 9, ground := Go.Ground.phase }, { on := 10, ground := Go.Ground.phase }, { on := 11, ground := Go.Ground.phase }], guard := none }) (v := ?_) rfl (by kernel_rfl) (by kernel_rfl) (by kernel_rfl) (fun _ _ _ h => h) (Or.inl ⟨by rfl, ?_⟩) (by assumption) ?_
          rotate_left
          · intro w hSw
            try dsimp only at hSw
            go_simp
            try with_reducible rfl
          try simp only [Act.put, List.setIfInBounds_toArray, List.set_cons_zero, List.set_cons_succ]
          refine wpAnyH_done (by kernel_rfl) ?_ _
          replace B := bstep B hHeld.2.2.2
          replace PX := Lib.hid (PX.out.below hHeld.2.2.2)
          clear hHeld
          obtain ⟨⟨a1, a2, a3⟩, -, a9⟩ := PX.out
          obtain ⟨⟨b1, b2, b3⟩, -, b9⟩ := G.out
          go_wp2
          go_ret
          exact ⟨rfl, B⟩
      · go_simp
        have HBx := Lib.hid (ballD1 hHeld.2.2.2 (TmC 0 false 0))
        have le := hHeld.2.2.2.size
        have G := Lib.hid (HoldsM.new rfl : HoldsM ((v1).alloc (TmC 0 false 0)) (v1).heap.size 0 false 0)
        clear hHeld
        refine hK.out _ _ ?_ (fun hHeld => ?_)
        · exact keepM PX.out.1 PX.out.2.2 HBx.out
        clear hK K HBx
        try simp only [Act.put, List.setIfInBounds_toArray, List.set_cons_zero, List.set_cons_succ]
        obtain ⟨g, hg⟩ : ∃ g, g = (v1).heap.size := ⟨_, rfl⟩
        rw [← hg] at G le ⊢
        clear hg
        refine wpAnyH_ready (rs := [3]) (by kernel_rfl) (by simp) ?_
        refine AllReadyH.cons (o := { dst := some 89, op := Go.Op.call { callee := Go.Callee.value (Go.Operand.func 12), args := #[Go.Operand.tmp 88], argTypes := #[23] }, type := 3, pos := "law.go:49", after := #[{ on := 2, ground := Go.Ground.data }, { on := 1, ground := Go.Ground.chain }], guard := none }) rfl (fun K hK => ?_) AllReadyH.nil
        go_simp
        refine (MX.out _).mono ?_
        rintro e v2 ⟨rfl, hbv⟩
        have HBx := Lib.hid (bstep hHeld.2.2.2 hbv)
        replace G := Lib.hid (G.out.below hbv)
        clear hHeld hbv
        refine hK.out _ _ ?_ (fun hHeld => ?_)
        · exact keepM PX.out.1 PX.out.2.2 HBx.out
        clear hK K HBx
        try simp only [Act.put, List.setIfInBounds_toArray, List.set_cons_zero, List.set_cons_succ]
        refine wpAnyH_ready (rs := [5]) (by kernel_rfl) (by simp) ?_
        refine AllReadyH.cons (o := { dst := some 91, op := Go.Op.call { callee := Go.Callee.value (Go.Operand.func 13), args := #[Go.Operand.tmp 90], argTypes := #[23] }, type := 3, pos := "law.go:49", after := #[{ on := 4, ground := Go.Ground.data }, { on := 3, ground := Go.Ground.chain }], guard := none }) rfl (fun K hK => ?_) AllReadyH.nil
        go_simp
        refine (SX.out _).mono ?_
        rintro e v3 ⟨rfl, hbv⟩
        have HBx := Lib.hid (bstep hHeld.2.2.2 hbv)
        replace G := Lib.hid (G.out.below hbv)
        clear hHeld hbv
        refine hK.out _ _ ?_ (fun hHeld => ?_)
        · exact keepM PX.out.1 PX.out.2.2 HBx.out
        clear hK K HBx
        try simp only [Act.put, List.setIfInBounds_toArray, List.set_cons_zero, List.set_cons_succ]
        refine wpAnyH_ready (rs := [6]) (by kernel_rfl) (by simp) ?_
        refine AllReadyH.cons (o := { dst := some 92, op := Go.Op.call { callee := Go.Callee.value (Go.Operand.func 10), args := #[Go.Operand.tmp 87, Go.Operand.tmp 89, Go.Operand.tmp 91], argTypes := #[3, 3, 3] }, type := 25, pos := "law.go:49", after := #[{ on := 1, ground := Go.Ground.data }, { on := 3, ground := Go.Ground.data }, { on := 5, ground := Go.Ground.data }, { on := 5, ground := Go.Ground.chain }], guard := none }) rfl (fun K hK => ?_) AllReadyH.nil
        go_simp
        refine (OX.out _).mono ?_
        rintro e v4 ⟨rfl, hbv⟩
        have HBx := Lib.hid (bstep hHeld.2.2.2 hbv)
        replace G := Lib.hid (G.out.below hbv)
        clear hHeld hbv
        refine hK.out _ _ ?_ (fun hHeld => ?_)
        · exact keepM PX.out.1 PX.out.2.2 HBx.out
        clear hK K HBx
        try simp only [Act.put, List.setIfInBounds_toArray, List.set_cons_zero, List.set_cons_succ]
        refine wpAnyH_take (i := 7) (oi := { dst := some 85, op := Go.Op.move (Go.Operand.tmp 92), type := 25, pos := "law.go:49", after := #[{ on := 6, ground := Go.Ground.data }], guard := none }) (v := ?_) rfl (by kernel_rfl) (by kernel_rfl) (by kernel_rfl) (fun _ _ _ h => h) (Or.inl ⟨by rfl, ?_⟩) (by assumption) ?_
        rotate_left
        · intro w hSw
          try dsimp only at hSw
          go_simp
          try with_reducible rfl
        try simp only [Act.put, List.setIfInBounds_toArray, List.set_cons_zero, List.set_cons_succ]
        refine wpAnyH_take (i := 8) (oi := { dst := some 93, op := Go.Op.extract (Go.Operand.tmp 85) 0, type := 23, pos := "law.go:49", after := #[{ on := 7, ground := Go.Ground.data }], guard := none }) (v := ?_) rfl (by kernel_rfl) (by kernel_rfl) (by kernel_rfl) (fun _ _ _ h => h) (Or.inl ⟨by rfl, ?_⟩) (by assumption) ?_
        rotate_left
        · intro w hSw
          try dsimp only at hSw
          go_simp
          try with_reducible rfl
        try simp only [Act.put, List.setIfInBounds_toArray, List.set_cons_zero, List.set_cons_succ]
        refine wpAnyH_take (i := 9) (oi := { dst := some 94, op := Go.Op.extract (Go.Operand.tmp 85) 1, type := 4, pos := "law.go:49", after := #[{ on := 7, ground := Go.Ground.data }, { on := 11, ground := Go.Ground.gcOnly Go.Departure.lateStores }], guard := none }) (v := ?_) rfl (by kernel_rfl) (by kernel_rfl) (by kernel_rfl) (fun _ _ _ h => h) (Or.inl ⟨by rfl, ?_⟩) (by assumption) ?_
        rotate_left
        · intro w hSw
          try dsimp only at hSw
          go_simp
          try with_reducible rfl
        try simp only [Act.put, List.setIfInBounds_toArray, List.set_cons_zero, List.set_cons_succ]
        obtain ⟨⟨a1, a2, a3⟩, ⟨a4, a5, a6⟩, a9⟩ := id G.out
        refine wpAnyH_ready (rs := [11]) (by kernel_rfl) (by simp) ?_
        refine AllReadyH.cons (o := { dst := none, op := Go.Op.store 23 (Go.Operand.tmp 13) (Go.Operand.tmp 93), type := 0, pos := "law.go:49", after := #[{ on := 10, ground := Go.Ground.data }, { on := 8, ground := Go.Ground.data }, { on := 6, ground := Go.Ground.chain }, { on := 0, ground := Go.Ground.phase }, { on := 1, ground := Go.Ground.phase }, { on := 2, ground := Go.Ground.phase }, { on := 3, ground := Go.Ground.phase }, { on := 4, ground := Go.Ground.phase }, { on := 5, ground := Go.Ground.phase }, { on := 6, ground := Go.Ground.phase }, { on := 7, ground := Go.Ground.phase }, { on := 8, ground := Go.Ground.phase }, { on := 9, ground := Go.Ground.textOnly Go.Departure.lateStores }, { on := 10, ground := Go.Ground.phase }], guard := none }) rfl (fun K hK => ?_) AllReadyH.nil
        go_simp
        clear a1 a2 a3 a4 a5 a6 a9
        have HBx := Lib.hid (B3 hHeld.2.2.2 le (.int .i64 X) (.bool false) (.int .i64 0))
        replace G := Lib.hid (G.out.put (s := X) (z := false) (o := 0))
        clear hHeld
        refine hK.out _ _ ?_ (fun hHeld => ?_)
        · exact keepM PX.out.1 PX.out.2.2 HBx.out
        clear hK K HBx
        try simp only [Act.put, List.setIfInBounds_toArray, List.set_cons_zero, List.set_cons_succ]
        refine wpAnyH_take (i := 12) (oi := { dst := some 14, op := Go.Op.assign (Go.Operand.tmp 94), type := 4, pos := "law.go:49", after := #[{ on := 9, ground := Go.Ground.data }, { on := 11, ground := Go.Ground.chain }, { on := 0, ground := Go.Ground.phase }, { on := 1, ground := Go.Ground.phase }, { on := 2, ground := Go.Ground.phase }, { on := 3, ground := Go.Ground.phase }, { on := 4, ground := Go.Ground.phase }, { on := 5, ground := Go.Ground.phase }, { on := 6, ground := Go.Ground.phase }, { on := 7, ground := Go.Ground.phase }, { on := 8, ground := Go.Ground.phase }, { on := 9, ground := Go.Ground.phase }, { on := 10, ground := Go.Ground.phase }, { on := 11, ground := Go.Ground.phase }], guard := none }) (v := ?_) rfl (by kernel_rfl) (by kernel_rfl) (by kernel_rfl) (fun _ _ _ h => h) (Or.inl ⟨by rfl, ?_⟩) (by assumption) ?_
        rotate_left
        · intro w hSw
          try dsimp only at hSw
          go_simp
          try with_reducible rfl
        try simp only [Act.put, List.setIfInBounds_toArray, List.set_cons_zero, List.set_cons_succ]
        refine wpAnyH_done (by kernel_rfl) ?_ _
        replace B := bstep B hHeld.2.2.2
        replace PX := Lib.hid (PX.out.below hHeld.2.2.2)
        clear hHeld
        obtain ⟨⟨a1, a2, a3⟩, -, a9⟩ := PX.out
        obtain ⟨⟨b1, b2, b3⟩, -, b9⟩ := G.out
        go_wp2
        go_ret
        exact ⟨rfl, B⟩
    · go_simp
      have HBx := Lib.hid (ballD1 hHeld.2.2.2 (TmC 0 false 0))
      have le := hHeld.2.2.2.size
      have G := Lib.hid (HoldsM.new rfl : HoldsM ((V.drew).alloc (TmC 0 false 0)) (V.drew).heap.size 0 false 0)
      clear hHeld
      refine hK.out _ _ ?_ (fun hHeld => ?_)
      · exact keepM PX.out.1 PX.out.2.2 HBx.out
      clear hK K HBx
      try simp only [Act.put, List.setIfInBounds_toArray, List.set_cons_zero, List.set_cons_succ]
      replace G := Lib.hid (show HoldsM (V.alloc (TmC 0 false 0)).drew V.heap.size 0 false 0 from G.out)
      replace le := Nat.le_refl V.heap.size
      refine wpAnyH_ready (rs := [1]) (by kernel_rfl) (by simp) ?_
      refine AllReadyH.cons (o := { dst := some 87, op := Go.Op.call { callee := Go.Callee.value (Go.Operand.func 11), args := #[Go.Operand.tmp 86], argTypes := #[23] }, type := 3, pos := "law.go:49", after := #[{ on := 0, ground := Go.Ground.data }], guard := none }) rfl (fun K hK => ?_) AllReadyH.nil
      go_simp
      refine (HX.out _).mono ?_
      rintro e v1 ⟨rfl, hbv⟩
      have HBx := Lib.hid (bstep hHeld.2.2.2 hbv)
      replace G := Lib.hid (G.out.below hbv)
      clear hHeld hbv
      refine hK.out _ _ ?_ (fun hHeld => ?_)
      · exact keepM PX.out.1 PX.out.2.2 HBx.out
      clear hK K HBx
      try simp only [Act.put, List.setIfInBounds_toArray, List.set_cons_zero, List.set_cons_succ]
      refine wpAnyH_ready (rs := [3]) (by kernel_rfl) (by simp) ?_
      refine AllReadyH.cons (o := { dst := some 89, op := Go.Op.call { callee := Go.Callee.value (Go.Operand.func 12), args := #[Go.Operand.tmp 88], argTypes := #[23] }, type := 3, pos := "law.go:49", after := #[{ on := 2, ground := Go.Ground.data }, { on := 1, ground := Go.Ground.chain }], guard := none }) rfl (fun K hK => ?_) AllReadyH.nil
      go_simp
      refine (MX.out _).mono ?_
      rintro e v2 ⟨rfl, hbv⟩
      have HBx := Lib.hid (bstep hHeld.2.2.2 hbv)
      replace G := Lib.hid (G.out.below hbv)
      clear hHeld hbv
      refine hK.out _ _ ?_ (fun hHeld => ?_)
      · exact keepM PX.out.1 PX.out.2.2 HBx.out
      clear hK K HBx
      try simp only [Act.put, List.setIfInBounds_toArray, List.set_cons_zero, List.set_cons_succ]
      refine wpAnyH_ready (rs := [5]) (by kernel_rfl) (by simp) ?_
      refine AllReadyH.cons (o := { dst := some 91, op := Go.Op.call { callee := Go.Callee.value (Go.Operand.func 13), args := #[Go.Operand.tmp 90], argTypes := #[23] }, type := 3, pos := "law.go:49", after := #[{ on := 4, ground := Go.Ground.data }, { on := 3, ground := Go.Ground.chain }], guard := none }) rfl (fun K hK => ?_) AllReadyH.nil
      go_simp
      refine (SX.out _).mono ?_
      rintro e v3 ⟨rfl, hbv⟩
      have HBx := Lib.hid (bstep hHeld.2.2.2 hbv)
      replace G := Lib.hid (G.out.below hbv)
      clear hHeld hbv
      refine hK.out _ _ ?_ (fun hHeld => ?_)
      · exact keepM PX.out.1 PX.out.2.2 HBx.out
      clear hK K HBx
      try simp only [Act.put, List.setIfInBounds_toArray, List.set_cons_zero, List.set_cons_succ]
      refine wpAnyH_ready (rs := [6]) (by kernel_rfl) (by simp) ?_
      refine AllReadyH.cons (o := { dst := some 92, op := Go.Op.call { callee := Go.Callee.value (Go.Operand.func 10), args := #[Go.Operand.tmp 87, Go.Operand.tmp 89, Go.Operand.tmp 91], argTypes := #[3, 3, 3] }, type := 25, pos := "law.go:49", after := #[{ on := 1, ground := Go.Ground.data }, { on := 3, ground := Go.Ground.data }, { on := 5, ground := Go.Ground.data }, { on := 5, ground := Go.Ground.chain }], guard := none }) rfl (fun K hK => ?_) AllReadyH.nil
      go_simp
      refine (OX.out _).mono ?_
      rintro e v4 ⟨rfl, hbv⟩
      have HBx := Lib.hid (bstep hHeld.2.2.2 hbv)
      replace G := Lib.hid (G.out.below hbv)
      clear hHeld hbv
      refine hK.out _ _ ?_ (fun hHeld => ?_)
      · exact keepM PX.out.1 PX.out.2.2 HBx.out
      clear hK K HBx
      try simp only [Act.put, List.setIfInBounds_toArray, List.set_cons_zero, List.set_cons_succ]
      refine wpAnyH_take (i := 7) (oi := { dst := some 85, op := Go.Op.move (Go.Operand.tmp 92), type := 25, pos := "law.go:49", after := #[{ on := 6, ground := Go.Ground.data }], guard := none }) (v := ?_) rfl (by kernel_rfl) (by kernel_rfl) (by kernel_rfl) (fun _ _ _ h => h) (Or.inl ⟨by rfl, ?_⟩) (by assumption) ?_
      rotate_left
      · intro w hSw
        try dsimp only at hSw
        go_simp
        try with_reducible rfl
      try simp only [Act.put, List.setIfInBounds_toArray, List.set_cons_zero, List.set_cons_succ]
      refine wpAnyH_take (i := 8) (oi := { dst := some 93, op := Go.Op.extract (Go.Operand.tmp 85) 0, type := 23, pos := "law.go:49", after := #[{ on := 7, ground := Go.Ground.data }], guard := none }) (v := ?_) rfl (by kernel_rfl) (by kernel_rfl) (by kernel_rfl) (fun _ _ _ h => h) (Or.inl ⟨by rfl, ?_⟩) (by assumption) ?_
      rotate_left
      · intro w hSw
        try dsimp only at hSw
        go_simp
        try with_reducible rfl
      try simp only [Act.put, List.setIfInBounds_toArray, List.set_cons_zero, List.set_cons_succ]
      refine wpAnyH_take (i := 9) (oi := { dst := some 94, op := Go.Op.extract (Go.Operand.tmp 85) 1, type := 4, pos := "law.go:49", after := #[{ on := 7, ground := Go.Ground.data }, { on := 11, ground := Go.Ground.gcOnly Go.Departure.lateStores }], guard := none }) (v := ?_) rfl (by kernel_rfl) (by kernel_rfl) (by kernel_rfl) (fun _ _ _ h => h) (Or.inl ⟨by rfl, ?_⟩) (by assumption) ?_
      rotate_left
      · intro w hSw
        try dsimp only at hSw
        go_simp
        try with_reducible rfl
      try simp only [Act.put, List.setIfInBounds_toArray, List.set_cons_zero, List.set_cons_succ]
      obtain ⟨⟨a1, a2, a3⟩, ⟨a4, a5, a6⟩, a9⟩ := id G.out
      refine wpAnyH_ready (rs := [11]) (by kernel_rfl) (by simp) ?_
      refine AllReadyH.cons (o := { dst := none, op := Go.Op.store 23 (Go.Operand.tmp 13) (Go.Operand.tmp 93), type := 0, pos := "law.go:49", after := #[{ on := 10, ground := Go.Ground.data }, { on := 8, ground := Go.Ground.data }, { on := 6, ground := Go.Ground.chain }, { on := 0, ground := Go.Ground.phase }, { on := 1, ground := Go.Ground.phase }, { on := 2, ground := Go.Ground.phase }, { on := 3, ground := Go.Ground.phase }, { on := 4, ground := Go.Ground.phase }, { on := 5, ground := Go.Ground.phase }, { on := 6, ground := Go.Ground.phase }, { on := 7, ground := Go.Ground.phase }, { on := 8, ground := Go.Ground.phase }, { on := 9, ground := Go.Ground.textOnly Go.Departure.lateStores }, { on := 10, ground := Go.Ground.phase }], guard := none }) rfl (fun K hK => ?_) AllReadyH.nil
      go_simp
      clear a1 a2 a3 a4 a5 a6 a9
      have HBx := Lib.hid (B3 hHeld.2.2.2 le (.int .i64 X) (.bool false) (.int .i64 0))
      replace G := Lib.hid (G.out.put (s := X) (z := false) (o := 0))
      clear hHeld
      refine hK.out _ _ ?_ (fun hHeld => ?_)
      · exact keepM PX.out.1 PX.out.2.2 HBx.out
      clear hK K HBx
      try simp only [Act.put, List.setIfInBounds_toArray, List.set_cons_zero, List.set_cons_succ]
      refine wpAnyH_take (i := 12) (oi := { dst := some 14, op := Go.Op.assign (Go.Operand.tmp 94), type := 4, pos := "law.go:49", after := #[{ on := 9, ground := Go.Ground.data }, { on := 11, ground := Go.Ground.chain }, { on := 0, ground := Go.Ground.phase }, { on := 1, ground := Go.Ground.phase }, { on := 2, ground := Go.Ground.phase }, { on := 3, ground := Go.Ground.phase }, { on := 4, ground := Go.Ground.phase }, { on := 5, ground := Go.Ground.phase }, { on := 6, ground := Go.Ground.phase }, { on := 7, ground := Go.Ground.phase }, { on := 8, ground := Go.Ground.phase }, { on := 9, ground := Go.Ground.phase }, { on := 10, ground := Go.Ground.phase }, { on := 11, ground := Go.Ground.phase }], guard := none }) (v := ?_) rfl (by kernel_rfl) (by kernel_rfl) (by kernel_rfl) (fun _ _ _ h => h) (Or.inl ⟨by rfl, ?_⟩) (by assumption) ?_
      rotate_left
      · intro w hSw
        try dsimp only at hSw
        go_simp
        try with_reducible rfl
      try simp only [Act.put, List.setIfInBounds_toArray, List.set_cons_zero, List.set_cons_succ]
      refine wpAnyH_done (by kernel_rfl) ?_ _
      replace B := bstep B hHeld.2.2.2
      replace PX := Lib.hid (PX.out.below hHeld.2.2.2)
      clear hHeld
      obtain ⟨⟨a1, a2, a3⟩, -, a9⟩ := PX.out
      obtain ⟨⟨b1, b2, b3⟩, -, b9⟩ := G.out
      go_wp2
      go_ret
      exact ⟨rfl, B⟩
theorem clockParts_walk (h m s sec : Int) (w : World) : Calls Try.prog 4 #[.int .i64 h, .int .i64 m, .int .i64 s, .int .i64 sec] w (Ret (.bool true) w) := by
  obtain ⟨T, OF, hno, hyes⟩ := of_some h m s
  have X0 := Int.emod_nonneg sec (show (86400 : Int) ≠ 0 by decide)
  have X1 := Int.emod_lt_of_pos sec (show (0 : Int) < 86400 by decide)
  obtain ⟨k1, k2, k3⟩ := of_parts (sec % 86400) ⟨X0, X1⟩
  have OX := of_yes _ _ _ k1
  rw [k2] at OX
  exact parts_walk h m s sec T (sec % 86400) _ _ _ _ _ _ _ _ _ _ rfl rfl rfl rfl rfl rfl rfl OF hno
    (fun c => by have := hour_yes T false 0 (hyes c).1; rw [(hyes c).2.1] at this; exact this)
    (fun c => by have := minute_yes T false 0 (hyes c).1; rw [(hyes c).2.2.1] at this; exact this)
    (fun c => by have := second_yes T false 0 (hyes c).1; rw [(hyes c).2.2.2] at this; exact this)
    (makeM_any sec false 0) (hour_yes _ _ _ k3) (minute_yes _ _ _ k3) (second_yes _ _ _ k3) OX w
end Go.Proofs.Ytbllinbafpdgjaa

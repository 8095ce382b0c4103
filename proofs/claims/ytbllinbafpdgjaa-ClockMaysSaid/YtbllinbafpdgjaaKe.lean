/-
  The statement ClockMays, walked: it answers true.
-/
import Derived.Test.YtbllinbafpdgjaaKc
namespace Go.Proofs.Ytbllinbafpdgjaa
open Go.RowKit

/-- What At answers of any time. -/
theorem at_some (s : Int) (z : Bool) (o n : Int) : ∃ (cs : Int) (cz : Bool) (co : Int), (∀ w : World, Calls Try.prog 8 #[Tm s z o, .int .i64 n] w (Ret (.tuple #[Tm cs cz co, .bool (mayM s true n)]) w)) ∧ (mayM s true n = false → cs = 0 ∧ cz = false ∧ co = 0) ∧ (mayM s true n = true → cs = s ∧ cz = true ∧ co = n) := by
  cases h : mayM s true n
  · exact ⟨0, false, 0, at_no s z o n h, fun _ => ⟨rfl, rfl, rfl⟩, fun k => by cases k⟩
  · exact ⟨s, true, n, at_yes s z o n h, (fun k => by cases k), fun _ => ⟨rfl, rfl, rfl⟩⟩
set_option maxRecDepth 100000 in
set_option maxHeartbeats 40000000 in
theorem mays_walk (s : Int) (z : Bool) (o n cs : Int) (cz : Bool) (co : Int) (ok m p1 p2 p3 p4 p5 q3 q4 : Bool)
    (t1 : decide (0 ≤ s) = p1) (t2 : decide (s ≤ 86399) = p2) (t3 : decide (-64800 ≤ o) = p3) (t4 : decide (o ≤ 64800) = p4) (t5 : (o == 0) = p5) (t6 : decide (-64800 ≤ n) = q3) (t7 : decide (n ≤ 64800) = q4)
    (hm0 : m = (p1 && p2 && p3 && p4 && (z || p5))) (hok0 : ok = (p1 && p2 && q3 && q4))
    (MD0 : ∀ w : World, Calls Try.prog 9 #[Tm s z o] w (Ret (.bool m) w))
    (AT0 : ∀ w : World, Calls Try.prog 8 #[Tm s z o, .int .i64 n] w (Ret (.tuple #[Tm cs cz co, .bool ok]) w))
    (hno0 : ok = false → cs = 0 ∧ cz = false ∧ co = 0) (hyes0 : ok = true → cs = s ∧ cz = true ∧ co = n) (w : World) : Calls Try.prog 3 #[Tm s z o, .int .i64 n] w (Ret (.bool true) w) := by
  have AW := Lib.hid awake7
  have MD := Lib.hid MD0
  have AT := Lib.hid AT0
  have hno := Lib.hid hno0
  have hyes := Lib.hid hyes0
  have hm := Lib.hid hm0
  have hok := Lib.hid hok0
  clear MD0 AT0 hno0 hyes0 hm0 hok0
  go_enter Try.func3, Try.ntmps3
  go_upto_region 1 with fail
  have PT := Lib.hid (HoldsM.new rfl : HoldsM (w.alloc (TmC s z o)) w.heap.size s z o)
  have B : Below w.heap.size w (w.alloc (TmC s z o)) := by go_grown
  change Code.wp _ _ _ _ (w.alloc (TmC s z o))
  generalize w.alloc (TmC s z o) = w0 at *
  obtain ⟨gt, hg⟩ : ∃ g, g = w.heap.size := ⟨_, rfl⟩
  rw [← hg] at PT ⊢
  clear hg
  obtain ⟨⟨c01, c02, c03⟩, -, c09⟩ := PT.out
  go_wp2_with fail
  refine (AW.out _).mono ?_
  rintro e w1 ⟨rfl, hb⟩
  replace PT := Lib.hid (PT.out.below hb)
  replace B := bstep B hb
  clear hb AW
  clear c01 c02 c03 c09
  cases p1
  · have ok0 : ok = false := by simpa using hok.out
    have m0 : m = false := by simpa using hm.out
    subst ok0 m0
    obtain ⟨rfl, rfl, rfl⟩ := hno.out rfl
    obtain ⟨⟨c01, c02, c03⟩, -, c09⟩ := PT.out
    clear hok hm hyes hno
    go_wp2_with fail
    refine (AT.out _).mono ?_
    rintro e w2 ⟨rfl, hb⟩
    replace PT := Lib.hid (PT.out.below hb)
    replace B := bstep B hb
    clear hb AT c01 c02 c03 c09
    replace PT := Lib.hid (PT.out.alloc (TmC 0 false 0))
    have PA := Lib.hid (HoldsM.new rfl : HoldsM (w2.alloc (TmC 0 false 0)) w2.heap.size 0 false 0)
    replace B := ballD1 B (TmC 0 false 0)
    go_upto_region 5 with fail
    change Code.wp _ _ _ _ (w2.alloc (TmC 0 false 0))
    generalize w2.alloc (TmC 0 false 0) = w3 at *
    obtain ⟨gPA, hg⟩ : ∃ g, g = w2.heap.size := ⟨_, rfl⟩
    rw [← hg] at PA ⊢
    clear hg
    obtain ⟨⟨c01, c02, c03⟩, -, c09⟩ := PT.out
    obtain ⟨⟨c11, c12, c13⟩, -, c19⟩ := PA.out
    go_wp2_with fail
    refine (MD.out _).mono ?_
    rintro e w4 ⟨rfl, hb⟩
    replace PT := Lib.hid (PT.out.below hb)
    replace PA := Lib.hid (PA.out.below hb)
    replace B := bstep B hb
    clear hb MD
    clear c01 c02 c03 c09 c11 c12 c13 c19
    obtain ⟨⟨c01, c02, c03⟩, -, c09⟩ := PT.out
    obtain ⟨⟨c11, c12, c13⟩, -, c19⟩ := PA.out
    go_wp2
    go_ret
    exact ⟨rfl, B⟩
  · cases p2
    · have ok0 : ok = false := by simpa using hok.out
      have m0 : m = false := by simpa using hm.out
      subst ok0 m0
      obtain ⟨rfl, rfl, rfl⟩ := hno.out rfl
      obtain ⟨⟨c01, c02, c03⟩, -, c09⟩ := PT.out
      clear hok hm hyes hno
      go_wp2_with fail
      refine (AT.out _).mono ?_
      rintro e w2 ⟨rfl, hb⟩
      replace PT := Lib.hid (PT.out.below hb)
      replace B := bstep B hb
      clear hb AT c01 c02 c03 c09
      replace PT := Lib.hid (PT.out.alloc (TmC 0 false 0))
      have PA := Lib.hid (HoldsM.new rfl : HoldsM (w2.alloc (TmC 0 false 0)) w2.heap.size 0 false 0)
      replace B := ballD1 B (TmC 0 false 0)
      go_upto_region 5 with fail
      change Code.wp _ _ _ _ (w2.alloc (TmC 0 false 0))
      generalize w2.alloc (TmC 0 false 0) = w3 at *
      obtain ⟨gPA, hg⟩ : ∃ g, g = w2.heap.size := ⟨_, rfl⟩
      rw [← hg] at PA ⊢
      clear hg
      obtain ⟨⟨c01, c02, c03⟩, -, c09⟩ := PT.out
      obtain ⟨⟨c11, c12, c13⟩, -, c19⟩ := PA.out
      go_wp2_with fail
      refine (MD.out _).mono ?_
      rintro e w4 ⟨rfl, hb⟩
      replace PT := Lib.hid (PT.out.below hb)
      replace PA := Lib.hid (PA.out.below hb)
      replace B := bstep B hb
      clear hb MD
      clear c01 c02 c03 c09 c11 c12 c13 c19
      obtain ⟨⟨c01, c02, c03⟩, -, c09⟩ := PT.out
      obtain ⟨⟨c11, c12, c13⟩, -, c19⟩ := PA.out
      go_wp2
      go_ret
      exact ⟨rfl, B⟩
    · cases p3
      · cases q3
        · have ok0 : ok = false := by simpa using hok.out
          have m0 : m = false := by simpa using hm.out
          subst ok0 m0
          obtain ⟨rfl, rfl, rfl⟩ := hno.out rfl
          obtain ⟨⟨c01, c02, c03⟩, -, c09⟩ := PT.out
          clear hok hm hyes hno
          go_wp2_with fail
          refine (AT.out _).mono ?_
          rintro e w2 ⟨rfl, hb⟩
          replace PT := Lib.hid (PT.out.below hb)
          replace B := bstep B hb
          clear hb AT c01 c02 c03 c09
          replace PT := Lib.hid (PT.out.alloc (TmC 0 false 0))
          have PA := Lib.hid (HoldsM.new rfl : HoldsM (w2.alloc (TmC 0 false 0)) w2.heap.size 0 false 0)
          replace B := ballD1 B (TmC 0 false 0)
          go_upto_region 5 with fail
          change Code.wp _ _ _ _ (w2.alloc (TmC 0 false 0))
          generalize w2.alloc (TmC 0 false 0) = w3 at *
          obtain ⟨gPA, hg⟩ : ∃ g, g = w2.heap.size := ⟨_, rfl⟩
          rw [← hg] at PA ⊢
          clear hg
          obtain ⟨⟨c01, c02, c03⟩, -, c09⟩ := PT.out
          obtain ⟨⟨c11, c12, c13⟩, -, c19⟩ := PA.out
          go_wp2_with fail
          refine (MD.out _).mono ?_
          rintro e w4 ⟨rfl, hb⟩
          replace PT := Lib.hid (PT.out.below hb)
          replace PA := Lib.hid (PA.out.below hb)
          replace B := bstep B hb
          clear hb MD
          clear c01 c02 c03 c09 c11 c12 c13 c19
          obtain ⟨⟨c01, c02, c03⟩, -, c09⟩ := PT.out
          obtain ⟨⟨c11, c12, c13⟩, -, c19⟩ := PA.out
          go_wp2
          go_ret
          exact ⟨rfl, B⟩
        · cases q4
          · have ok0 : ok = false := by simpa using hok.out
            have m0 : m = false := by simpa using hm.out
            subst ok0 m0
            obtain ⟨rfl, rfl, rfl⟩ := hno.out rfl
            obtain ⟨⟨c01, c02, c03⟩, -, c09⟩ := PT.out
            clear hok hm hyes hno
            go_wp2_with fail
            refine (AT.out _).mono ?_
            rintro e w2 ⟨rfl, hb⟩
            replace PT := Lib.hid (PT.out.below hb)
            replace B := bstep B hb
            clear hb AT c01 c02 c03 c09
            replace PT := Lib.hid (PT.out.alloc (TmC 0 false 0))
            have PA := Lib.hid (HoldsM.new rfl : HoldsM (w2.alloc (TmC 0 false 0)) w2.heap.size 0 false 0)
            replace B := ballD1 B (TmC 0 false 0)
            go_upto_region 5 with fail
            change Code.wp _ _ _ _ (w2.alloc (TmC 0 false 0))
            generalize w2.alloc (TmC 0 false 0) = w3 at *
            obtain ⟨gPA, hg⟩ : ∃ g, g = w2.heap.size := ⟨_, rfl⟩
            rw [← hg] at PA ⊢
            clear hg
            obtain ⟨⟨c01, c02, c03⟩, -, c09⟩ := PT.out
            obtain ⟨⟨c11, c12, c13⟩, -, c19⟩ := PA.out
            go_wp2_with fail
            refine (MD.out _).mono ?_
            rintro e w4 ⟨rfl, hb⟩
            replace PT := Lib.hid (PT.out.below hb)
            replace PA := Lib.hid (PA.out.below hb)
            replace B := bstep B hb
            clear hb MD
            clear c01 c02 c03 c09 c11 c12 c13 c19
            obtain ⟨⟨c01, c02, c03⟩, -, c09⟩ := PT.out
            obtain ⟨⟨c11, c12, c13⟩, -, c19⟩ := PA.out
            go_wp2
            go_ret
            exact ⟨rfl, B⟩
          · have ok0 : ok = true := by simpa using hok.out
            have m0 : m = false := by simpa using hm.out
            subst ok0 m0
            obtain ⟨rfl, rfl, rfl⟩ := hyes.out rfl
            obtain ⟨⟨c01, c02, c03⟩, -, c09⟩ := PT.out
            clear hok hm hyes hno
            go_wp2_with fail
            refine (AT.out _).mono ?_
            rintro e w2 ⟨rfl, hb⟩
            replace PT := Lib.hid (PT.out.below hb)
            replace B := bstep B hb
            clear hb AT c01 c02 c03 c09
            replace PT := Lib.hid (PT.out.alloc (TmC cs true co))
            have PA := Lib.hid (HoldsM.new rfl : HoldsM (w2.alloc (TmC cs true co)) w2.heap.size cs true co)
            replace B := ballD1 B (TmC cs true co)
            go_upto_region 5 with fail
            change Code.wp _ _ _ _ (w2.alloc (TmC cs true co))
            generalize w2.alloc (TmC cs true co) = w3 at *
            obtain ⟨gPA, hg⟩ : ∃ g, g = w2.heap.size := ⟨_, rfl⟩
            rw [← hg] at PA ⊢
            clear hg
            obtain ⟨⟨c01, c02, c03⟩, -, c09⟩ := PT.out
            obtain ⟨⟨c11, c12, c13⟩, -, c19⟩ := PA.out
            go_wp2_with fail
            refine (MD.out _).mono ?_
            rintro e w4 ⟨rfl, hb⟩
            replace PT := Lib.hid (PT.out.below hb)
            replace PA := Lib.hid (PA.out.below hb)
            replace B := bstep B hb
            clear hb MD
            clear c01 c02 c03 c09 c11 c12 c13 c19
            obtain ⟨⟨c01, c02, c03⟩, -, c09⟩ := PT.out
            obtain ⟨⟨c11, c12, c13⟩, -, c19⟩ := PA.out
            go_wp2
            go_ret
            exact ⟨rfl, B⟩
      · cases p4
        · cases q3
          · have ok0 : ok = false := by simpa using hok.out
            have m0 : m = false := by simpa using hm.out
            subst ok0 m0
            obtain ⟨rfl, rfl, rfl⟩ := hno.out rfl
            obtain ⟨⟨c01, c02, c03⟩, -, c09⟩ := PT.out
            clear hok hm hyes hno
            go_wp2_with fail
            refine (AT.out _).mono ?_
            rintro e w2 ⟨rfl, hb⟩
            replace PT := Lib.hid (PT.out.below hb)
            replace B := bstep B hb
            clear hb AT c01 c02 c03 c09
            replace PT := Lib.hid (PT.out.alloc (TmC 0 false 0))
            have PA := Lib.hid (HoldsM.new rfl : HoldsM (w2.alloc (TmC 0 false 0)) w2.heap.size 0 false 0)
            replace B := ballD1 B (TmC 0 false 0)
            go_upto_region 5 with fail
            change Code.wp _ _ _ _ (w2.alloc (TmC 0 false 0))
            generalize w2.alloc (TmC 0 false 0) = w3 at *
            obtain ⟨gPA, hg⟩ : ∃ g, g = w2.heap.size := ⟨_, rfl⟩
            rw [← hg] at PA ⊢
            clear hg
            obtain ⟨⟨c01, c02, c03⟩, -, c09⟩ := PT.out
            obtain ⟨⟨c11, c12, c13⟩, -, c19⟩ := PA.out
            go_wp2_with fail
            refine (MD.out _).mono ?_
            rintro e w4 ⟨rfl, hb⟩
            replace PT := Lib.hid (PT.out.below hb)
            replace PA := Lib.hid (PA.out.below hb)
            replace B := bstep B hb
            clear hb MD
            clear c01 c02 c03 c09 c11 c12 c13 c19
            obtain ⟨⟨c01, c02, c03⟩, -, c09⟩ := PT.out
            obtain ⟨⟨c11, c12, c13⟩, -, c19⟩ := PA.out
            go_wp2
            go_ret
            exact ⟨rfl, B⟩
          · cases q4
            · have ok0 : ok = false := by simpa using hok.out
              have m0 : m = false := by simpa using hm.out
              subst ok0 m0
              obtain ⟨rfl, rfl, rfl⟩ := hno.out rfl
              obtain ⟨⟨c01, c02, c03⟩, -, c09⟩ := PT.out
              clear hok hm hyes hno
              go_wp2_with fail
              refine (AT.out _).mono ?_
              rintro e w2 ⟨rfl, hb⟩
              replace PT := Lib.hid (PT.out.below hb)
              replace B := bstep B hb
              clear hb AT c01 c02 c03 c09
              replace PT := Lib.hid (PT.out.alloc (TmC 0 false 0))
              have PA := Lib.hid (HoldsM.new rfl : HoldsM (w2.alloc (TmC 0 false 0)) w2.heap.size 0 false 0)
              replace B := ballD1 B (TmC 0 false 0)
              go_upto_region 5 with fail
              change Code.wp _ _ _ _ (w2.alloc (TmC 0 false 0))
              generalize w2.alloc (TmC 0 false 0) = w3 at *
              obtain ⟨gPA, hg⟩ : ∃ g, g = w2.heap.size := ⟨_, rfl⟩
              rw [← hg] at PA ⊢
              clear hg
              obtain ⟨⟨c01, c02, c03⟩, -, c09⟩ := PT.out
              obtain ⟨⟨c11, c12, c13⟩, -, c19⟩ := PA.out
              go_wp2_with fail
              refine (MD.out _).mono ?_
              rintro e w4 ⟨rfl, hb⟩
              replace PT := Lib.hid (PT.out.below hb)
              replace PA := Lib.hid (PA.out.below hb)
              replace B := bstep B hb
              clear hb MD
              clear c01 c02 c03 c09 c11 c12 c13 c19
              obtain ⟨⟨c01, c02, c03⟩, -, c09⟩ := PT.out
              obtain ⟨⟨c11, c12, c13⟩, -, c19⟩ := PA.out
              go_wp2
              go_ret
              exact ⟨rfl, B⟩
            · have ok0 : ok = true := by simpa using hok.out
              have m0 : m = false := by simpa using hm.out
              subst ok0 m0
              obtain ⟨rfl, rfl, rfl⟩ := hyes.out rfl
              obtain ⟨⟨c01, c02, c03⟩, -, c09⟩ := PT.out
              clear hok hm hyes hno
              go_wp2_with fail
              refine (AT.out _).mono ?_
              rintro e w2 ⟨rfl, hb⟩
              replace PT := Lib.hid (PT.out.below hb)
              replace B := bstep B hb
              clear hb AT c01 c02 c03 c09
              replace PT := Lib.hid (PT.out.alloc (TmC cs true co))
              have PA := Lib.hid (HoldsM.new rfl : HoldsM (w2.alloc (TmC cs true co)) w2.heap.size cs true co)
              replace B := ballD1 B (TmC cs true co)
              go_upto_region 5 with fail
              change Code.wp _ _ _ _ (w2.alloc (TmC cs true co))
              generalize w2.alloc (TmC cs true co) = w3 at *
              obtain ⟨gPA, hg⟩ : ∃ g, g = w2.heap.size := ⟨_, rfl⟩
              rw [← hg] at PA ⊢
              clear hg
              obtain ⟨⟨c01, c02, c03⟩, -, c09⟩ := PT.out
              obtain ⟨⟨c11, c12, c13⟩, -, c19⟩ := PA.out
              go_wp2_with fail
              refine (MD.out _).mono ?_
              rintro e w4 ⟨rfl, hb⟩
              replace PT := Lib.hid (PT.out.below hb)
              replace PA := Lib.hid (PA.out.below hb)
              replace B := bstep B hb
              clear hb MD
              clear c01 c02 c03 c09 c11 c12 c13 c19
              obtain ⟨⟨c01, c02, c03⟩, -, c09⟩ := PT.out
              obtain ⟨⟨c11, c12, c13⟩, -, c19⟩ := PA.out
              go_wp2
              go_ret
              exact ⟨rfl, B⟩
        · cases z
          · cases p5
            · cases q3
              · have ok0 : ok = false := by simpa using hok.out
                have m0 : m = false := by simpa using hm.out
                subst ok0 m0
                obtain ⟨rfl, rfl, rfl⟩ := hno.out rfl
                obtain ⟨⟨c01, c02, c03⟩, -, c09⟩ := PT.out
                clear hok hm hyes hno
                go_wp2_with fail
                refine (AT.out _).mono ?_
                rintro e w2 ⟨rfl, hb⟩
                replace PT := Lib.hid (PT.out.below hb)
                replace B := bstep B hb
                clear hb AT c01 c02 c03 c09
                replace PT := Lib.hid (PT.out.alloc (TmC 0 false 0))
                have PA := Lib.hid (HoldsM.new rfl : HoldsM (w2.alloc (TmC 0 false 0)) w2.heap.size 0 false 0)
                replace B := ballD1 B (TmC 0 false 0)
                go_upto_region 5 with fail
                change Code.wp _ _ _ _ (w2.alloc (TmC 0 false 0))
                generalize w2.alloc (TmC 0 false 0) = w3 at *
                obtain ⟨gPA, hg⟩ : ∃ g, g = w2.heap.size := ⟨_, rfl⟩
                rw [← hg] at PA ⊢
                clear hg
                obtain ⟨⟨c01, c02, c03⟩, -, c09⟩ := PT.out
                obtain ⟨⟨c11, c12, c13⟩, -, c19⟩ := PA.out
                go_wp2_with fail
                refine (MD.out _).mono ?_
                rintro e w4 ⟨rfl, hb⟩
                replace PT := Lib.hid (PT.out.below hb)
                replace PA := Lib.hid (PA.out.below hb)
                replace B := bstep B hb
                clear hb MD
                clear c01 c02 c03 c09 c11 c12 c13 c19
                obtain ⟨⟨c01, c02, c03⟩, -, c09⟩ := PT.out
                obtain ⟨⟨c11, c12, c13⟩, -, c19⟩ := PA.out
                go_wp2
                go_ret
                exact ⟨rfl, B⟩
              · cases q4
                · have ok0 : ok = false := by simpa using hok.out
                  have m0 : m = false := by simpa using hm.out
                  subst ok0 m0
                  obtain ⟨rfl, rfl, rfl⟩ := hno.out rfl
                  obtain ⟨⟨c01, c02, c03⟩, -, c09⟩ := PT.out
                  clear hok hm hyes hno
                  go_wp2_with fail
                  refine (AT.out _).mono ?_
                  rintro e w2 ⟨rfl, hb⟩
                  replace PT := Lib.hid (PT.out.below hb)
                  replace B := bstep B hb
                  clear hb AT c01 c02 c03 c09
                  replace PT := Lib.hid (PT.out.alloc (TmC 0 false 0))
                  have PA := Lib.hid (HoldsM.new rfl : HoldsM (w2.alloc (TmC 0 false 0)) w2.heap.size 0 false 0)
                  replace B := ballD1 B (TmC 0 false 0)
                  go_upto_region 5 with fail
                  change Code.wp _ _ _ _ (w2.alloc (TmC 0 false 0))
                  generalize w2.alloc (TmC 0 false 0) = w3 at *
                  obtain ⟨gPA, hg⟩ : ∃ g, g = w2.heap.size := ⟨_, rfl⟩
                  rw [← hg] at PA ⊢
                  clear hg
                  obtain ⟨⟨c01, c02, c03⟩, -, c09⟩ := PT.out
                  obtain ⟨⟨c11, c12, c13⟩, -, c19⟩ := PA.out
                  go_wp2_with fail
                  refine (MD.out _).mono ?_
                  rintro e w4 ⟨rfl, hb⟩
                  replace PT := Lib.hid (PT.out.below hb)
                  replace PA := Lib.hid (PA.out.below hb)
                  replace B := bstep B hb
                  clear hb MD
                  clear c01 c02 c03 c09 c11 c12 c13 c19
                  obtain ⟨⟨c01, c02, c03⟩, -, c09⟩ := PT.out
                  obtain ⟨⟨c11, c12, c13⟩, -, c19⟩ := PA.out
                  go_wp2
                  go_ret
                  exact ⟨rfl, B⟩
                · have ok0 : ok = true := by simpa using hok.out
                  have m0 : m = false := by simpa using hm.out
                  subst ok0 m0
                  obtain ⟨rfl, rfl, rfl⟩ := hyes.out rfl
                  obtain ⟨⟨c01, c02, c03⟩, -, c09⟩ := PT.out
                  clear hok hm hyes hno
                  go_wp2_with fail
                  refine (AT.out _).mono ?_
                  rintro e w2 ⟨rfl, hb⟩
                  replace PT := Lib.hid (PT.out.below hb)
                  replace B := bstep B hb
                  clear hb AT c01 c02 c03 c09
                  replace PT := Lib.hid (PT.out.alloc (TmC cs true co))
                  have PA := Lib.hid (HoldsM.new rfl : HoldsM (w2.alloc (TmC cs true co)) w2.heap.size cs true co)
                  replace B := ballD1 B (TmC cs true co)
                  go_upto_region 5 with fail
                  change Code.wp _ _ _ _ (w2.alloc (TmC cs true co))
                  generalize w2.alloc (TmC cs true co) = w3 at *
                  obtain ⟨gPA, hg⟩ : ∃ g, g = w2.heap.size := ⟨_, rfl⟩
                  rw [← hg] at PA ⊢
                  clear hg
                  obtain ⟨⟨c01, c02, c03⟩, -, c09⟩ := PT.out
                  obtain ⟨⟨c11, c12, c13⟩, -, c19⟩ := PA.out
                  go_wp2_with fail
                  refine (MD.out _).mono ?_
                  rintro e w4 ⟨rfl, hb⟩
                  replace PT := Lib.hid (PT.out.below hb)
                  replace PA := Lib.hid (PA.out.below hb)
                  replace B := bstep B hb
                  clear hb MD
                  clear c01 c02 c03 c09 c11 c12 c13 c19
                  obtain ⟨⟨c01, c02, c03⟩, -, c09⟩ := PT.out
                  obtain ⟨⟨c11, c12, c13⟩, -, c19⟩ := PA.out
                  go_wp2
                  go_ret
                  exact ⟨rfl, B⟩
            · cases q3
              · have ok0 : ok = false := by simpa using hok.out
                have m0 : m = true := by simpa using hm.out
                subst ok0 m0
                obtain ⟨rfl, rfl, rfl⟩ := hno.out rfl
                obtain ⟨⟨c01, c02, c03⟩, -, c09⟩ := PT.out
                clear hok hm hyes hno
                go_wp2_with fail
                refine (AT.out _).mono ?_
                rintro e w2 ⟨rfl, hb⟩
                replace PT := Lib.hid (PT.out.below hb)
                replace B := bstep B hb
                clear hb AT c01 c02 c03 c09
                replace PT := Lib.hid (PT.out.alloc (TmC 0 false 0))
                have PA := Lib.hid (HoldsM.new rfl : HoldsM (w2.alloc (TmC 0 false 0)) w2.heap.size 0 false 0)
                replace B := ballD1 B (TmC 0 false 0)
                go_upto_region 5 with fail
                change Code.wp _ _ _ _ (w2.alloc (TmC 0 false 0))
                generalize w2.alloc (TmC 0 false 0) = w3 at *
                obtain ⟨gPA, hg⟩ : ∃ g, g = w2.heap.size := ⟨_, rfl⟩
                rw [← hg] at PA ⊢
                clear hg
                obtain ⟨⟨c01, c02, c03⟩, -, c09⟩ := PT.out
                obtain ⟨⟨c11, c12, c13⟩, -, c19⟩ := PA.out
                go_wp2_with fail
                refine (MD.out _).mono ?_
                rintro e w4 ⟨rfl, hb⟩
                replace PT := Lib.hid (PT.out.below hb)
                replace PA := Lib.hid (PA.out.below hb)
                replace B := bstep B hb
                clear hb MD
                clear c01 c02 c03 c09 c11 c12 c13 c19
                obtain ⟨⟨c01, c02, c03⟩, -, c09⟩ := PT.out
                obtain ⟨⟨c11, c12, c13⟩, -, c19⟩ := PA.out
                go_wp2
                go_ret
                exact ⟨rfl, B⟩
              · cases q4
                · have ok0 : ok = false := by simpa using hok.out
                  have m0 : m = true := by simpa using hm.out
                  subst ok0 m0
                  obtain ⟨rfl, rfl, rfl⟩ := hno.out rfl
                  obtain ⟨⟨c01, c02, c03⟩, -, c09⟩ := PT.out
                  clear hok hm hyes hno
                  go_wp2_with fail
                  refine (AT.out _).mono ?_
                  rintro e w2 ⟨rfl, hb⟩
                  replace PT := Lib.hid (PT.out.below hb)
                  replace B := bstep B hb
                  clear hb AT c01 c02 c03 c09
                  replace PT := Lib.hid (PT.out.alloc (TmC 0 false 0))
                  have PA := Lib.hid (HoldsM.new rfl : HoldsM (w2.alloc (TmC 0 false 0)) w2.heap.size 0 false 0)
                  replace B := ballD1 B (TmC 0 false 0)
                  go_upto_region 5 with fail
                  change Code.wp _ _ _ _ (w2.alloc (TmC 0 false 0))
                  generalize w2.alloc (TmC 0 false 0) = w3 at *
                  obtain ⟨gPA, hg⟩ : ∃ g, g = w2.heap.size := ⟨_, rfl⟩
                  rw [← hg] at PA ⊢
                  clear hg
                  obtain ⟨⟨c01, c02, c03⟩, -, c09⟩ := PT.out
                  obtain ⟨⟨c11, c12, c13⟩, -, c19⟩ := PA.out
                  go_wp2_with fail
                  refine (MD.out _).mono ?_
                  rintro e w4 ⟨rfl, hb⟩
                  replace PT := Lib.hid (PT.out.below hb)
                  replace PA := Lib.hid (PA.out.below hb)
                  replace B := bstep B hb
                  clear hb MD
                  clear c01 c02 c03 c09 c11 c12 c13 c19
                  obtain ⟨⟨c01, c02, c03⟩, -, c09⟩ := PT.out
                  obtain ⟨⟨c11, c12, c13⟩, -, c19⟩ := PA.out
                  go_wp2
                  go_ret
                  exact ⟨rfl, B⟩
                · have ok0 : ok = true := by simpa using hok.out
                  have m0 : m = true := by simpa using hm.out
                  subst ok0 m0
                  obtain ⟨rfl, rfl, rfl⟩ := hyes.out rfl
                  obtain ⟨⟨c01, c02, c03⟩, -, c09⟩ := PT.out
                  clear hok hm hyes hno
                  go_wp2_with fail
                  refine (AT.out _).mono ?_
                  rintro e w2 ⟨rfl, hb⟩
                  replace PT := Lib.hid (PT.out.below hb)
                  replace B := bstep B hb
                  clear hb AT c01 c02 c03 c09
                  replace PT := Lib.hid (PT.out.alloc (TmC cs true co))
                  have PA := Lib.hid (HoldsM.new rfl : HoldsM (w2.alloc (TmC cs true co)) w2.heap.size cs true co)
                  replace B := ballD1 B (TmC cs true co)
                  go_upto_region 5 with fail
                  change Code.wp _ _ _ _ (w2.alloc (TmC cs true co))
                  generalize w2.alloc (TmC cs true co) = w3 at *
                  obtain ⟨gPA, hg⟩ : ∃ g, g = w2.heap.size := ⟨_, rfl⟩
                  rw [← hg] at PA ⊢
                  clear hg
                  obtain ⟨⟨c01, c02, c03⟩, -, c09⟩ := PT.out
                  obtain ⟨⟨c11, c12, c13⟩, -, c19⟩ := PA.out
                  go_wp2_with fail
                  refine (MD.out _).mono ?_
                  rintro e w4 ⟨rfl, hb⟩
                  replace PT := Lib.hid (PT.out.below hb)
                  replace PA := Lib.hid (PA.out.below hb)
                  replace B := bstep B hb
                  clear hb MD
                  clear c01 c02 c03 c09 c11 c12 c13 c19
                  obtain ⟨⟨c01, c02, c03⟩, -, c09⟩ := PT.out
                  obtain ⟨⟨c11, c12, c13⟩, -, c19⟩ := PA.out
                  go_wp2
                  go_ret
                  exact ⟨rfl, B⟩
          · cases q3
            · have ok0 : ok = false := by simpa using hok.out
              have m0 : m = true := by simpa using hm.out
              subst ok0 m0
              obtain ⟨rfl, rfl, rfl⟩ := hno.out rfl
              obtain ⟨⟨c01, c02, c03⟩, -, c09⟩ := PT.out
              clear hok hm hyes hno
              go_wp2_with fail
              refine (AT.out _).mono ?_
              rintro e w2 ⟨rfl, hb⟩
              replace PT := Lib.hid (PT.out.below hb)
              replace B := bstep B hb
              clear hb AT c01 c02 c03 c09
              replace PT := Lib.hid (PT.out.alloc (TmC 0 false 0))
              have PA := Lib.hid (HoldsM.new rfl : HoldsM (w2.alloc (TmC 0 false 0)) w2.heap.size 0 false 0)
              replace B := ballD1 B (TmC 0 false 0)
              go_upto_region 5 with fail
              change Code.wp _ _ _ _ (w2.alloc (TmC 0 false 0))
              generalize w2.alloc (TmC 0 false 0) = w3 at *
              obtain ⟨gPA, hg⟩ : ∃ g, g = w2.heap.size := ⟨_, rfl⟩
              rw [← hg] at PA ⊢
              clear hg
              obtain ⟨⟨c01, c02, c03⟩, -, c09⟩ := PT.out
              obtain ⟨⟨c11, c12, c13⟩, -, c19⟩ := PA.out
              go_wp2_with fail
              refine (MD.out _).mono ?_
              rintro e w4 ⟨rfl, hb⟩
              replace PT := Lib.hid (PT.out.below hb)
              replace PA := Lib.hid (PA.out.below hb)
              replace B := bstep B hb
              clear hb MD
              clear c01 c02 c03 c09 c11 c12 c13 c19
              obtain ⟨⟨c01, c02, c03⟩, -, c09⟩ := PT.out
              obtain ⟨⟨c11, c12, c13⟩, -, c19⟩ := PA.out
              go_wp2
              go_ret
              exact ⟨rfl, B⟩
            · cases q4
              · have ok0 : ok = false := by simpa using hok.out
                have m0 : m = true := by simpa using hm.out
                subst ok0 m0
                obtain ⟨rfl, rfl, rfl⟩ := hno.out rfl
                obtain ⟨⟨c01, c02, c03⟩, -, c09⟩ := PT.out
                clear hok hm hyes hno
                go_wp2_with fail
                refine (AT.out _).mono ?_
                rintro e w2 ⟨rfl, hb⟩
                replace PT := Lib.hid (PT.out.below hb)
                replace B := bstep B hb
                clear hb AT c01 c02 c03 c09
                replace PT := Lib.hid (PT.out.alloc (TmC 0 false 0))
                have PA := Lib.hid (HoldsM.new rfl : HoldsM (w2.alloc (TmC 0 false 0)) w2.heap.size 0 false 0)
                replace B := ballD1 B (TmC 0 false 0)
                go_upto_region 5 with fail
                change Code.wp _ _ _ _ (w2.alloc (TmC 0 false 0))
                generalize w2.alloc (TmC 0 false 0) = w3 at *
                obtain ⟨gPA, hg⟩ : ∃ g, g = w2.heap.size := ⟨_, rfl⟩
                rw [← hg] at PA ⊢
                clear hg
                obtain ⟨⟨c01, c02, c03⟩, -, c09⟩ := PT.out
                obtain ⟨⟨c11, c12, c13⟩, -, c19⟩ := PA.out
                go_wp2_with fail
                refine (MD.out _).mono ?_
                rintro e w4 ⟨rfl, hb⟩
                replace PT := Lib.hid (PT.out.below hb)
                replace PA := Lib.hid (PA.out.below hb)
                replace B := bstep B hb
                clear hb MD
                clear c01 c02 c03 c09 c11 c12 c13 c19
                obtain ⟨⟨c01, c02, c03⟩, -, c09⟩ := PT.out
                obtain ⟨⟨c11, c12, c13⟩, -, c19⟩ := PA.out
                go_wp2
                go_ret
                exact ⟨rfl, B⟩
              · have ok0 : ok = true := by simpa using hok.out
                have m0 : m = true := by simpa using hm.out
                subst ok0 m0
                obtain ⟨rfl, rfl, rfl⟩ := hyes.out rfl
                obtain ⟨⟨c01, c02, c03⟩, -, c09⟩ := PT.out
                clear hok hm hyes hno
                go_wp2_with fail
                refine (AT.out _).mono ?_
                rintro e w2 ⟨rfl, hb⟩
                replace PT := Lib.hid (PT.out.below hb)
                replace B := bstep B hb
                clear hb AT c01 c02 c03 c09
                replace PT := Lib.hid (PT.out.alloc (TmC cs true co))
                have PA := Lib.hid (HoldsM.new rfl : HoldsM (w2.alloc (TmC cs true co)) w2.heap.size cs true co)
                replace B := ballD1 B (TmC cs true co)
                go_upto_region 5 with fail
                change Code.wp _ _ _ _ (w2.alloc (TmC cs true co))
                generalize w2.alloc (TmC cs true co) = w3 at *
                obtain ⟨gPA, hg⟩ : ∃ g, g = w2.heap.size := ⟨_, rfl⟩
                rw [← hg] at PA ⊢
                clear hg
                obtain ⟨⟨c01, c02, c03⟩, -, c09⟩ := PT.out
                obtain ⟨⟨c11, c12, c13⟩, -, c19⟩ := PA.out
                go_wp2_with fail
                refine (MD.out _).mono ?_
                rintro e w4 ⟨rfl, hb⟩
                replace PT := Lib.hid (PT.out.below hb)
                replace PA := Lib.hid (PA.out.below hb)
                replace B := bstep B hb
                clear hb MD
                clear c01 c02 c03 c09 c11 c12 c13 c19
                obtain ⟨⟨c01, c02, c03⟩, -, c09⟩ := PT.out
                obtain ⟨⟨c11, c12, c13⟩, -, c19⟩ := PA.out
                go_wp2
                go_ret
                exact ⟨rfl, B⟩
theorem clockMays_walk (s : Int) (z : Bool) (o n : Int) (w : World) : Calls Try.prog 3 #[Tm s z o, .int .i64 n] w (Ret (.bool true) w) := by
  obtain ⟨cs, cz, co, AT, hno, hyes⟩ := at_some s z o n
  exact mays_walk s z o n cs cz co _ _ _ _ _ _ _ _ _ rfl rfl rfl rfl rfl rfl rfl rfl (by unfold mayM; simp) (may_any s z o) AT hno hyes w
end Go.Proofs.Ytbllinbafpdgjaa

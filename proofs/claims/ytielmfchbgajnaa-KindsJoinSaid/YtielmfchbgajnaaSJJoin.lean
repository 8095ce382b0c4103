/-
  Proved: KindsJoin answers true whatever three types it is given (both conform to their join, which may be, and which is the least one of types without functions), and its arguments read afterwards as before.
  Conditions: those of the given row alone.
-/
import Derived.Test.YtielmfchbgajnaaQj
import Derived.Test.YtielmfchbgajnaaKJoin
namespace Go.Proofs.Ytielmfchbgajnaa.kindsJoin
open Go.ChangeShapes Go.WideShapes Go.ChangeAt Go.RowKit Go.Joins

set_option maxRecDepth 100000 in
set_option maxHeartbeats 1000000 in
theorem lifted (os : Os) (started : os.Started) (H : Type) (enc : TypeId × Value → H) :
    ReturnsInHanded {} Try.checked os 6 .any (Rows.kindsJoinSpec.pre6 enc Try.prog Try.f6 Rows.kindsJoinRow.domain false) (Rows.kindsJoinSpec.post enc Try.prog Try.f6 false true false false) := by
  refine returnsInHanded_of_change_sized (C := Try.checked) own started (by kernel_rfl) Try.func6
    (ChangeSpec.witness6 (enc := enc) (C := Try.checked) false ⟨#[], #[.agg #[.int .i64 0, .slice none 0 0, .slice none 0 0], .agg #[.int .i64 0, .slice none 0 0, .slice none 0 0], .agg #[.int .i64 0, .slice none 0 0, .slice none 0 0]], []⟩ 8 (by kernel_rfl) (by kernel_rfl) (by kernel_rfl) (by kernel_rfl)) ?_
  intro W base args ds gs before hval0 hW hcnd hsz _
  have hval : ∀ (j : Nat) t v, Try.f6.params[j]? = some t → args[j]? = some v → Value.okWide Try.prog W .any base t v := hval0
  have hW' := hW
  obtain ⟨p, q, hA0, hV, rfl, hfz, hnd⟩ := hW
  have hA : DataW.TrodAll enc Try.prog W 0 (fun _ => true) true Try.f6.params.toList args.toList ds p := hA0
  rw [Try.params6] at hA hval
  obtain ⟨v0, vs0, d0, ds0, p0, q0, hargs, rfl, rfl, h0, r0⟩ := trodAll_cons hA
  obtain ⟨v1, vs1, d1, ds1, p1, q1, rfl, rfl, rfl, h1, r1⟩ := trodAll_cons r0
  obtain ⟨v2, vs2, d2, ds2, p2, q2, rfl, rfl, rfl, h2, r2⟩ := trodAll_cons r1
  obtain ⟨rfl, rfl, rfl⟩ := trodAll_nil r2
  obtain rfl : args = #[v0, v1, v2] := by cases args; simp_all
  obtain ⟨rfl, rfl⟩ := trodVars_none hV
  have u0 := fun (W' : World) (hb : Below W.heap.size W W') => keep_Type h0 hb
  obtain ⟨k0, a0, n0, c0, b0, m0, e0, t0, rfl, L0⟩ := open_Type (hval 0 26 v0 rfl rfl) h0 (fun q hq => of_decide_eq_true (List.all_eq_true.1 hsz q (DataW.weights_mem_each (j := 0) (by rw [Try.params6]; rfl) rfl q hq)))
  have u1 := fun (W' : World) (hb : Below W.heap.size W W') => keep_Type h1 hb
  obtain ⟨k1, a1, n1, c1, b1, m1, e1, t1, rfl, L1⟩ := open_Type (hval 1 26 v1 rfl rfl) h1 (fun q hq => of_decide_eq_true (List.all_eq_true.1 hsz q (DataW.weights_mem_each (j := 1) (by rw [Try.params6]; rfl) rfl q hq)))
  have u2 := fun (W' : World) (hb : Below W.heap.size W W') => keep_Type h2 hb
  obtain ⟨k2, a2, n2, c2, b2, m2, e2, t2, rfl, L2⟩ := open_Type (hval 2 26 v2 rfl rfl) h2 (fun q hq => of_decide_eq_true (List.all_eq_true.1 hsz q (DataW.weights_mem_each (j := 2) (by rw [Try.params6]; rfl) rfl q hq)))
  clear hA0 hval0
  simp only [List.append_nil] at hW'
  refine (join_walk_law t0 t1 t2 k0 a0 n0 c0 b0 m0 e0 k1 a1 n1 c1 b1 m1 e1 k2 a2 n2 c2 b2 m2 e2 W L0 L1 L2).mono fun e W' ⟨he, hg⟩ => ?_
  subst he
  exact ⟨_, rfl, _, _, _, [], _, [], hW', trodAll_cons_mk (shut_bool Try.underlying4 _) trodAll_mk0, trodAll_cons_mk (u0 _ hg) (trodAll_cons_mk (u1 _ hg) (trodAll_cons_mk (u2 _ hg) trodAll_mk0)), rfl, hg.frame _, fun h => (by cases h)⟩

theorem said : Rows.KindsJoinSaid :=
  OpenClaim.holds_of_wide 6 Try.f6 rfl rfl rfl rfl rfl rfl rfl ⟨rfl, rfl, rfl, rfl, rfl⟩ rfl rfl rfl rfl rfl (by kernel_rfl) Try.func6 (by kernel_rfl)
    (of_decide_eq_true (by kernel_rfl)) (by unfold Func.isWrapper; first | (rw [if_pos (by decide +kernel)]; kernel_rfl) | (rw [if_neg (by decide +kernel)]; exact ⟨rfl, rfl⟩))
    (fun os started H enc _ => lifted os started H enc)
end Go.Proofs.Ytielmfchbgajnaa.kindsJoin

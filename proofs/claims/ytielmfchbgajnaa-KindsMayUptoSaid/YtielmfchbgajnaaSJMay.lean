/-
  Proved: KindsMay answers true whatever two types and name it is given (which types there may be, and what is in a context's, is what the law says), and its arguments read afterwards as before.
  Conditions: those of the given row alone (what is read is of bulk at most 1048576).
-/
import Derived.Test.YtielmfchbgajnaaQu
import Derived.Test.YtielmfchbgajnaaKM
import Derived.ChangeMaps5
namespace Go.Proofs.Ytielmfchbgajnaa.kindsMay
open Go.ChangeShapes Go.WideShapes Go.ChangeAt Go.RowKit Go.Joins
open Go.ChangeMaps (open_string shut_string)

set_option maxRecDepth 100000 in
set_option maxHeartbeats 1000000 in
theorem lifted (os : Os) (started : os.Started) (H : Type) (enc : TypeId × Value → H) (F : Stop.Interp) :
    ReturnsInHanded {} Try.checked os 3 .any ((Rows.OpenSpec.upto Rows.kindsMaySpec).pre6 enc Try.prog Try.f3 Rows.kindsMayUptoRow.domain false) (((Rows.OpenSpec.upto Rows.kindsMaySpec).at F).post enc Try.prog Try.f3 false true false false) := by
  refine returnsInHanded_of_cond_sized (C := Try.checked) (s := Rows.OpenSpec.upto Rows.kindsMaySpec) (k := Rows.uptoSmall) rfl own started (by kernel_rfl) Try.func3
    (OpenSpec.witness (enc := enc) (C := Try.checked) (s := Rows.OpenSpec.upto Rows.kindsMaySpec) (k := Rows.uptoSmall) rfl false ⟨#[], #[.agg #[.int .i64 0, .slice none 0 0, .slice none 0 0], .agg #[.int .i64 0, .slice none 0 0, .slice none 0 0], .string .empty], []⟩ 8 (by kernel_rfl) (by kernel_rfl) (by kernel_rfl)
      (x := ([.agg [.lit (.int .i64 0), .nil, .nil], .agg [.lit (.int .i64 0), .nil, .nil], .lit (.string [])], [], [])) (by kernel_rfl) rfl (by kernel_rfl)) ?_
  intro W base args ds gs before hval0 hW hcnd hk hsz _
  have hval : ∀ (j : Nat) t v, Try.f3.params[j]? = some t → args[j]? = some v → Value.okWide Try.prog W .any base t v := hval0
  have hW' := hW
  obtain ⟨p, q, hA0, hV, rfl, hfz, hnd⟩ := hW
  have hA : DataW.TrodAll enc Try.prog W 0 (fun _ => true) true Try.f3.params.toList args.toList ds p := hA0
  rw [Try.params3] at hA hval
  obtain ⟨v0, vs0, d0, ds0, p0, q0, hargs, rfl, rfl, h0, r0⟩ := trodAll_cons hA
  obtain ⟨v1, vs1, d1, ds1, p1, q1, rfl, rfl, rfl, h1, r1⟩ := trodAll_cons r0
  obtain ⟨v2, vs2, d2, ds2, p2, q2, rfl, rfl, rfl, h2, r2⟩ := trodAll_cons r1
  obtain ⟨rfl, rfl, rfl⟩ := trodAll_nil r2
  obtain rfl : args = #[v0, v1, v2] := by cases args; simp_all
  obtain ⟨rfl, rfl⟩ := trodVars_none hV
  have u0 := fun (W' : World) (hb : Below W.heap.size W W') => keep_Type h0 hb
  obtain ⟨k0, a0, n0, c0, b0, m0, e0, t0, rfl, L0, R0⟩ := open_Type_u (hval 0 26 v0 rfl rfl) h0 (fun q hq => of_decide_eq_true (List.all_eq_true.1 hsz q (DataW.weights_mem_each (j := 0) (by rw [Try.params3]; rfl) rfl q hq)))
  have u1 := fun (W' : World) (hb : Below W.heap.size W W') => keep_Type h1 hb
  obtain ⟨k1, a1, n1, c1, b1, m1, e1, t1, rfl, L1, R1⟩ := open_Type_u (hval 1 26 v1 rfl rfl) h1 (fun q hq => of_decide_eq_true (List.all_eq_true.1 hsz q (DataW.weights_mem_each (j := 1) (by rw [Try.params3]; rfl) rfl q hq)))
  obtain ⟨s2, rfl, rfl, rfl, w2⟩ := open_string Try.underlying9 (hval 2 9 v2 rfl rfl) h2
  have RA : room t0 + 64 ≤ 140737488355328 := by
    have hb : Rows.uptoBulkAll ([d0, d1, .lit (.string s2.data.toList)] ++ []) ≤ 1048576 := of_decide_eq_true hk
    have hb2 : Rows.uptoBulk d0 + Rows.uptoBulkAll ([d1, .lit (.string s2.data.toList)] ++ []) ≤ 1048576 := hb
    omega
  clear hA0 hval0
  simp only [List.append_nil] at hW'
  refine (may_front t0 t1 k0 a0 n0 c0 b0 m0 e0 k1 a1 n1 c1 b1 m1 e1 s2 W L0 L1 RA).mono fun e W' ⟨he, hg⟩ => ?_
  subst he
  exact ⟨_, rfl, _, _, _, [], _, [], hW', trodAll_cons_mk (shut_bool Try.underlying4 _) trodAll_mk0, trodAll_cons_mk (u0 _ hg) (trodAll_cons_mk (u1 _ hg) (trodAll_cons_mk (shut_string Try.underlying9 w2) trodAll_mk0)), rfl, hg.frame _, fun h => (by cases h)⟩

theorem said : Rows.KindsMayUptoSaid :=
  OpenClaim.holds_of_cond 3 Try.f3 rfl rfl rfl rfl rfl rfl rfl ⟨rfl, rfl, rfl, rfl, rfl⟩ rfl rfl rfl rfl rfl (by kernel_rfl) Try.func3 (by kernel_rfl)
    (of_decide_eq_true (by kernel_rfl)) (by unfold Func.isWrapper; first | (rw [if_pos (by decide +kernel)]; kernel_rfl) | (rw [if_neg (by decide +kernel)]; exact ⟨rfl, rfl⟩))
    (fun os started H enc _ F => lifted os started H enc F)
end Go.Proofs.Ytielmfchbgajnaa.kindsMay

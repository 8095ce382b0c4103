/-
  Small numbers (of of the laws of layers 3, 4 and 5), each as a contract of its call.
-/
import Derived.Test.YtmelblnfjcbmjaaDoorEm
namespace Go.Proofs.YtmelblnfjcbmjaaDoor
open Go.RowKit

set_option maxHeartbeats 400000 in
theorem of3 (c : Nat) (x : Int) (w : World) : Calls Tryd.prog 40 #[.int .u64 (c : Int), .int .i64 x] w (RetD (fun n h' l' x' => n = false ∧ h' = 0 ∧ l' = c ∧ x' = x) w) := by
  go_enter Tryd.func40, Tryd.ntmps40
  go_wp2_with fail
  refine (of_any c _).mono ?_
  rintro e w1 ⟨rfl, o, rfl⟩
  go_wp2
  refine bodyPost_ret (v := Dv false 0 c x) (by simp [results, Tryd.results40, go_sem, *]) rfl ⟨_, _, _, _, ⟨rfl, rfl, rfl, rfl⟩, rfl, ?_⟩
  go_grown

set_option maxHeartbeats 400000 in
theorem of4 (c : Nat) (x : Int) (w : World) : Calls Tryd.prog 55 #[.int .u64 (c : Int), .int .i64 x] w (RetD (fun n h' l' x' => n = false ∧ h' = 0 ∧ l' = c ∧ x' = x) w) := by
  go_enter Tryd.func55, Tryd.ntmps55
  go_wp2_with fail
  refine (of_any c _).mono ?_
  rintro e w1 ⟨rfl, o, rfl⟩
  go_wp2
  refine bodyPost_ret (v := Dv false 0 c x) (by simp [results, Tryd.results55, go_sem, *]) rfl ⟨_, _, _, _, ⟨rfl, rfl, rfl, rfl⟩, rfl, ?_⟩
  go_grown

set_option maxHeartbeats 400000 in
theorem of5 (c : Nat) (x : Int) (w : World) : Calls Tryd.prog 36 #[.int .u64 (c : Int), .int .i64 x] w (RetD (fun n h' l' x' => n = false ∧ h' = 0 ∧ l' = c ∧ x' = x) w) := by
  go_enter Tryd.func36, Tryd.ntmps36
  go_wp2_with fail
  refine (of_any c _).mono ?_
  rintro e w1 ⟨rfl, o, rfl⟩
  go_wp2
  refine bodyPost_ret (v := Dv false 0 c x) (by simp [results, Tryd.results36, go_sem, *]) rfl ⟨_, _, _, _, ⟨rfl, rfl, rfl, rfl⟩, rfl, ?_⟩
  go_grown

end Go.Proofs.YtmelblnfjcbmjaaDoor

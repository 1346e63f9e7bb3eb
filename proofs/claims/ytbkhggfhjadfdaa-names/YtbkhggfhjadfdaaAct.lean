import Derived.Test.YtbkhggfhjadfdaaRows
import Derived.WalkKit
import Derived.WalkSpells
import Derived.WalkLawsBesides
namespace Go.Proofs.Ytbkhggfhjadfdaa
open Go.RowKit

set_option maxHeartbeats 400000 in
theorem act_gone (p : Nat) (w : World) (h : w.cell? ⟨p, 5, none⟩ = some (.int .i64 0)) :
    Calls Try.prog 42 #[.pointer (some ⟨p, 0, none⟩)] w fun e w' => e = .returned (.bool false) ∧ w' = w := by
  go_enter Try.func42, Try.ntmps42
  go_wp2
  go_ret
  exact ⟨rfl, rfl⟩

set_option maxHeartbeats 400000 in
theorem act_stay (p : Nat) (w : World) (h : w.cell? ⟨p, 5, none⟩ = some (.int .i64 (-1))) :
    Calls Try.prog 42 #[.pointer (some ⟨p, 0, none⟩)] w fun e w' => e = .returned (.bool true) ∧ w' = w := by
  go_enter Try.func42, Try.ntmps42
  go_wp2
  go_ret
  exact ⟨rfl, rfl⟩

set_option maxHeartbeats 400000 in
theorem act_less (p : Nat) (n : Int) (w : World) (h : w.cell? ⟨p, 5, none⟩ = some (.int .i64 n)) (hf : w.frozen? ⟨p, 5, none⟩ = false) (h1 : 1 ≤ n) (h2 : n ≤ 1000) :
    Calls Try.prog 42 #[.pointer (some ⟨p, 0, none⟩)] w fun e w' => e = .returned (.bool true) ∧ w' = w.setCell ⟨p, 5, none⟩ (.int .i64 (n - 1)) := by
  have h0 : (n == 0) = false := beq_eq_false_iff_ne.2 (by omega)
  go_enter Try.func42, Try.ntmps42
  go_wp2
  go_ret
  exact ⟨rfl, rfl⟩

end Go.Proofs.Ytbkhggfhjadfdaa

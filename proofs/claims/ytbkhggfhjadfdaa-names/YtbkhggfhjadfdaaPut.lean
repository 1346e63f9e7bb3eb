import Derived.Test.YtbkhggfhjadfdaaRows
import Derived.Test.YtbkhggfhjadfdaaBase
import Derived.WalkLawsBesides
import Derived.Deep.RegionHeld3
namespace Go.Proofs.Ytbkhggfhjadfdaa
open Go.RowKit

set_option maxHeartbeats 1000000 in
theorem put_line (p bd bx bf line : Nat) (src dn : Nat → Int) (w : World)
    (h1 : w.cell? ⟨p, 1, none⟩ = some (.slice (some ⟨bd, 0, none⟩) 64 64)) (h3 : w.cell? ⟨p, 3, none⟩ = some (.slice (some ⟨bf, 0, none⟩) 9 9))
    (hd : RowAt w bd 64 (U dn)) (sd : Soft w bd 64) (hx : RowAt w bx 64 (U src)) (npd : p ≠ bd) (nxd : bx ≠ bd) (hl : line < 8) :
    Calls Try.prog 44 #[.pointer (some ⟨p, 0, none⟩), .int .i64 line, .slice (some ⟨bx, 0, none⟩) 64 64] w fun e w' =>
      e = .returned (.tuple #[]) ∧ Only bd w w' ∧ RowAt w' bd 64 (U (mix src dn (line * 8) 8)) := by
  go_enter Try.func44, Try.ntmps44
  go_wp2
  go_loopw [6, 7] (fun i t w' => ∃ k : Nat, k ≤ 8 ∧ i = .int .i64 k ∧ Only bd w w' ∧ RowAt w' bd 64 (U (mix src dn (line * 8) k))) (fun i _ _ => 8 - (intOf i).toNat)
  case atStart => exact ⟨0, by omega, rfl, Only.refl _ _, by rw [mix_zero]; exact hd⟩
  case round =>
    obtain ⟨k, hk, rfl, ho, hr⟩ := hrel
    have e1 : wr.cell? ⟨p, 1, none⟩ = some (.slice (some ⟨bd, 0, none⟩) 64 64) := by rw [ho.cell npd]; exact h1
    have e3 : wr.cell? ⟨p, 3, none⟩ = some (.slice (some ⟨bf, 0, none⟩) 9 9) := by rw [ho.cell npd]; exact h3
    by_cases hlt : k < 8
    · have ex : wr.cell? ⟨bx, line * 8 + k, none⟩ = some (.int .u64 (src (line * 8 + k))) := by rw [ho.cell nxd]; exact hx _ (by omega)
      have ed : wr.cell? ⟨bd, line * 8 + k, none⟩ = some (.int .u64 (mix src dn (line * 8) k (line * 8 + k))) := hr _ (by omega)
      have ef : wr.frozen? ⟨bd, line * 8 + k, none⟩ = false := by rw [ho.frozen]; exact sd _ (by omega)
      have b0 : (0 : Int) ≤ (line : Int) * 8 + k := by omega
      have b1 : (line : Int) * 8 + k < 64 := by omega
      have et : ((line : Int) * 8 + (k : Int)).toNat = line * 8 + k := by omega
      have k1 : ∀ v, (wr.setCell ⟨bd, line * 8 + k, none⟩ v).cell? ⟨p, 1, none⟩ = some (.slice (some ⟨bd, 0, none⟩) 64 64) := fun v => by rw [World.cell?_setCell_far _ _ _ _ (Ne.symm npd)]; exact e1
      have kx : ∀ v, (wr.setCell ⟨bd, line * 8 + k, none⟩ v).cell? ⟨bx, line * 8 + k, none⟩ = some (.int .u64 (src (line * 8 + k))) := fun v => by rw [World.cell?_setCell_far _ _ _ _ (Ne.symm nxd)]; exact ex
      clear h1 h3 hd sd hx
      go_wp2_with fail
      go_region_held3 (fun w' => w'.cell? ⟨p, 1, none⟩ = some (.slice (some ⟨bd, 0, none⟩) 64 64) ∧ w'.cell? ⟨bx, line * 8 + k, none⟩ = some (.int .u64 (src (line * 8 + k)))) (first | go_keep | simp [k1, kx]) (fail)
      go_wp2
      go_roundw
      case rel => exact ⟨k + 1, by omega, by go_num, (ho.drew).setCell _ _ rfl, ((hr.drew).set (j := line * 8 + k) (by omega) _).congr fun i _ => mix_succ src dn (line * 8) k i⟩
      case measure => simp [intOf]; omega
    · go_wp2_with fail
      go_end0
      obtain rfl : k = 8 := by omega
      exact ⟨rfl, ho, hr⟩

end Go.Proofs.Ytbkhggfhjadfdaa

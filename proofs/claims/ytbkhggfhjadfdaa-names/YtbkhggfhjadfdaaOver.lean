import Derived.Test.YtbkhggfhjadfdaaPut
import Derived.BigQuiet
namespace Go.Proofs.Ytbkhggfhjadfdaa
open Go.RowKit

theorem Only.drewN {b : Nat} {u v : World} (h : Only b u v) (n : Nat) : Only b u (v.drewN n) := ⟨h.os, h.tape, h.output, h.size, h.block, h.frozen⟩

theorem drewN_drewN (w : World) (a b : Nat) : (w.drewN a).drewN b = w.drewN (a + b) := by simp [World.drewN, Nat.add_assoc]

set_option maxHeartbeats 400000 in
theorem over_none (p : Nat) (n : Int) (w : World) (h4 : w.cell? ⟨p, 4, none⟩ = some (.int .i64 n)) (f4 : w.frozen? ⟨p, 4, none⟩ = false)
    (h6 : w.cell? ⟨p, 6, none⟩ = some (.slice none 0 0)) (n0 : 0 ≤ n) (n1 : n ≤ 1000) :
    Calls Try.prog 43 #[.pointer (some ⟨p, 0, none⟩)] w fun e w' => e = .returned (.tuple #[]) ∧ w' = w.setCell ⟨p, 4, none⟩ (.int .i64 (n + 1)) := by
  have e6 : (w.setCell ⟨p, 4, none⟩ (.int .i64 (n + 1))).cell? ⟨p, 6, none⟩ = some (.slice none 0 0) := by
    rw [World.cell?_setCell_other _ _ _ _ (by intro e; cases e)]; exact h6
  go_enter Try.func43, Try.ntmps43
  go_wp2_with fail
  go_loopw [2] (fun i w' => i = .int .i64 0 ∧ w' = w.setCell ⟨p, 4, none⟩ (.int .i64 (n + 1))) (fun _ _ => 0)
  case atStart => exact ⟨rfl, rfl⟩
  case round =>
    obtain ⟨rfl, rfl⟩ := hrel
    go_wp2
    go_end0
    exact ⟨rfl, rfl⟩

/-- One eviction, of another act: nothing. -/
theorem over_miss (p be c : Nat) (n a : Int) (w : World) (h4 : w.cell? ⟨p, 4, none⟩ = some (.int .i64 n)) (f4 : w.frozen? ⟨p, 4, none⟩ = false)
    (h6 : w.cell? ⟨p, 6, none⟩ = some (.slice (some ⟨be, 0, none⟩) 1 c)) (ha : w.cell? ⟨be, 0, none⟩ = some (.int .i64 a)) (n0 : 0 ≤ n) (n1 : n ≤ 1000) (hne : (a == n + 1) = false) (hp : p ≠ be) :
    Calls Try.prog 43 #[.pointer (some ⟨p, 0, none⟩)] w fun e w' => e = .returned (.tuple #[]) ∧ Only p w w' ∧ (∀ x, x ≠ 4 → w'.cell? ⟨p, x, none⟩ = w.cell? ⟨p, x, none⟩) ∧ w'.cell? ⟨p, 4, none⟩ = some (.int .i64 (n + 1)) := by
  have e6 : (w.setCell ⟨p, 4, none⟩ (.int .i64 (n + 1))).cell? ⟨p, 6, none⟩ = some (.slice (some ⟨be, 0, none⟩) 1 c) := by
    rw [World.cell?_setCell_other _ _ _ _ (by intro e; cases e)]; exact h6
  have e4 : (w.setCell ⟨p, 4, none⟩ (.int .i64 (n + 1))).cell? ⟨p, 4, none⟩ = some (.int .i64 (n + 1)) := World.cell?_setCell_same _ _ _ h4
  have ea : (w.setCell ⟨p, 4, none⟩ (.int .i64 (n + 1))).cell? ⟨be, 0, none⟩ = some (.int .i64 a) := by
    rw [World.cell?_setCell_far _ _ _ _ hp]; exact ha
  have ho : Only p w (w.setCell ⟨p, 4, none⟩ (.int .i64 (n + 1))) := (Only.refl _ _).setCell _ _ rfl
  have hx : ∀ x, x ≠ 4 → (w.setCell ⟨p, 4, none⟩ (.int .i64 (n + 1))).cell? ⟨p, x, none⟩ = w.cell? ⟨p, x, none⟩ := fun x hx => World.cell?_setCell_other _ _ _ _ (by intro e; cases e; exact hx rfl)
  go_enter Try.func43, Try.ntmps43
  go_wp2_with fail
  generalize hW : w.setCell ⟨p, 4, none⟩ (.int .i64 (n + 1)) = W at *
  clear hW
  go_loopw [2] (fun i w' => ∃ k : Nat, k ≤ 1 ∧ i = .int .i64 k ∧ ∃ d, w' = W.drewN d) (fun i _ => 1 - (intOf i).toNat)
  case atStart => exact ⟨0, by omega, rfl, 0, rfl⟩
  case round =>
    obtain ⟨k, hk, rfl, d, rfl⟩ := hrel
    by_cases hlt : k < 1
    · obtain rfl : k = 0 := by omega
      go_wp2_with fail
      go_quiet (fail)
      go_wp2
      refine ⟨⟨1, by omega, rfl, ?_⟩, by simp [intOf]⟩
      first | exact ⟨_, rfl⟩ | exact ⟨_, drewN_drewN _ _ _⟩
    · go_wp2_with fail
      go_end0
      exact ⟨rfl, ho.drewN d, hx, e4⟩

/-- One eviction, of this act: its line is put down as it is now. -/
theorem over_hit (p bn bd bf be c line : Nat) (now dn : Nat → Int) (n : Int) (w : World) (h4 : w.cell? ⟨p, 4, none⟩ = some (.int .i64 n)) (f4 : w.frozen? ⟨p, 4, none⟩ = false)
    (h0 : w.cell? ⟨p, 0, none⟩ = some (.slice (some ⟨bn, 0, none⟩) 64 64)) (h1 : w.cell? ⟨p, 1, none⟩ = some (.slice (some ⟨bd, 0, none⟩) 64 64)) (h3 : w.cell? ⟨p, 3, none⟩ = some (.slice (some ⟨bf, 0, none⟩) 9 9))
    (h6 : w.cell? ⟨p, 6, none⟩ = some (.slice (some ⟨be, 0, none⟩) 1 c)) (ha : w.cell? ⟨be, 0, none⟩ = some (.int .i64 (n + 1))) (hl : w.cell? ⟨be, 1, none⟩ = some (.int .i64 line)) (n0 : 0 ≤ n) (n1 : n ≤ 1000) (hpe : p ≠ be)
    (hd : RowAt w bd 64 (U dn)) (sd : Soft w bd 64) (hx : RowAt w bn 64 (U now)) (npd : p ≠ bd) (nnd : bn ≠ bd) (nnp : bn ≠ p) (hed : be ≠ bd) (hline : line < 8) :
    Calls Try.prog 43 #[.pointer (some ⟨p, 0, none⟩)] w fun e w' => e = .returned (.tuple #[]) ∧ ∃ w1, w1 = w.setCell ⟨p, 4, none⟩ (.int .i64 (n + 1)) ∧ Only bd w1 w' ∧ RowAt w' bd 64 (U (mix now dn (line * 8) 8)) := by
  have hoth : ∀ x, x ≠ 4 → (w.setCell ⟨p, 4, none⟩ (.int .i64 (n + 1))).cell? ⟨p, x, none⟩ = w.cell? ⟨p, x, none⟩ := fun x hx => World.cell?_setCell_other _ _ _ _ (by intro e; cases e; exact hx rfl)
  have e0 := (hoth 0 (by omega)).trans h0
  have e1 := (hoth 1 (by omega)).trans h1
  have e3 := (hoth 3 (by omega)).trans h3
  have e6 := (hoth 6 (by omega)).trans h6
  have e4 : (w.setCell ⟨p, 4, none⟩ (.int .i64 (n + 1))).cell? ⟨p, 4, none⟩ = some (.int .i64 (n + 1)) := World.cell?_setCell_same _ _ _ h4
  have ea : (w.setCell ⟨p, 4, none⟩ (.int .i64 (n + 1))).cell? ⟨be, 0, none⟩ = some (.int .i64 (n + 1)) := by
    rw [World.cell?_setCell_far _ _ _ _ hpe]; exact ha
  have el : (w.setCell ⟨p, 4, none⟩ (.int .i64 (n + 1))).cell? ⟨be, 1, none⟩ = some (.int .i64 line) := by
    rw [World.cell?_setCell_far _ _ _ _ hpe]; exact hl
  have ho : Only p w (w.setCell ⟨p, 4, none⟩ (.int .i64 (n + 1))) := (Only.refl _ _).setCell _ _ rfl
  have hd' := hd.only ho npd.symm
  have hx' := hx.only ho nnp
  have sd' := sd.only ho
  clear hoth h0 h1 h3 h6 ha hl ho hd hx sd
  go_enter Try.func43, Try.ntmps43
  go_wp2_with fail
  generalize hW : w.setCell ⟨p, 4, none⟩ (.int .i64 (n + 1)) = W at *
  have HW : Hid (W = w.setCell ⟨p, 4, none⟩ (.int .i64 (n + 1))) := hW.symm
  clear hW h4 f4
  go_loopw [2] (fun i w' => ∃ k : Nat, k ≤ 1 ∧ i = .int .i64 k ∧ (k = 0 → w' = W) ∧ (k = 1 → Only bd W w' ∧ RowAt w' bd 64 (U (mix now dn (line * 8) 8)))) (fun i _ => 1 - (intOf i).toNat)
  case atStart => exact ⟨0, by omega, rfl, fun _ => rfl, fun h => by omega⟩
  case round =>
    obtain ⟨k, hk, rfl, q0, q1⟩ := hrel
    by_cases hlt : k < 1
    · obtain rfl : k = 0 := by omega
      obtain rfl := q0 rfl
      clear q0 q1
      go_wp2_with fail
      go_quiet (fail)
      go_wp2_with fail
      go_region_held3 (fun w' => w'.cell? ⟨p, 6, none⟩ = some (.slice (some ⟨be, 0, none⟩) 1 c) ∧ w'.cell? ⟨be, 1, none⟩ = some (.int .i64 line) ∧ w'.cell? ⟨p, 0, none⟩ = some (.slice (some ⟨bn, 0, none⟩) 64 64))
        (first | go_keep | (exact ⟨(o2.cell (a := ⟨p, 6, none⟩) npd).trans (cell_heap e6 rfl), (o2.cell (a := ⟨be, 1, none⟩) hed).trans (cell_heap el rfl), (o2.cell (a := ⟨p, 0, none⟩) npd).trans (cell_heap e0 rfl)⟩))
        ((go_at_call 44; refine (put_line p bd bn bf line now dn _ (by exact cell_heap e1 rfl) (by exact cell_heap e3 rfl) (by exact hd'.heap rfl) (by exact sd'.heap rfl) (by exact hx'.heap rfl) npd nnd hline).mono ?_; rintro e w2 ⟨rfl, o2, r2⟩))
      go_wp2
      refine ⟨⟨1, by omega, rfl, fun h => by omega, fun _ => ⟨?_, ?_⟩⟩, by simp [intOf]⟩
      · exact Only.from o2 rfl rfl rfl rfl
      · exact r2
    · obtain rfl : k = 1 := by omega
      obtain ⟨o1, r1⟩ := q1 rfl
      have e6' : wr.cell? ⟨p, 6, none⟩ = some (.slice (some ⟨be, 0, none⟩) 1 c) := by rw [o1.cell npd]; exact e6
      clear q0 q1
      go_wp2_with fail
      go_end0
      exact ⟨rfl, W, HW.out, o1, r1⟩

end Go.Proofs.Ytbkhggfhjadfdaa

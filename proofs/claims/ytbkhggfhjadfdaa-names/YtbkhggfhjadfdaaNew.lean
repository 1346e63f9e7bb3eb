import Derived.Test.YtbkhggfhjadfdaaNewa
namespace Go.Proofs.Ytbkhggfhjadfdaa
open Go.RowKit

set_option maxHeartbeats 1000000 in
theorem new_any {w : World} {b : Nat} {z : Nat → Int} (hb : RowAt w b 64 (U z)) :
    Calls Try.prog 8 #[.slice (some ⟨b, 0, none⟩) 64 64] w fun e w' =>
      ∃ p, e = .returned (.pointer (some ⟨p, 0, none⟩)) ∧ ∃ bn bd bo bf, Mem w' p bn bd bo bf (.slice none 0 0) z z (fun _ => 0) (fun _ => false) 0 (-1) ∧ Kept [] w w' ∧ New5 w.heap.size w'.heap.size [p, bn, bd, bo, bf] := by
  have lb : b < w.heap.size := World.block_lt_of_cell? w _ (hb 0 (by omega))
  have m64 := make64
  have m9 := make9
  go_enter Try.func8, Try.ntmps8
  go_wp2_with fail
  go_cut [4] (fun s4 w' => ∃ p, s4 = .pointer (some ⟨p, 0, none⟩) ∧ ∃ bn bd bo bf, Mem w' p bn bd bo bf (.slice none 0 0) (fun _ => 0) (fun _ => 0) (fun _ => 0) (fun _ => false) 0 (-1) ∧ Kept [] w w' ∧ New5 w.heap.size w'.heap.size [p, bn, bd, bo, bf])
  case first =>
    go_region
    all_goals go_wp2_with fail
    all_goals go_meet
    all_goals
      refine ⟨_, rfl, _, _, _, _, mem_of_blocks (top rfl (by simp)) ?_ ?_ ?_ ?_ ?_ ?_ ?_ ?_ ?_ ?_ ?_ ?_ ?_ ?_, ?_, ?_⟩
    all_goals first
      | omega
      | exact (heap5 _ _ _ _ _ _).1
      | exact (heap5 _ _ _ _ _ _).2.1
      | exact (heap5 _ _ _ _ _ _).2.2.1
      | exact (heap5 _ _ _ _ _ _).2.2.2.1
      | exact (heap5 _ _ _ _ _ _).2.2.2.2.1
      | (intro k hk; rw [(heap5 _ _ _ _ _ _).2.2.2.2.2]; simp only [List.mem_cons, List.not_mem_nil, or_false] at hk; omega)
  case rest =>
    obtain ⟨p, rfl, bn, bd, bo, bf, hm, hk, hl⟩ := hcut
    clear m64 m9
    have hpl := hl p (by simp)
    have hnl := hl bn (by simp)
    have hdl := hl bd (by simp)
    have hb1 : RowAt wc b 64 (U z) := hb.far (hk.block b lb (by simp))
    obtain ⟨v1, w1, r1, o1, q1⟩ := copy64 hm.rn hm.sn hb1
    have hm1 := hm.nowTo o1 q1
    have hb2 : RowAt w1 b 64 (U z) := hb1.only o1 (by omega)
    obtain ⟨v2, w2, r2, o2, q2⟩ := copy64 hm1.rd hm1.sd hb2
    have hm2 := hm1.downTo o2 q2
    have e0 := hm.c0
    have e1 := hm1.c1
    go_wp2_with (at_builtin; first | refine Lib.wpList_copy_run _ rfl _ _ 25 25 rfl _ _ rfl rfl r1 ?_ | refine Lib.wpList_copy_run _ rfl _ _ 25 25 rfl _ _ rfl rfl r2 ?_)
    go_ret
    refine ⟨p, rfl, bn, bd, bo, bf, hm2, ?_, ?_⟩
    · exact ⟨o2.os.trans (o1.os.trans hk.os), o2.tape.trans (o1.tape.trans hk.tape), o2.output.trans (o1.output.trans hk.output), by rw [o2.size, o1.size]; exact hk.size,
        fun k hk1 _ => (o2.block k (by omega)).trans ((o1.block k (by omega)).trans (hk.block k hk1 (by simp)))⟩
    · rw [o2.size, o1.size]
      exact hl

end Go.Proofs.Ytbkhggfhjadfdaa

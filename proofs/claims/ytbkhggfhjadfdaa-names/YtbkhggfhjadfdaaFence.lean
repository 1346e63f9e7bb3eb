import Derived.Test.YtbkhggfhjadfdaaFlush
namespace Go.Proofs.Ytbkhggfhjadfdaa
open Go.RowKit

section
variable {w : World} {p bn bd bo bf : Nat} {ev : Value} {now dn no : Nat → Int} {fl : Nat → Bool} {acts left : Int}

theorem fence_gone (h : Mem w p bn bd bo bf ev now dn no fl acts 0) :
    Calls Try.prog 12 #[.pointer (some ⟨p, 0, none⟩)] w fun e w' => e = .returned (.tuple #[]) ∧ w' = w := by
  go_enter Try.func12, Try.ntmps12
  go_wp2_with (first | (go_at_call 42; refine (act_gone p _ h.c5).mono ?_; rintro e w' ⟨rfl, rfl⟩))
  (try simp only [Exit.inBlock, Exit.then])
  refine bodyPost_ret (results_none rfl _ _ _) rfl ?_
  exact ⟨rfl, rfl⟩

theorem gone_any (h : Mem w p bn bd bo bf ev now dn no fl acts left) :
    Calls Try.prog 15 #[.pointer (some ⟨p, 0, none⟩)] w fun e w' => e = .returned (.bool (left == 0)) ∧ w' = w := by
  have c5 := h.c5
  go_enter Try.func15, Try.ntmps15
  go_wp2
  go_ret
  exact ⟨rfl, rfl⟩

theorem load_any (h : Mem w p bn bd bo bf ev now dn no fl acts left) (j : Nat) (hj : j < 64) :
    Calls Try.prog 14 #[.pointer (some ⟨p, 0, none⟩), .int .i64 j] w fun e w' => e = .returned (.int .u64 (now j)) ∧ w' = w := by
  have c0 := h.c0
  have cj : w.cell? ⟨bn, j, none⟩ = some (.int .u64 (now j)) := h.rn j hj
  have jb : (0 : Int) ≤ (j : Int) := by omega
  have jc : (j : Int) < 64 := by omega
  go_enter Try.func14, Try.ntmps14
  go_wp2
  go_ret
  exact ⟨rfl, rfl⟩

/-- One line is noted, the power stays, nothing is evicted: it is put down. -/
theorem fence_one (h : Mem w p bn bd bo bf (.slice none 0 0) now dn no fl acts (-1)) (t : Nat) (ht : t < 8) (hfl : ∀ i, i < 9 → fl i = decide (i = t)) (a0 : 0 ≤ acts) (a1 : acts ≤ 1000) :
    Calls Try.prog 12 #[.pointer (some ⟨p, 0, none⟩)] w fun e w' =>
      e = .returned (.tuple #[]) ∧ Among [p, bn, bd, bo, bf] w w' ∧ Mem w' p bn bd bo bf (.slice none 0 0) now (mix no dn (t * 8) 8) no (up fl t false) (acts + 1) (-1) := by
  go_enter Try.func12, Try.ntmps12
  go_wp2_with (first | (go_at_call 42; refine (act_stay p _ h.c5).mono ?_; rintro e w' ⟨rfl, hw⟩; obtain rfl := hw.symm))
  go_loopw [2] (fun i w' => ∃ k : Nat, k ≤ 9 ∧ i = .int .i64 k ∧ (k ≤ t → w' = w) ∧ (t < k → Among [p, bn, bd, bo, bf] w w' ∧ Mem w' p bn bd bo bf (.slice none 0 0) now (mix no dn (t * 8) 8) no (up fl t false) acts (-1))) (fun i _ => 9 - (intOf i).toNat)
  case atStart => exact ⟨0, by omega, rfl, fun _ => rfl, fun h => by omega⟩
  case round =>
    obtain ⟨k, hk, rfl, q0, q1⟩ := hrel
    have kb : (0 : Int) ≤ (k : Int) := by omega
    by_cases hlt : k < 9
    · have kc : (k : Int) < 9 := by omega
      by_cases hkt : k ≤ t
      · obtain rfl := q0 hkt
        clear q0 q1
        have c3 := h.c3
        have cf : wr.cell? ⟨bf, k, none⟩ = some (.bool (fl k)) := h.rf k hlt
        by_cases he : k = t
        · have ft : fl k = true := by rw [hfl k hlt]; simp [he]
          rw [ft] at cf
          have c2 := h.c2
          have hk8 : k < 8 := by omega
          have HE : Hid (k = t) := he
          clear hfl he hkt
          go_wp2_with fail
          refine (put_line p bd bo bf k no dn _ h.c1 h.c3 h.rd h.sd h.ro h.pd (Ne.symm h.do') hk8).mono ?_
          rintro e w2 ⟨rfl, o2, r2⟩
          have h2 := h.downTo o2 r2
          have d3 := h2.c3
          have df : w2.cell? ⟨bf, k, none⟩ = some (.bool (fl k)) := h2.rf k hlt
          have dg : w2.frozen? ⟨bf, k, none⟩ = false := h2.sf k hlt
          have h3 := h2.setFlag hlt false
          clear ft c2 c3 cf
          go_wp2
          go_roundw
          case rel =>
            have e := HE.out
            subst e
            exact ⟨k + 1, by omega, by go_num, fun hh => by omega, fun _ => ⟨(o2.among (by simp)).setCell _ _ (by simp), h3⟩⟩
          case measure => simp [intOf]; omega
        · have ff : fl k = false := by rw [hfl k hlt]; simp [he]
          rw [ff] at cf
          have HE : Hid (¬ k = t) := he
          clear hfl he
          go_wp2
          go_roundw
          case rel => exact ⟨k + 1, by omega, by go_num, fun _ => by first | rfl | trivial, fun hh => by have := HE.out; omega⟩
          case measure => simp [intOf]; omega
      · obtain ⟨am, hm⟩ := q1 (by omega)
        have c3 := hm.c3
        have cf : wr.cell? ⟨bf, k, none⟩ = some (.bool (up fl t false k)) := hm.rf k hlt
        have ff : up fl t false k = false := by unfold up; rw [hfl k hlt]; split <;> simp; omega
        rw [ff] at cf
        clear q0 q1 ff hfl
        go_wp2
        go_roundw
        case rel => exact ⟨k + 1, by omega, by go_num, fun hh => by omega, fun _ => ⟨am, hm⟩⟩
        case measure => simp [intOf]; omega
    · obtain rfl : k = 9 := by omega
      obtain ⟨am, hm⟩ := q1 (by omega)
      have c3 := hm.c3
      clear q0 q1
      go_wp2_with (first | (go_at_call 43; refine (over_none p acts _ hm.c4 (hm.sp 4 (by omega)) hm.c6 a0 a1).mono ?_; rintro e w' ⟨rfl, rfl⟩))
      go_end0
      exact ⟨rfl, am.setCell _ _ (by simp), hm.setActs _⟩

end
end Go.Proofs.Ytbkhggfhjadfdaa

import Derived.Test.YtbkhggfhjadfdaaAct
import Derived.Test.YtbkhggfhjadfdaaOver
import Derived.Test.YtbkhggfhjadfdaaMem
namespace Go.Proofs.Ytbkhggfhjadfdaa
open Go.RowKit

section
variable {w : World} {p bn bd bo bf : Nat} {now dn no : Nat → Int} {fl : Nat → Bool} {acts : Int}

/-- The power stays, nothing is evicted: a word is written. -/
theorem store_stay (h : Mem w p bn bd bo bf (.slice none 0 0) now dn no fl acts (-1)) (j : Nat) (hj : j < 64) (v : Int) (a0 : 0 ≤ acts) (a1 : acts ≤ 1000) :
    Calls Try.prog 9 #[.pointer (some ⟨p, 0, none⟩), .int .i64 j, .int .u64 v] w fun e w' =>
      e = .returned (.tuple #[]) ∧ Among [p, bn, bd, bo, bf] w w' ∧ Mem w' p bn bd bo bf (.slice none 0 0) (up now j v) dn no fl (acts + 1) (-1) := by
  have c0 := h.c0
  have cj : w.cell? ⟨bn, j, none⟩ = some (.int .u64 (now j)) := h.rn j hj
  have fj : w.frozen? ⟨bn, j, none⟩ = false := h.sn j hj
  have h2 := h.setNow hj v
  have jb : (0 : Int) ≤ (j : Int) := by omega
  have jc : (j : Int) < 64 := by omega
  go_enter Try.func9, Try.ntmps9
  go_wp2_with (first
    | (go_at_call 42; refine (act_stay p _ h.c5).mono ?_; rintro e w' ⟨rfl, rfl⟩)
    | (go_at_call 43; refine (over_none p acts _ h2.c4 (h2.sp 4 (by omega)) h2.c6 a0 a1).mono ?_; rintro e w' ⟨rfl, rfl⟩))
  go_end0
  exact ⟨rfl, ((Among.refl _ _).setCell _ _ (by simp)).setCell _ _ (by simp), h2.setActs _⟩

/-- The power is gone: nothing. -/
theorem store_gone {ev : Value} (h : Mem w p bn bd bo bf ev now dn no fl acts 0) (j : Nat) (hj : j < 64) (v : Int) :
    Calls Try.prog 9 #[.pointer (some ⟨p, 0, none⟩), .int .i64 j, .int .u64 v] w fun e w' => e = .returned (.tuple #[]) ∧ w' = w := by
  have c0 := h.c0
  have jb : (0 : Int) ≤ (j : Int) := by omega
  have jc : (j : Int) < 64 := by omega
  go_enter Try.func9, Try.ntmps9
  go_wp2_with (first
    | (go_at_call 42; refine (act_gone p _ h.c5).mono ?_; rintro e w' ⟨rfl, rfl⟩))
  (try simp only [Exit.inBlock, Exit.then])
  refine bodyPost_ret (results_none rfl _ _ _) rfl ?_
  exact ⟨rfl, rfl⟩

/-- So many acts are left; the one eviction is of this act: a word is written, a line put down. -/
theorem store_hit {be c line : Nat} {left : Int} (h : Mem w p bn bd bo bf (.slice (some ⟨be, 0, none⟩) 1 c) now dn no fl acts left) (j : Nat) (hj : j < 64) (v : Int) (a0 : 0 ≤ acts) (a1 : acts ≤ 1000) (l1 : 1 ≤ left) (l2 : left ≤ 1000)
    (ha : w.cell? ⟨be, 0, none⟩ = some (.int .i64 (acts + 1))) (hl : w.cell? ⟨be, 1, none⟩ = some (.int .i64 line)) (hline : line < 8) (hbe : be ∉ [p, bn, bd, bo, bf]) :
    Calls Try.prog 9 #[.pointer (some ⟨p, 0, none⟩), .int .i64 j, .int .u64 v] w fun e w' =>
      e = .returned (.tuple #[]) ∧ Among [p, bn, bd, bo, bf] w w' ∧ Mem w' p bn bd bo bf (.slice (some ⟨be, 0, none⟩) 1 c) (up now j v) (mix (up now j v) dn (line * 8) 8) no fl (acts + 1) (left - 1) := by
  simp only [List.mem_cons, List.not_mem_nil, or_false, not_or] at hbe
  obtain ⟨n1, n2, n3, n4, n5⟩ := hbe
  have c0 := (h.setLeft (left - 1)).c0
  have c00 := h.c0
  have cj : (w.setCell ⟨p, 5, none⟩ (.int .i64 (left - 1))).cell? ⟨bn, j, none⟩ = some (.int .u64 (now j)) := (h.setLeft (left - 1)).rn j hj
  have fj : w.frozen? ⟨bn, j, none⟩ = false := h.sn j hj
  have h2 := (h.setLeft (left - 1)).setNow hj v
  have ha2 : ((w.setCell ⟨p, 5, none⟩ (.int .i64 (left - 1))).setCell ⟨bn, j, none⟩ (.int .u64 v)).cell? ⟨be, 0, none⟩ = some (.int .i64 (acts + 1)) := by
    rw [World.cell?_setCell_far _ _ _ _ (Ne.symm n2), World.cell?_setCell_far _ _ _ _ (Ne.symm n1)]; exact ha
  have hl2 : ((w.setCell ⟨p, 5, none⟩ (.int .i64 (left - 1))).setCell ⟨bn, j, none⟩ (.int .u64 v)).cell? ⟨be, 1, none⟩ = some (.int .i64 line) := by
    rw [World.cell?_setCell_far _ _ _ _ (Ne.symm n2), World.cell?_setCell_far _ _ _ _ (Ne.symm n1)]; exact hl
  have jb : (0 : Int) ≤ (j : Int) := by omega
  have jc : (j : Int) < 64 := by omega
  clear ha hl
  go_enter Try.func9, Try.ntmps9
  go_wp2_with (first
    | (go_at_call 42; refine (act_less p left _ h.c5 (h.sp 5 (by omega)) l1 l2).mono ?_; rintro e w' ⟨rfl, rfl⟩)
    | (go_at_call 43; refine (over_hit p bn bd bf be c line (up now j v) dn acts _ h2.c4 (h2.sp 4 (by omega)) h2.c0 h2.c1 h2.c3 h2.c6 ha2 hl2 a0 a1 (Ne.symm n1) h2.rd h2.sd h2.rn h.pd h.nd (Ne.symm h.pn) n3 hline).mono ?_; rintro e w' ⟨rfl, w1, rfl, o1, r1⟩))
  go_end0
  exact ⟨rfl, (((Among.refl _ _).setCell _ _ (by simp)).setCell _ _ (by simp) |>.setCell _ _ (by simp)).trans (o1.among (by simp)), (h2.setActs _).downTo o1 r1⟩

end
end Go.Proofs.Ytbkhggfhjadfdaa

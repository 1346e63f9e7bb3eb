import Derived.Test.YtbkhggfhjadfdaaStore
namespace Go.Proofs.Ytbkhggfhjadfdaa
open Go.RowKit

theorem wrap_small {x : Int} (h0 : 0 ≤ x) (h1 : x ≤ 1000000) : IntKind.i64.wrap x = x := by
  rw [IntKind.wrap_i64]; omega

section
variable {w : World} {p bn bd bo bf : Nat} {ev : Value} {now dn no : Nat → Int} {fl : Nat → Bool} {acts left : Int}

/-- What Flush does from its loop on: a line is noted, its flag set; then 'over'. The loop alone: -/
theorem flush_loop_rel (h : Mem w p bn bd bo bf ev now dn no fl acts left) {wr : World} {line k : Nat} (o : Only bo w wr) (r : RowAt wr bo 64 (U (mix now no (line * 8) k))) :
    Mem wr p bn bd bo bf ev now dn (mix now no (line * 8) k) fl acts left := h.notedTo o r

/-- The power stays, nothing is evicted. -/
theorem flush_stay (h : Mem w p bn bd bo bf (.slice none 0 0) now dn no fl acts (-1)) (line : Nat) (hl : line < 8) (a0 : 0 ≤ acts) (a1 : acts ≤ 1000) :
    Calls Try.prog 11 #[.pointer (some ⟨p, 0, none⟩), .int .i64 line] w fun e w' =>
      e = .returned (.tuple #[]) ∧ Among [p, bn, bd, bo, bf] w w' ∧ Mem w' p bn bd bo bf (.slice none 0 0) now dn (mix now no (line * 8) 8) (up fl line true) (acts + 1) (-1) := by
  have c0 := h.c0
  have jb : (0 : Int) ≤ (line : Int) := by omega
  have jc : (line : Int) < 8 := by omega
  have jd : (0 : Int) ≤ (line : Int) * 8 := by omega
  have je : (line : Int) * 8 < 64 := by omega
  go_enter Try.func11, Try.ntmps11
  go_wp2_with (first | (go_at_call 42; refine (act_stay p _ h.c5).mono ?_; rintro e w' ⟨rfl, hw⟩; obtain rfl := hw.symm))
  go_loopw [4] (fun i w' => ∃ k : Nat, k ≤ 8 ∧ i = .int .i64 k ∧ Only bo w w' ∧ RowAt w' bo 64 (U (mix now no (line * 8) k))) (fun i _ => 8 - (intOf i).toNat)
  case atStart => exact ⟨0, by omega, rfl, Only.refl _ _, by rw [mix_zero]; exact h.ro⟩
  case round =>
    obtain ⟨k, hk, rfl, ho, hr⟩ := hrel
    have hm := h.notedTo ho hr
    have e0 := hm.c0
    have e2 := hm.c2
    have e3 := hm.c3
    by_cases hlt : k < 8
    · have ex : wr.cell? ⟨bn, line * 8 + k, none⟩ = some (.int .u64 (now (line * 8 + k))) := hm.rn _ (by omega)
      have ed : wr.cell? ⟨bo, line * 8 + k, none⟩ = some (.int .u64 (mix now no (line * 8) k (line * 8 + k))) := hm.ro _ (by omega)
      have ef : wr.frozen? ⟨bo, line * 8 + k, none⟩ = false := hm.so _ (by omega)
      have b0 : (0 : Int) ≤ (line : Int) * 8 + k := by omega
      have b1 : (line : Int) * 8 + k < 64 := by omega
      have et : ((line : Int) * 8 + (k : Int)).toNat = line * 8 + k := by omega
      have k0 : ∀ v, (wr.setCell ⟨bo, line * 8 + k, none⟩ v).cell? ⟨p, 0, none⟩ = some (.slice (some ⟨bn, 0, none⟩) 64 64) := fun v => by rw [World.cell?_setCell_far _ _ _ _ (Ne.symm h.po)]; exact e0
      have k2 : ∀ v, (wr.setCell ⟨bo, line * 8 + k, none⟩ v).cell? ⟨p, 2, none⟩ = some (.slice (some ⟨bo, 0, none⟩) 64 64) := fun v => by rw [World.cell?_setCell_far _ _ _ _ (Ne.symm h.po)]; exact e2
      have kx : ∀ v, (wr.setCell ⟨bo, line * 8 + k, none⟩ v).cell? ⟨bn, line * 8 + k, none⟩ = some (.int .u64 (now (line * 8 + k))) := fun v => by rw [World.cell?_setCell_far _ _ _ _ (Ne.symm h.no')]; exact ex
      have w1 : IntKind.i64.wrap ((line : Int) * 8) = (line : Int) * 8 := wrap_small (by omega) (by omega)
      have w2 : IntKind.i64.wrap ((line : Int) * 8 + (k : Int)) = (line : Int) * 8 + (k : Int) := wrap_small (by omega) (by omega)
      clear c0 e3
      go_wp2_with fail
      go_region_held3 (fun w' => w'.cell? ⟨p, 0, none⟩ = some (.slice (some ⟨bn, 0, none⟩) 64 64) ∧ w'.cell? ⟨p, 2, none⟩ = some (.slice (some ⟨bo, 0, none⟩) 64 64) ∧ w'.cell? ⟨bn, line * 8 + k, none⟩ = some (.int .u64 (now (line * 8 + k))))
        (first | go_keep | simp [k0, k2, kx]) (fail)
      go_wp2
      go_roundw
      case rel => exact ⟨k + 1, by omega, by go_num, (ho.drew).setCell _ _ rfl, ((hr.drew).set (j := line * 8 + k) (by omega) _).congr fun i _ => mix_succ now no (line * 8) k i⟩
      case measure => simp [intOf]; omega
    · obtain rfl : k = 8 := by omega
      have cl : wr.cell? ⟨bf, line, none⟩ = some (.bool (fl line)) := hm.rf line (by omega)
      have fl1 : wr.frozen? ⟨bf, line, none⟩ = false := hm.sf line (by omega)
      have h2 := hm.setFlag (j := line) (by omega) true
      clear c0 e2
      go_wp2_with (first | (go_at_call 43; refine (over_none p acts _ h2.c4 (h2.sp 4 (by omega)) h2.c6 a0 a1).mono ?_; rintro e w' ⟨rfl, rfl⟩))
      go_end0
      exact ⟨rfl, ((ho.among (by simp)).setCell _ _ (by simp)).setCell _ _ (by simp), h2.setActs _⟩

/-- So many acts are left; the one eviction is of another act. -/
theorem flush_miss {be c : Nat} {x : Int} (h0 : Mem w p bn bd bo bf (.slice (some ⟨be, 0, none⟩) 1 c) now dn no fl acts left) (line : Nat) (hl : line < 8) (a0 : 0 ≤ acts) (a1 : acts ≤ 1000) (l1 : 1 ≤ left) (l2 : left ≤ 1000)
    (ha0 : w.cell? ⟨be, 0, none⟩ = some (.int .i64 x)) (hx : (x == acts + 1) = false) (hbe : be ∉ [p, bn, bd, bo, bf]) :
    Calls Try.prog 11 #[.pointer (some ⟨p, 0, none⟩), .int .i64 line] w fun e w' =>
      e = .returned (.tuple #[]) ∧ Among [p, bn, bd, bo, bf] w w' ∧ Mem w' p bn bd bo bf (.slice (some ⟨be, 0, none⟩) 1 c) now dn (mix now no (line * 8) 8) (up fl line true) (acts + 1) (left - 1) := by
  simp only [List.mem_cons, List.not_mem_nil, or_false, not_or] at hbe
  obtain ⟨n1, n2, n3, n4, n5⟩ := hbe
  have c00 := h0.c0
  have h := h0.setLeft (left - 1)
  have hW : Among [p, bn, bd, bo, bf] w (w.setCell ⟨p, 5, none⟩ (.int .i64 (left - 1))) := (Among.refl _ _).setCell _ _ (by simp)
  have ha : (w.setCell ⟨p, 5, none⟩ (.int .i64 (left - 1))).cell? ⟨be, 0, none⟩ = some (.int .i64 x) := by
    rw [World.cell?_setCell_far _ _ _ _ (Ne.symm n1)]; exact ha0
  have c5 := h0.c5
  have f5 := h0.sp 5 (by omega)
  clear ha0 h0
  have c0 := h.c0
  have jb : (0 : Int) ≤ (line : Int) := by omega
  have jc : (line : Int) < 8 := by omega
  have jd : (0 : Int) ≤ (line : Int) * 8 := by omega
  have je : (line : Int) * 8 < 64 := by omega
  go_enter Try.func11, Try.ntmps11
  go_wp2_with (first | (go_at_call 42; refine (act_less p left _ c5 f5 l1 l2).mono ?_; rintro e w' ⟨rfl, rfl⟩))
  generalize (w.setCell ⟨p, 5, none⟩ (.int .i64 (left - 1))) = W at *
  clear c00 c5 f5
  go_loopw [4] (fun i w' => ∃ k : Nat, k ≤ 8 ∧ i = .int .i64 k ∧ Only bo W w' ∧ RowAt w' bo 64 (U (mix now no (line * 8) k))) (fun i _ => 8 - (intOf i).toNat)
  case atStart => exact ⟨0, by omega, rfl, Only.refl _ _, by rw [mix_zero]; exact h.ro⟩
  case round =>
    obtain ⟨k, hk, rfl, ho, hr⟩ := hrel
    have hm := h.notedTo ho hr
    have e0 := hm.c0
    have e2 := hm.c2
    have e3 := hm.c3
    by_cases hlt : k < 8
    · have ex : wr.cell? ⟨bn, line * 8 + k, none⟩ = some (.int .u64 (now (line * 8 + k))) := hm.rn _ (by omega)
      have ed : wr.cell? ⟨bo, line * 8 + k, none⟩ = some (.int .u64 (mix now no (line * 8) k (line * 8 + k))) := hm.ro _ (by omega)
      have ef : wr.frozen? ⟨bo, line * 8 + k, none⟩ = false := hm.so _ (by omega)
      have b0 : (0 : Int) ≤ (line : Int) * 8 + k := by omega
      have b1 : (line : Int) * 8 + k < 64 := by omega
      have et : ((line : Int) * 8 + (k : Int)).toNat = line * 8 + k := by omega
      have k0 : ∀ v, (wr.setCell ⟨bo, line * 8 + k, none⟩ v).cell? ⟨p, 0, none⟩ = some (.slice (some ⟨bn, 0, none⟩) 64 64) := fun v => by rw [World.cell?_setCell_far _ _ _ _ (Ne.symm h.po)]; exact e0
      have k2 : ∀ v, (wr.setCell ⟨bo, line * 8 + k, none⟩ v).cell? ⟨p, 2, none⟩ = some (.slice (some ⟨bo, 0, none⟩) 64 64) := fun v => by rw [World.cell?_setCell_far _ _ _ _ (Ne.symm h.po)]; exact e2
      have kx : ∀ v, (wr.setCell ⟨bo, line * 8 + k, none⟩ v).cell? ⟨bn, line * 8 + k, none⟩ = some (.int .u64 (now (line * 8 + k))) := fun v => by rw [World.cell?_setCell_far _ _ _ _ (Ne.symm h.no')]; exact ex
      have w1 : IntKind.i64.wrap ((line : Int) * 8) = (line : Int) * 8 := wrap_small (by omega) (by omega)
      have w2 : IntKind.i64.wrap ((line : Int) * 8 + (k : Int)) = (line : Int) * 8 + (k : Int) := wrap_small (by omega) (by omega)
      clear c0 e3
      go_wp2_with fail
      go_region_held3 (fun w' => w'.cell? ⟨p, 0, none⟩ = some (.slice (some ⟨bn, 0, none⟩) 64 64) ∧ w'.cell? ⟨p, 2, none⟩ = some (.slice (some ⟨bo, 0, none⟩) 64 64) ∧ w'.cell? ⟨bn, line * 8 + k, none⟩ = some (.int .u64 (now (line * 8 + k))))
        (first | go_keep | simp [k0, k2, kx]) (fail)
      go_wp2
      go_roundw
      case rel => exact ⟨k + 1, by omega, by go_num, (ho.drew).setCell _ _ rfl, ((hr.drew).set (j := line * 8 + k) (by omega) _).congr fun i _ => mix_succ now no (line * 8) k i⟩
      case measure => simp [intOf]; omega
    · obtain rfl : k = 8 := by omega
      have cl : wr.cell? ⟨bf, line, none⟩ = some (.bool (fl line)) := hm.rf line (by omega)
      have fl1 : wr.frozen? ⟨bf, line, none⟩ = false := hm.sf line (by omega)
      have h2 := hm.setFlag (j := line) (by omega) true
      clear c0 e2
      have ha2 : (wr.setCell ⟨bf, line, none⟩ (.bool true)).cell? ⟨be, 0, none⟩ = some (.int .i64 x) := by
        rw [World.cell?_setCell_far _ _ _ _ (Ne.symm n5), ho.cell n4]; exact ha
      go_wp2_with (first | (go_at_call 43; refine (over_miss p be c acts x _ h2.c4 (h2.sp 4 (by omega)) h2.c6 ha2 a0 a1 hx (Ne.symm n1)).mono ?_; rintro e w' ⟨rfl, o3, q1, q2⟩))
      go_end0
      refine ⟨rfl, (hW.trans ((ho.among (by simp)).setCell _ _ (by simp))).trans (o3.among (by simp)), h2.hdrTo o3 ?_⟩
      intro i hi
      by_cases e : i = 4
      · subst e; exact q2
      · rw [q1 i e, h2.hdr i hi, ← hdr_acts bn bd bo bf _ acts _ (acts + 1) i, if_neg e]

end
end Go.Proofs.Ytbkhggfhjadfdaa

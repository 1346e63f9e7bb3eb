import Derived.Test.YtbkhggfhjadfdaaFence
import Derived.Deep.AppendLies
import Derived.KernelRfl
namespace Go.Proofs.Ytbkhggfhjadfdaa
open Go.RowKit

/-- What was there is as it was, but for some blocks; there may be new ones. -/
structure Kept (l : List Nat) (w w' : World) : Prop where
  os : w'.os = w.os
  tape : w'.tape = w.tape
  output : w'.output = w.output
  size : w.heap.size ≤ w'.heap.size
  block : ∀ k, k < w.heap.size → k ∉ l → w'.heap[k]? = w.heap[k]?

theorem Kept.refl (l : List Nat) (w : World) : Kept l w w := ⟨rfl, rfl, rfl, Nat.le_refl _, fun _ _ _ => rfl⟩
theorem Kept.trans {l : List Nat} {u v w : World} (h : Kept l u v) (k : Kept l v w) : Kept l u w :=
  ⟨k.os.trans h.os, k.tape.trans h.tape, k.output.trans h.output, Nat.le_trans h.size k.size, fun i hi hl => (k.block i (Nat.lt_of_lt_of_le hi h.size) hl).trans (h.block i hi hl)⟩
theorem Among.kept {l : List Nat} {u v : World} (h : Among l u v) : Kept l u v := ⟨h.os, h.tape, h.output, Nat.le_of_eq h.size.symm, fun k _ hl => h.block k hl⟩
theorem Kept.weak {l l' : List Nat} {u v : World} (h : Kept l u v) (hl : ∀ k, k ∈ l → k ∈ l') : Kept l' u v := ⟨h.os, h.tape, h.output, h.size, fun k hk hn => h.block k hk (fun e => hn (hl k e))⟩
theorem Kept.alloc (l : List Nat) (w : World) (o : Obj) : Kept l w (w.alloc o) := ⟨rfl, rfl, rfl, by simp, fun k hk _ => Below.heap_alloc _ _ _ hk⟩
theorem Kept.grown {l : List Nat} {w w' : World} {row : Option Nat} (hg : w.grownBy w' row) (hr : ∀ k, row = some k → k ∈ l) : Kept l w w' :=
  ⟨hg.os, hg.tape, hg.output, hg.size, fun k hk hl => hg.block k hk (fun e => hl (hr k e.symm))⟩
theorem Kept.below {l : List Nat} {u v : World} (h : Kept l u v) (B : Nat) (hB : B ≤ u.heap.size) (hl : ∀ b ∈ l, B ≤ b) : Below B u v :=
  ⟨h.os, h.tape, h.output, h.size, fun k hk => h.block k (by omega) (fun hm => by have := hl k hm; omega)⟩
theorem Kept.drew {l : List Nat} {u v : World} (h : Kept l u v) : Kept l u v.drew := ⟨h.os, h.tape, h.output, h.size, h.block⟩

/-- A new row, and what was appended to it. -/
theorem kept_append {w w1 : World} {o : Obj} {n c : Nat} (hg : (w.alloc o).grownBy w1 (Value.slice (some ⟨w.heap.size, 0, none⟩) n c).ownBlock) : Kept [] w w1 :=
  ⟨hg.os, hg.tape, hg.output, by have := hg.size; simp at this; omega, fun k hk _ => (hg.block k (by simp; omega) (by simp [Value.ownBlock]; omega)).trans (Below.heap_alloc _ _ _ hk)⟩
theorem new_append {w : World} {n c g : Nat} (hat : (Value.slice (some ⟨w.heap.size, 0, none⟩) n c).ownBlock = some g ∨ g = w.heap.size + 1) : w.heap.size ≤ g := by
  rcases hat with h | h
  · simp [Value.ownBlock] at h; omega
  · omega

theorem info27 : (Try.prog.info? 27).map (fun i => (i.zero, i.size, i.bytes)) = some (some (.int .u64 0), 1, 8) := by kernel_rfl

/-- The cells of a row, behind a name. -/
def cellsOf (n : Nat) (f : Nat → Value) : List Value := (List.range n).map f
theorem cellsOf_length (n : Nat) (f : Nat → Value) : (cellsOf n f).length = n * 1 := by unfold cellsOf; rw [List.length_map, List.length_range, Nat.mul_one]
theorem cellsOf_one (n : Nat) (f : Nat → Int) : ∀ u ∈ cellsOf n (U f), u.oneCell' = true := by
  intro u hu
  unfold cellsOf at hu
  obtain ⟨_, _, rfl⟩ := List.mem_map.1 hu
  rfl

theorem rowCells {w : World} {b n : Nat} {f : Nat → Value} (h : RowAt w b n f) : ∀ j u, (cellsOf n f)[j]? = some u → w.cell? ((⟨b, 0, none⟩ : Addr).add j) = some u := by
  intro j u hj
  unfold cellsOf at hj
  rw [List.getElem?_map] at hj
  rcases Nat.lt_or_ge j n with hlt | hge
  · rw [List.getElem?_range hlt] at hj
    simp at hj
    subst hj
    have := h j hlt
    rw [Addr.add_lit]; simpa using this
  · rw [List.getElem?_eq_none (by simpa using hge)] at hj
    simp at hj

theorem rowOf {w : World} {base : Nat} {e : TypeId} {g n cap : Nat} {f : Nat → Value} (h : w.ownsRow base e 1 (.slice (some ⟨g, 0, none⟩) n cap) n (cellsOf n f)) : RowAt w g n f := by
  intro i hi
  rcases h.2 with ⟨h0, _⟩ | ⟨g', cap', cur, hv, _, hh, _, _, _, ht⟩
  · cases h0
  · cases hv
    simp only [World.cell?, hh]
    have e1 : (List.take (n * 1) cur.toList)[i]? = some (f i) := by
      rw [ht]; unfold cellsOf; rw [List.getElem?_map, List.getElem?_range hi]; rfl
    rw [List.getElem?_take, if_pos (by omega)] at e1
    simpa using e1

set_option maxHeartbeats 400000 in
theorem image_any {w : World} {p bd : Nat} {dn : Nat → Int} (c1 : w.cell? ⟨p, 1, none⟩ = some (.slice (some ⟨bd, 0, none⟩) 64 64)) (hd : RowAt w bd 64 (U dn)) :
    Calls Try.prog 10 #[.pointer (some ⟨p, 0, none⟩)] w fun e w' =>
      ∃ g cap, e = .returned (.slice (some ⟨g, 0, none⟩) 64 cap) ∧ w.heap.size ≤ g ∧ g < w'.heap.size ∧ RowAt w' g 64 (U dn) ∧ Kept [] w w' := by
  obtain ⟨i0, hi0, hz0, hz1, hz2⟩ := info_parts info27
  have lp : p < w.heap.size := World.block_lt_of_cell? w _ c1
  have ld : bd < w.heap.size := World.block_lt_of_cell? w _ (hd 0 (by omega))
  go_enter Try.func10, Try.ntmps10
  have hown : (w.alloc (.cells #[] 27)).ownsRow w.heap.size 27 1 (.slice (some ⟨w.heap.size, 0, none⟩) 0 0) 0 [] :=
    ⟨rfl, .inr ⟨w.heap.size, 0, #[], rfl, Nat.le_refl _, by rw [heap_alloc_new], Nat.le_refl _, by unfold maxLen; omega, rfl, rfl⟩⟩
  have hd2 : RowAt (w.alloc (.cells #[] 27)) bd 64 (U dn) := hd.far (Below.heap_alloc _ _ _ ld)
  have hmax : 0 + 64 ≤ maxLen := by unfold maxLen; omega
  go_wp2_with (at_builtin; refine wpList_append_lies _ rfl _ _ _ rfl w.heap.size 27 i0 _ 1 8 Try.underlying25 hi0 hz0 hz1 hz2 rfl (by omega) _ 0 [] rfl hown ⟨bd, 0, none⟩ 64 64 (cellsOf 64 (U dn)) rfl (cellsOf_length _ _) (rowCells hd2) (cellsOf_one _ _) (by omega) hmax (by omega) (by simp) (w.heap.size + 1) (by simp) ?_)
  intro g cap w1 hown1 hgrow hat hlt
  go_wp2
  go_ret
  have hr : RowAt w1 g 64 (U dn) := rowOf (by simpa using hown1)
  exact ⟨g, cap, by simp, new_append hat, hlt, hr, kept_append hgrow⟩

theorem rowOf2 {w : World} {base : Nat} {e : TypeId} {g cap : Nat} {x y : Value} (h : w.ownsRow base e 2 (.slice (some ⟨g, 0, none⟩) 1 cap) 1 [x, y]) : w.cell? ⟨g, 0, none⟩ = some x ∧ w.cell? ⟨g, 1, none⟩ = some y := by
  rcases h.2 with ⟨h0, _⟩ | ⟨g', cap', cur, hv, _, hh, _, _, _, ht⟩
  · cases h0
  · cases hv
    simp only [World.cell?, hh]
    have e0 : (List.take (1 * 2) cur.toList)[0]? = some x := by rw [ht]; rfl
    have e1 : (List.take (1 * 2) cur.toList)[1]? = some y := by rw [ht]; rfl
    rw [List.getElem?_take, if_pos (by omega)] at e0 e1
    exact ⟨by simpa using e0, by simpa using e1⟩

theorem info32 : (Try.prog.info? 32).map (fun i => (i.zero, i.size, i.bytes)) = some (some (.agg #[.int .i64 0, .int .i64 0]), 2, 16) := by kernel_rfl

set_option maxHeartbeats 400000 in
/-- Plan, with one eviction. -/
theorem plan_one {w : World} {p bn bd bo bf bx : Nat} {ev : Value} {now dn no : Nat → Int} {fl : Nat → Bool} {acts left : Int} (h : Mem w p bn bd bo bf ev now dn no fl acts left) (left2 a l : Int)
    (hx0 : w.cell? ⟨bx, 0, none⟩ = some (.int .i64 a)) (hx1 : w.cell? ⟨bx, 1, none⟩ = some (.int .i64 l)) (nx : bx ≠ p) :
    Calls Try.prog 13 #[.pointer (some ⟨p, 0, none⟩), .int .i64 left2, .slice (some ⟨bx, 0, none⟩) 1 1] w fun e w' =>
      e = .returned (.tuple #[]) ∧ ∃ g cap, w.heap.size ≤ g ∧ g < w'.heap.size ∧ w'.cell? ⟨g, 0, none⟩ = some (.int .i64 a) ∧ w'.cell? ⟨g, 1, none⟩ = some (.int .i64 l) ∧ Kept [p] w w' ∧
        Mem w' p bn bd bo bf (.slice (some ⟨g, 0, none⟩) 1 cap) now dn no fl 0 left2 := by
  obtain ⟨i0, hi0, hz0, hz1, hz2⟩ := info_parts info32
  have c5 := h.c5
  have f5 := h.sp 5 (by omega)
  have h2 := h.setLeft left2
  have c4 := h2.c4
  have f4 := h.sp 4 (by omega)
  have h3 := h2.setActs 0
  have c6 := h3.c6
  have f6 := h.sp 6 (by omega)
  have lx : bx < w.heap.size := World.block_lt_of_cell? w _ hx0
  have lp : p < w.heap.size := World.block_lt_of_cell? w _ c5
  have es : ((w.setCell ⟨p, 5, none⟩ (.int .i64 left2)).setCell ⟨p, 4, none⟩ (.int .i64 0)).heap.size = w.heap.size := by simp [World.setCell]
  have k3 : Kept [p] w ((w.setCell ⟨p, 5, none⟩ (.int .i64 left2)).setCell ⟨p, 4, none⟩ (.int .i64 0)) := (((Among.refl [p] w).setCell _ _ (by simp)).setCell _ _ (by simp)).kept
  have y0 : ((w.setCell ⟨p, 5, none⟩ (.int .i64 left2)).setCell ⟨p, 4, none⟩ (.int .i64 0)).cell? ⟨bx, 0, none⟩ = some (.int .i64 a) := by
    rw [World.cell?_setCell_far _ _ _ _ (Ne.symm nx), World.cell?_setCell_far _ _ _ _ (Ne.symm nx)]; exact hx0
  have y1 : ((w.setCell ⟨p, 5, none⟩ (.int .i64 left2)).setCell ⟨p, 4, none⟩ (.int .i64 0)).cell? ⟨bx, 1, none⟩ = some (.int .i64 l) := by
    rw [World.cell?_setCell_far _ _ _ _ (Ne.symm nx), World.cell?_setCell_far _ _ _ _ (Ne.symm nx)]; exact hx1
  have hmax : 0 + 1 ≤ maxLen := by unfold maxLen; omega
  go_enter Try.func13, Try.ntmps13
  generalize hW : (w.setCell ⟨p, 5, none⟩ (.int .i64 left2)).setCell ⟨p, 4, none⟩ (.int .i64 0) = W at *
  have hown : (W.alloc (.cells #[] 32)).ownsRow w.heap.size 32 2 (.slice (some ⟨w.heap.size, 0, none⟩) 0 0) 0 [] :=
    ⟨rfl, .inr ⟨w.heap.size, 0, #[], rfl, Nat.le_refl _, by rw [← es, heap_alloc_new], Nat.le_refl _, by unfold maxLen; omega, rfl, rfl⟩⟩
  subst hW
  go_wp2_with (at_builtin; refine wpList_append_lies _ rfl _ _ _ rfl w.heap.size 32 i0 _ 2 16 Try.underlying33 hi0 hz0 hz1 hz2 rfl (by omega) _ 0 [] rfl hown ⟨bx, 0, none⟩ 1 1 [.int .i64 a, .int .i64 l] rfl rfl ?_ ?_ (by omega) hmax (by omega) (by simp) (w.heap.size + 1) (by simp) ?_)
  · intro j u hj
    rcases j with _ | _ | j
    · simp only [List.getElem?_cons_zero, Option.some.injEq] at hj
      subst hj
      rw [Addr.add_lit, World.cell?_of_block (Below.heap_alloc _ _ _ (by rw [es]; exact lx))]; exact y0
    · simp only [List.getElem?_cons_succ, List.getElem?_cons_zero, Option.some.injEq] at hj
      subst hj
      rw [Addr.add_lit, World.cell?_of_block (Below.heap_alloc _ _ _ (by rw [es]; exact lx))]; exact y1
    · simp at hj
  · intro u hu
    simp only [List.mem_cons, List.not_mem_nil, or_false] at hu
    rcases hu with rfl | rfl <;> rfl
  · intro g cap w1 hown1 hgrow hat hlt
    have hg := new_append hat
    have hold : ∀ k, k < w.heap.size → w1.heap[k]? = ((w.setCell ⟨p, 5, none⟩ (.int .i64 left2)).setCell ⟨p, 4, none⟩ (.int .i64 0)).heap[k]? := fun k hk =>
      (hgrow.block k (by simp; omega) (by simp [Value.ownBlock]; omega)).trans (Below.heap_alloc _ _ _ (by rw [es]; exact hk))
    have hm : Mem w1 p bn bd bo bf ev now dn no fl 0 left2 := h3.far fun k hk => hold k (by
      simp only [List.mem_cons, List.not_mem_nil, or_false] at hk
      rcases hk with rfl | rfl | rfl | rfl | rfl
      · exact lp
      · exact World.block_lt_of_cell? w _ (h.rn 0 (by omega))
      · exact World.block_lt_of_cell? w _ (h.rd 0 (by omega))
      · exact World.block_lt_of_cell? w _ (h.ro 0 (by omega))
      · exact World.block_lt_of_cell? w _ (h.rf 0 (by omega)))
    have d6 := hm.c6
    have g6 := hm.sp 6 (by omega)
    have h4 := hm.setEv (.slice (some ⟨g, 0, none⟩) 1 cap)
    obtain ⟨z0, z1⟩ := rowOf2 hown1
    have kk : Kept [p] w w1 := ⟨hgrow.os.trans k3.os, hgrow.tape.trans k3.tape, hgrow.output.trans k3.output, (by have := hgrow.size; simp at this; omega), fun k hk hl => (hold k hk).trans (k3.block k hk hl)⟩
    clear hold
    go_wp2
    go_end0
    refine ⟨rfl, g, cap, hg, by simpa [World.setCell] using hlt, ?_, ?_, ?_, h4⟩
    · rw [World.cell?_setCell_far _ _ _ _ (by show p ≠ g; omega)]; exact z0
    · rw [World.cell?_setCell_far _ _ _ _ (by show p ≠ g; omega)]; exact z1
    · exact kk.trans ((Among.refl [p] w1).setCell _ _ (by simp)).kept

end Go.Proofs.Ytbkhggfhjadfdaa

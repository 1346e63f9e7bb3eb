import Derived.Test.YtbkhggfhjadfdaaNew
namespace Go.Proofs.Ytbkhggfhjadfdaa
open Go.RowKit

theorem num_any (n : Int) (w : World) : Calls Try.prog 16 #[.int .i64 n] w fun e w' => e = .returned (.int .i64 n) ∧ w' = w := by
  go_enter Try.func16, Try.ntmps16
  go_wp2
  go_ret
  exact ⟨rfl, rfl⟩

/-- A list that has been handed out stays as it is. -/
theorem RowAt.kept {w w' : World} {g n : Nat} {f : Nat → Value} {l : List Nat} (h : RowAt w g n f) (k : Kept l w w') (hg : g < w.heap.size) (hl : g ∉ l) : RowAt w' g n f := h.far (k.block g hg hl)
theorem Mem.kept {w w' : World} {p bn bd bo bf : Nat} {ev : Value} {now dn no : Nat → Int} {fl : Nat → Bool} {acts left : Int} (h : Mem w p bn bd bo bf ev now dn no fl acts left) (k : Kept [] w w') : Mem w' p bn bd bo bf ev now dn no fl acts left :=
  h.far fun i hi => k.block i (by
    simp only [List.mem_cons, List.not_mem_nil, or_false] at hi
    rcases hi with rfl | rfl | rfl | rfl | rfl
    · exact World.block_lt_of_cell? w _ h.c0
    · exact World.block_lt_of_cell? w _ (h.rn 0 (by omega))
    · exact World.block_lt_of_cell? w _ (h.rd 0 (by omega))
    · exact World.block_lt_of_cell? w _ (h.ro 0 (by omega))
    · exact World.block_lt_of_cell? w _ (h.rf 0 (by omega))) (by simp)

theorem zs64_row (w : World) : RowAt (w.alloc (.cells zs64 27)) w.heap.size 64 (U (fun _ => 0)) := row_of_block (heap_alloc_new w _) zs64_at
theorem not_in {n m : Nat} {l : List Nat} {g : Nat} (h : New5 n m l) (hg : m ≤ g) : g ∉ l := fun e => by have := h g e; omega

set_option maxHeartbeats 2000000 in
theorem names_any (w : World) : Calls Try.prog 3 #[] w fun e w' => e = .returned (.bool true) ∧ Below w.heap.size w w' := by
  have m64 := make64
  go_enter Try.func3, Try.ntmps3
  go_wp2_with fail
  -- NewMemory
  refine (new_any (zs64_row w)).mono ?_
  rintro e w1 ⟨p, rfl, bn, bd, bo, bf, M1, k1, l1⟩
  have K1 : Below w.heap.size w w1 := ((Below.refl _ _).alloc (Nat.le_refl _) _).trans (k1.below _ (by simp) (by simp))
  clear m64
  have S1 : w.heap.size < w1.heap.size := by have := k1.size; simp at this; omega
  have l1' : New5 w.heap.size w1.heap.size [p, bn, bd, bo, bf] := fun k hk => by have := l1 k hk; simp at this; omega
  clear l1 k1
  go_wp2_with fail
  refine (store_stay M1 9 (by omega) 7 (by omega) (by omega)).mono ?_
  rintro e w2 ⟨rfl, a2, M2⟩
  have k2 := a2.kept
  clear a2 M1
  go_wp2_with fail
  refine (image_any M2.c1 M2.rd).mono ?_
  rintro e w3 ⟨ga, ca, rfl, hga, hga', ra, k3⟩
  have M3 := M2.kept k3
  clear M2
  go_wp2_with fail
  refine (flush_stay M3 1 (by omega) (by omega) (by omega)).mono ?_
  rintro e w4 ⟨rfl, a4, M4⟩
  have k4 := a4.kept
  clear a4 M3
  go_wp2_with fail
  refine (store_stay M4 9 (by omega) 8 (by omega) (by omega)).mono ?_
  rintro e w5 ⟨rfl, a5, M5⟩
  have k5 := a5.kept
  clear a5 M4
  go_wp2_with fail
  refine (image_any M5.c1 M5.rd).mono ?_
  rintro e w6 ⟨gb, cb, rfl, hgb, hgb', rb, k6⟩
  have M6 := M5.kept k6
  clear M5
  go_wp2_with fail
  refine (fence_one M6 1 (by omega) ?_ (by omega) (by omega)).mono ?_
  · intro i _
    by_cases e : i = 1 <;> simp [up, e]
  rintro e w7 ⟨rfl, a7, M7⟩
  have k7 := a7.kept
  clear a7 M6
  go_wp2_with fail
  refine (image_any M7.c1 M7.rd).mono ?_
  rintro e w8 ⟨gc, cc, rfl, hgc, hgc', rc, k8⟩
  have M8 := M7.kept k8
  clear M7
  go_wp2_with fail
  -- Plan
  have kx : Kept [] w8 (w8.alloc (.cells #[.int .i64 1, .int .i64 1] 32)) := Kept.alloc [] w8 _
  have hx : (w8.alloc (.cells #[.int .i64 1, .int .i64 1] 32)).heap[w8.heap.size]? = some (.cells #[.int .i64 1, .int .i64 1] 32) := heap_alloc_new w8 _
  have lp : p < w8.heap.size := World.block_lt_of_cell? w8 _ M8.c0
  refine (plan_one (bx := w8.heap.size) (M8.kept kx) 2 1 1 ?_ ?_ (by omega)).mono ?_
  · simp only [World.cell?, hx]; rfl
  · simp only [World.cell?, hx]; rfl
  rintro e w9 ⟨rfl, ge, ce, hge, hge', r0, r1, k9, M9⟩
  clear hx M8 lp
  have s2 := k2.size; have s3 := k3.size; have s4 := k4.size; have s5 := k5.size; have s6 := k6.size; have s7 := k7.size; have s8 := k8.size; have sx := kx.size
  have nge : ge ∉ [p, bn, bd, bo, bf] := not_in l1' (by omega)
  have s9 := k9.size
  clear s2 s3 s4 s5 s6 s7 s8 sx s9
  go_wp2_with fail
  refine (store_hit (line := 1) M9 10 (by omega) 5 (by omega) (by omega) (by omega) (by omega) r0 r1 (by omega) nge).mono ?_
  rintro e w10 ⟨rfl, a10, M10⟩
  have k10 := a10.kept
  clear a10 M9
  go_wp2_with fail
  refine (image_any M10.c1 M10.rd).mono ?_
  rintro e w11 ⟨gd, cd, rfl, hgd, hgd', rd, k11⟩
  have M11 := M10.kept k11
  clear M10
  go_wp2_with fail
  have r11 : w11.cell? ⟨ge, 0, none⟩ = some (.int .i64 1) := by
    rw [World.cell?_of_block (w := w10) (k11.block ge (by have := k10.size; omega) (by simp)), World.cell?_of_block (w := w9) (k10.block ge hge' nge)]; exact r0
  refine (flush_miss (x := 1) M11 1 (by omega) (by omega) (by omega) (by omega) (by omega) r11 (by decide) nge).mono ?_
  rintro e w12 ⟨rfl, a12, M12⟩
  have k12 := a12.kept
  clear a12 M11 r11 r0 r1
  go_wp2_with fail
  refine (fence_gone M12).mono ?_
  rintro e w13 ⟨rfl, hw⟩
  obtain rfl := hw.symm
  go_wp2_with fail
  refine (store_gone M12 9 (by omega) 6).mono ?_
  rintro e w14 ⟨rfl, hw⟩
  obtain rfl := hw.symm
  go_wp2_with fail
  refine (image_any M12.c1 M12.rd).mono ?_
  rintro e w15 ⟨gf, cf, rfl, hgf, hgf', rf, k15⟩
  have M15 := M12.kept k15
  clear M12
  have sp : ∀ {u v : World}, Kept [] u v → Kept [p, bn, bd, bo, bf] u v := fun h => h.weak (by simp)
  have sq : ∀ {u v : World}, Kept [p] u v → Kept [p, bn, bd, bo, bf] u v := fun h => h.weak (by simp)
  -- from the later worlds to the last
  have t12 := k12.trans (sp k15)
  have t11 := t12
  have t10 := (sp k11).trans t11
  have t9 := k10.trans t10
  have tx := (sq k9).trans t9
  have t8 := (sp kx).trans tx
  have t7 := (sp k8).trans t8
  have t6 := k7.trans t7
  have t5 := (sp k6).trans t6
  have t4 := k5.trans t5
  have t3 := k4.trans t4
  have t2 := (sp k3).trans t3
  have t1 := k2.trans t2
  have s1 := k2.size; have s2 := k3.size; have s3 := k4.size; have s4 := k5.size; have s5 := k6.size; have s6 := k7.size; have s7 := k8.size; have s8 := kx.size; have s9 := k9.size; have s10 := k10.size; have s11 := k11.size; have s12 := k12.size
  have na : ga ∉ [p, bn, bd, bo, bf] := not_in l1' (by omega)
  have nb : gb ∉ [p, bn, bd, bo, bf] := not_in l1' (by omega)
  have nc : gc ∉ [p, bn, bd, bo, bf] := not_in l1' (by omega)
  have nd : gd ∉ [p, bn, bd, bo, bf] := not_in l1' (by omega)
  have xa : w15.cell? ⟨ga, 9, none⟩ = some (.int .u64 0) := (ra.kept t3 hga' na) 9 (by omega)
  have xb : w15.cell? ⟨gb, 9, none⟩ = some (.int .u64 0) := (rb.kept t6 hgb' nb) 9 (by omega)
  have xc : w15.cell? ⟨gc, 9, none⟩ = some (.int .u64 7) := (rc.kept t8 hgc' nc) 9 (by omega)
  have xd : w15.cell? ⟨gd, 9, none⟩ = some (.int .u64 8) := (rd.kept t11 hgd' nd) 9 (by omega)
  have xe : w15.cell? ⟨gd, 10, none⟩ = some (.int .u64 5) := (rd.kept t11 hgd' nd) 10 (by omega)
  have xf : w15.cell? ⟨gf, 9, none⟩ = some (.int .u64 8) := rf 9 (by omega)
  have fin : Below w.heap.size w w15 := K1.trans (t1.below _ (Nat.le_of_lt S1) (fun b hb => (l1' b hb).1))
  clear t1 t2 t3 t4 t5 t6 t7 t8 t9 t10 t11 t12 tx s1 s2 s3 s4 s5 s6 s7 s8 s9 s10 s11 s12 ra rb rc rd rf K1 sp sq k2 k3 k4 k5 k6 k7 k8 k9 k10 k11 k12 k15 kx na nb nc nd nge hga hga' hgb hgb' hgc hgc' hgd hgd' hge hge' hgf hgf' l1' S1
  go_wp2_with (first
    | (go_at_call 14; refine (load_any M15 9 (by omega)).mono ?_; rintro e w16 ⟨rfl, hw⟩; obtain rfl := hw.symm)
    | (go_at_call 15; refine (gone_any M15).mono ?_; rintro e w16 ⟨rfl, hw⟩; obtain rfl := hw.symm)
    | (go_at_call 16; refine (num_any _ _).mono ?_; rintro e w16 ⟨rfl, hw⟩; obtain rfl := hw.symm))
  go_ret
  exact ⟨rfl, fin⟩

end Go.Proofs.Ytbkhggfhjadfdaa

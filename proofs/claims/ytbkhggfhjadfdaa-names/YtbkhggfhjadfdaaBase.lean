import Derived.WalkKit
import Derived.WalkSpells
namespace Go.Proofs.Ytbkhggfhjadfdaa
open Go.RowKit

/-- One block alone may have turned; its marks are as they were. -/
structure Only (b : Nat) (w w' : World) : Prop where
  os : w'.os = w.os
  tape : w'.tape = w.tape
  output : w'.output = w.output
  size : w'.heap.size = w.heap.size
  block : ∀ k, k ≠ b → w'.heap[k]? = w.heap[k]?
  frozen : ∀ a, w'.frozen? a = w.frozen? a

theorem Only.refl (b : Nat) (w : World) : Only b w w := ⟨rfl, rfl, rfl, rfl, fun _ _ => rfl, fun _ => rfl⟩
theorem Only.trans {b : Nat} {u v w : World} (h : Only b u v) (k : Only b v w) : Only b u w :=
  ⟨k.os.trans h.os, k.tape.trans h.tape, k.output.trans h.output, k.size.trans h.size, fun i hi => (k.block i hi).trans (h.block i hi), fun a => (k.frozen a).trans (h.frozen a)⟩
theorem Only.drew {b : Nat} {u v : World} (h : Only b u v) : Only b u v.drew := ⟨h.os, h.tape, h.output, h.size, h.block, h.frozen⟩
theorem Only.setCell {b : Nat} {u v : World} (h : Only b u v) (a : Addr) (x : Value) (ha : a.block = b) : Only b u (v.setCell a x) :=
  h.trans ⟨rfl, rfl, rfl, by simp [World.setCell], fun k hk => Below.heap_setCell _ _ _ _ (by omega), fun q => by simp⟩
theorem Only.cell {b : Nat} {u v : World} (h : Only b u v) {a : Addr} (ha : a.block ≠ b) : v.cell? a = u.cell? a := World.cell?_of_block (w := u) (h.block _ ha)

/-- A row of 64-bit words (or whatever) in a block, by a function. -/
def RowAt (w : World) (b n : Nat) (f : Nat → Value) : Prop := ∀ i, i < n → w.cell? ⟨b, i, none⟩ = some (f i)
/-- None of its places is frozen. -/
def Soft (w : World) (b n : Nat) : Prop := ∀ i, i < n → w.frozen? ⟨b, i, none⟩ = false

theorem RowAt.only {w w' : World} {b c n : Nat} {f : Nat → Value} (h : RowAt w b n f) (o : Only c w w') (hb : b ≠ c) : RowAt w' b n f :=
  fun i hi => by rw [o.cell (a := ⟨b, i, none⟩) hb]; exact h i hi
theorem Soft.only {w w' : World} {b c n : Nat} (h : Soft w b n) (o : Only c w w') : Soft w' b n := fun i hi => by rw [o.frozen]; exact h i hi

theorem RowAt.set {w : World} {b n j : Nat} {f : Nat → Value} (h : RowAt w b n f) (hj : j < n) (x : Value) : RowAt (w.setCell ⟨b, j, none⟩ x) b n (fun i => if i = j then x else f i) := by
  intro i hi
  by_cases e : i = j
  · subst e; simp; exact World.cell?_setCell_same (u := f i) _ _ _ (h i hi)
  · show _ = some (if i = j then x else f i)
    rw [if_neg e, World.cell?_setCell_other]
    · exact h i hi
    · intro e'; cases e'; exact e rfl

theorem RowAt.congr {w : World} {b n : Nat} {f g : Nat → Value} (h : RowAt w b n f) (e : ∀ i, i < n → f i = g i) : RowAt w b n g := fun i hi => by rw [h i hi, e i hi]
theorem RowAt.drew {w : World} {b n : Nat} {f : Nat → Value} (h : RowAt w b n f) : RowAt w.drew b n f := fun i hi => by simpa using h i hi
theorem Soft.setCell {w : World} {b n : Nat} (h : Soft w b n) (a : Addr) (x : Value) : Soft (w.setCell a x) b n := fun i hi => by simpa using h i hi
theorem Soft.drew {w : World} {b n : Nat} (h : Soft w b n) : Soft w.drew b n := fun i hi => by simpa using h i hi

theorem RowAt.heap {w w' : World} {b n : Nat} {f : Nat → Value} (h : RowAt w b n f) (e : w'.heap = w.heap) : RowAt w' b n f := fun i hi => by
  rw [World.cell?_of_block (w := w) (by rw [e])]; exact h i hi
theorem Soft.heap {w w' : World} {b n : Nat} (h : Soft w b n) (e : w'.heap = w.heap) : Soft w' b n := fun i hi => by
  rw [World.frozen?_of_block (w := w) (by rw [e])]; exact h i hi
theorem cell_heap {w w' : World} {a : Addr} {v : Value} (h : w.cell? a = some v) (e : w'.heap = w.heap) : w'.cell? a = some v := by
  rw [World.cell?_of_block (w := w) (by rw [e])]; exact h
/-- From a world of the same memory. -/
theorem Only.from {b : Nat} {u u' v : World} (h : Only b u' v) (e : u'.heap = u.heap) (eo : u'.os = u.os) (et : u'.tape = u.tape) (ep : u'.output = u.output) : Only b u v :=
  ⟨h.os.trans eo, h.tape.trans et, h.output.trans ep, by rw [h.size, e], fun k hk => by rw [h.block k hk, e], fun a => by rw [h.frozen a, World.frozen?_of_block (w := u) (by rw [e])]⟩

/-- u64 words -/
def U (f : Nat → Int) : Nat → Value := fun i => .int .u64 (f i)

/-- Some of the words of one line have been copied. -/
def mix (src dn : Nat → Int) (lo k : Nat) : Nat → Int := fun x => if lo ≤ x ∧ x < lo + k then src x else dn x

theorem mix_zero (src dn : Nat → Int) (lo : Nat) : mix src dn lo 0 = dn := by
  funext x; unfold mix; rw [if_neg (by omega)]
theorem mix_succ (src dn : Nat → Int) (lo k : Nat) (i : Nat) : (if i = lo + k then Value.int .u64 (src (lo + k)) else U (mix src dn lo k) i) = U (mix src dn lo (k + 1)) i := by
  unfold U mix
  by_cases e : i = lo + k
  · subst e; rw [if_pos rfl, if_pos (by omega)]
  · rw [if_neg e]
    by_cases h : lo ≤ i ∧ i < lo + k
    · rw [if_pos h, if_pos (by omega)]
    · rw [if_neg h, if_neg (by omega)]

end Go.Proofs.Ytbkhggfhjadfdaa

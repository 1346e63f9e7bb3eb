import Derived.Test.YtbkhggfhjadfdaaBase
namespace Go.Proofs.Ytbkhggfhjadfdaa
open Go.RowKit

/-- Only blocks of a list may have turned. -/
structure Among (l : List Nat) (w w' : World) : Prop where
  os : w'.os = w.os
  tape : w'.tape = w.tape
  output : w'.output = w.output
  size : w'.heap.size = w.heap.size
  block : ∀ k, k ∉ l → w'.heap[k]? = w.heap[k]?

theorem Among.refl (l : List Nat) (w : World) : Among l w w := ⟨rfl, rfl, rfl, rfl, fun _ _ => rfl⟩
theorem Among.trans {l : List Nat} {u v w : World} (h : Among l u v) (k : Among l v w) : Among l u w :=
  ⟨k.os.trans h.os, k.tape.trans h.tape, k.output.trans h.output, k.size.trans h.size, fun i hi => (k.block i hi).trans (h.block i hi)⟩
theorem Among.drew {l : List Nat} {u v : World} (h : Among l u v) : Among l u v.drew := ⟨h.os, h.tape, h.output, h.size, h.block⟩
theorem Only.among {b : Nat} {l : List Nat} {u v : World} (h : Only b u v) (hb : b ∈ l) : Among l u v :=
  ⟨h.os, h.tape, h.output, h.size, fun k hk => h.block k (fun e => hk (e ▸ hb))⟩
theorem Among.setCell {l : List Nat} {u v : World} (h : Among l u v) (a : Addr) (x : Value) (ha : a.block ∈ l) : Among l u (v.setCell a x) :=
  h.trans (((Only.refl a.block v).setCell a x rfl).among ha)
theorem Among.below {l : List Nat} {u v : World} (h : Among l u v) (B : Nat) (hl : ∀ b ∈ l, B ≤ b) : Below B u v :=
  ⟨h.os, h.tape, h.output, Nat.le_of_eq h.size.symm, fun k hk => h.block k (fun hm => by have := hl k hm; omega)⟩

def Bo (f : Nat → Bool) : Nat → Value := fun i => .bool (f i)
def sl (b n : Nat) : Value := .slice (some ⟨b, 0, none⟩) n n
/-- The struct's seven cells. -/
def hdrF (bn bd bo bf : Nat) (ev : Value) (acts left : Int) : Nat → Value
  | 0 => sl bn 64 | 1 => sl bd 64 | 2 => sl bo 64 | 3 => sl bf 9 | 4 => .int .i64 acts | 5 => .int .i64 left | _ => ev
/-- A function with one place laid anew. -/
def up {α : Type} (f : Nat → α) (j : Nat) (x : α) : Nat → α := fun i => if i = j then x else f i

theorem hdr_acts (bn bd bo bf : Nat) (ev : Value) (acts left n : Int) (i : Nat) : (if i = 4 then Value.int .i64 n else hdrF bn bd bo bf ev acts left i) = hdrF bn bd bo bf ev n left i := by
  rcases i with _ | _ | _ | _ | _ | _ | i <;> simp [hdrF]
theorem hdr_left (bn bd bo bf : Nat) (ev : Value) (acts left n : Int) (i : Nat) : (if i = 5 then Value.int .i64 n else hdrF bn bd bo bf ev acts left i) = hdrF bn bd bo bf ev acts n i := by
  rcases i with _ | _ | _ | _ | _ | _ | i <;> simp [hdrF]
theorem hdr_ev (bn bd bo bf : Nat) (ev ev' : Value) (acts left : Int) (i : Nat) (h : i < 7) : (if i = 6 then ev' else hdrF bn bd bo bf ev acts left i) = hdrF bn bd bo bf ev' acts left i := by
  rcases i with _ | _ | _ | _ | _ | _ | _ | i <;> first | (simp [hdrF]; done) | omega

/-- The memory of 64 words, as it lies. -/
structure Mem (w : World) (p bn bd bo bf : Nat) (ev : Value) (now dn no : Nat → Int) (fl : Nat → Bool) (acts left : Int) : Prop where
  hdr : RowAt w p 7 (hdrF bn bd bo bf ev acts left)
  rn : RowAt w bn 64 (U now)
  rd : RowAt w bd 64 (U dn)
  ro : RowAt w bo 64 (U no)
  rf : RowAt w bf 9 (Bo fl)
  sp : Soft w p 7
  sn : Soft w bn 64
  sd : Soft w bd 64
  so : Soft w bo 64
  sf : Soft w bf 9
  pn : p ≠ bn
  pd : p ≠ bd
  po : p ≠ bo
  pf : p ≠ bf
  nd : bn ≠ bd
  no' : bn ≠ bo
  nf : bn ≠ bf
  do' : bd ≠ bo
  df : bd ≠ bf
  of' : bo ≠ bf

section
variable {w w' : World} {p bn bd bo bf : Nat} {ev : Value} {now dn no : Nat → Int} {fl : Nat → Bool} {acts left : Int}

theorem Mem.c0 (h : Mem w p bn bd bo bf ev now dn no fl acts left) : w.cell? ⟨p, 0, none⟩ = some (.slice (some ⟨bn, 0, none⟩) 64 64) := h.hdr 0 (by omega)
theorem Mem.c1 (h : Mem w p bn bd bo bf ev now dn no fl acts left) : w.cell? ⟨p, 1, none⟩ = some (.slice (some ⟨bd, 0, none⟩) 64 64) := h.hdr 1 (by omega)
theorem Mem.c2 (h : Mem w p bn bd bo bf ev now dn no fl acts left) : w.cell? ⟨p, 2, none⟩ = some (.slice (some ⟨bo, 0, none⟩) 64 64) := h.hdr 2 (by omega)
theorem Mem.c3 (h : Mem w p bn bd bo bf ev now dn no fl acts left) : w.cell? ⟨p, 3, none⟩ = some (.slice (some ⟨bf, 0, none⟩) 9 9) := h.hdr 3 (by omega)
theorem Mem.c4 (h : Mem w p bn bd bo bf ev now dn no fl acts left) : w.cell? ⟨p, 4, none⟩ = some (.int .i64 acts) := h.hdr 4 (by omega)
theorem Mem.c5 (h : Mem w p bn bd bo bf ev now dn no fl acts left) : w.cell? ⟨p, 5, none⟩ = some (.int .i64 left) := h.hdr 5 (by omega)
theorem Mem.c6 (h : Mem w p bn bd bo bf ev now dn no fl acts left) : w.cell? ⟨p, 6, none⟩ = some ev := h.hdr 6 (by omega)

theorem Mem.heap (h : Mem w p bn bd bo bf ev now dn no fl acts left) (e : w'.heap = w.heap) : Mem w' p bn bd bo bf ev now dn no fl acts left :=
  { h with hdr := h.hdr.heap e, rn := h.rn.heap e, rd := h.rd.heap e, ro := h.ro.heap e, rf := h.rf.heap e, sp := h.sp.heap e, sn := h.sn.heap e, sd := h.sd.heap e, so := h.so.heap e, sf := h.sf.heap e }

theorem Mem.downTo (h : Mem w p bn bd bo bf ev now dn no fl acts left) (o : Only bd w w') {dn' : Nat → Int} (r : RowAt w' bd 64 (U dn')) : Mem w' p bn bd bo bf ev now dn' no fl acts left :=
  { h with hdr := h.hdr.only o h.pd, rn := h.rn.only o h.nd, rd := r, ro := h.ro.only o (Ne.symm h.do'), rf := h.rf.only o (Ne.symm h.df), sp := h.sp.only o, sn := h.sn.only o, sd := h.sd.only o, so := h.so.only o, sf := h.sf.only o }
theorem Mem.notedTo (h : Mem w p bn bd bo bf ev now dn no fl acts left) (o : Only bo w w') {no2 : Nat → Int} (r : RowAt w' bo 64 (U no2)) : Mem w' p bn bd bo bf ev now dn no2 fl acts left :=
  { h with hdr := h.hdr.only o h.po, rn := h.rn.only o h.no', rd := h.rd.only o h.do', ro := r, rf := h.rf.only o (Ne.symm h.of'), sp := h.sp.only o, sn := h.sn.only o, sd := h.sd.only o, so := h.so.only o, sf := h.sf.only o }
theorem Mem.nowTo (h : Mem w p bn bd bo bf ev now dn no fl acts left) (o : Only bn w w') {now2 : Nat → Int} (r : RowAt w' bn 64 (U now2)) : Mem w' p bn bd bo bf ev now2 dn no fl acts left :=
  { h with hdr := h.hdr.only o h.pn, rn := r, rd := h.rd.only o (Ne.symm h.nd), ro := h.ro.only o (Ne.symm h.no'), rf := h.rf.only o (Ne.symm h.nf), sp := h.sp.only o, sn := h.sn.only o, sd := h.sd.only o, so := h.so.only o, sf := h.sf.only o }
theorem Mem.flagTo (h : Mem w p bn bd bo bf ev now dn no fl acts left) (o : Only bf w w') {fl2 : Nat → Bool} (r : RowAt w' bf 9 (Bo fl2)) : Mem w' p bn bd bo bf ev now dn no fl2 acts left :=
  { h with hdr := h.hdr.only o h.pf, rn := h.rn.only o h.nf, rd := h.rd.only o h.df, ro := h.ro.only o h.of', rf := r, sp := h.sp.only o, sn := h.sn.only o, sd := h.sd.only o, so := h.so.only o, sf := h.sf.only o }
theorem Mem.hdrTo (h : Mem w p bn bd bo bf ev now dn no fl acts left) (o : Only p w w') {ev2 : Value} {acts2 left2 : Int} (r : RowAt w' p 7 (hdrF bn bd bo bf ev2 acts2 left2)) : Mem w' p bn bd bo bf ev2 now dn no fl acts2 left2 :=
  { h with hdr := r, rn := h.rn.only o (Ne.symm h.pn), rd := h.rd.only o (Ne.symm h.pd), ro := h.ro.only o (Ne.symm h.po), rf := h.rf.only o (Ne.symm h.pf), sp := h.sp.only o, sn := h.sn.only o, sd := h.sd.only o, so := h.so.only o, sf := h.sf.only o }

theorem Mem.setNow (h : Mem w p bn bd bo bf ev now dn no fl acts left) {j : Nat} (hj : j < 64) (x : Int) : Mem (w.setCell ⟨bn, j, none⟩ (.int .u64 x)) p bn bd bo bf ev (up now j x) dn no fl acts left :=
  h.nowTo ((Only.refl _ _).setCell _ _ rfl) ((h.rn.set hj _).congr fun i _ => by unfold U up; by_cases e : i = j <;> simp [e])
theorem Mem.setFlag (h : Mem w p bn bd bo bf ev now dn no fl acts left) {j : Nat} (hj : j < 9) (x : Bool) : Mem (w.setCell ⟨bf, j, none⟩ (.bool x)) p bn bd bo bf ev now dn no (up fl j x) acts left :=
  h.flagTo ((Only.refl _ _).setCell _ _ rfl) ((h.rf.set hj _).congr fun i _ => by unfold Bo up; by_cases e : i = j <;> simp [e])
theorem Mem.setActs (h : Mem w p bn bd bo bf ev now dn no fl acts left) (x : Int) : Mem (w.setCell ⟨p, 4, none⟩ (.int .i64 x)) p bn bd bo bf ev now dn no fl x left :=
  h.hdrTo ((Only.refl _ _).setCell _ _ rfl) ((h.hdr.set (j := 4) (by omega) _).congr fun i _ => hdr_acts bn bd bo bf ev acts left x i)
theorem Mem.setLeft (h : Mem w p bn bd bo bf ev now dn no fl acts left) (x : Int) : Mem (w.setCell ⟨p, 5, none⟩ (.int .i64 x)) p bn bd bo bf ev now dn no fl acts x :=
  h.hdrTo ((Only.refl _ _).setCell _ _ rfl) ((h.hdr.set (j := 5) (by omega) _).congr fun i _ => hdr_left bn bd bo bf ev acts left x i)
theorem Mem.setEv (h : Mem w p bn bd bo bf ev now dn no fl acts left) (x : Value) : Mem (w.setCell ⟨p, 6, none⟩ x) p bn bd bo bf x now dn no fl acts left :=
  h.hdrTo ((Only.refl _ _).setCell _ _ rfl) ((h.hdr.set (j := 6) (by omega) _).congr fun i hi => hdr_ev bn bd bo bf ev x acts left i hi)

/-- Other blocks have turned alone. -/
theorem RowAt.far {b n : Nat} {f : Nat → Value} (h : RowAt w b n f) (e : w'.heap[b]? = w.heap[b]?) : RowAt w' b n f := fun i hi => by rw [World.cell?_of_block (w := w) e]; exact h i hi
theorem Soft.far {b n : Nat} (h : Soft w b n) (e : w'.heap[b]? = w.heap[b]?) : Soft w' b n := fun i hi => by rw [World.frozen?_of_block (w := w) e]; exact h i hi
theorem Mem.far (h : Mem w p bn bd bo bf ev now dn no fl acts left) (e : ∀ k, k ∈ [p, bn, bd, bo, bf] → w'.heap[k]? = w.heap[k]?) : Mem w' p bn bd bo bf ev now dn no fl acts left :=
  { h with hdr := h.hdr.far (e _ (by simp)), rn := h.rn.far (e _ (by simp)), rd := h.rd.far (e _ (by simp)), ro := h.ro.far (e _ (by simp)), rf := h.rf.far (e _ (by simp)), sp := h.sp.far (e _ (by simp)), sn := h.sn.far (e _ (by simp)), sd := h.sd.far (e _ (by simp)), so := h.so.far (e _ (by simp)), sf := h.sf.far (e _ (by simp)) }
end

end Go.Proofs.Ytbkhggfhjadfdaa

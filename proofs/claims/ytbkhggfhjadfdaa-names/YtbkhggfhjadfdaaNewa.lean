import Derived.Test.YtbkhggfhjadfdaaImage
import Derived.Deep.DeepCutAuto
import Derived.Laws.CopyOwn
import Derived.Laws.IdiomCopy
import Derived.Lib.SlBuf
namespace Go.Proofs.Ytbkhggfhjadfdaa
open Go.RowKit

def zs64 : Array Value := Array.replicate 64 (.int .u64 0)
def zb9 : Array Value := Array.replicate 9 (.bool false)
theorem make64 (w : World) : (Instr.makeSlice 25 (.int .i64 64) (.int .i64 64)).run Try.prog w = .ok (.slice (some ⟨w.heap.size, 0, none⟩) 64 64) (w.alloc (.cells zs64 27)) := by kernel_rfl
theorem make9 (w : World) : (Instr.makeSlice 73 (.int .i64 9) (.int .i64 9)).run Try.prog w = .ok (.slice (some ⟨w.heap.size, 0, none⟩) 9 9) (w.alloc (.cells zb9 4)) := by kernel_rfl

theorem row_of_block {w : World} {b n : Nat} {arr : Array Value} {t : TypeId} {f : Nat → Value} (h : w.heap[b]? = some (.cells arr t)) (e : ∀ i, i < n → arr[i]? = some (f i)) : RowAt w b n f := by
  intro i hi
  simp only [World.cell?, h]
  simpa using e i hi
theorem soft_of_block {w : World} {b n : Nat} {arr : Array Value} {t : TypeId} (h : w.heap[b]? = some (.cells arr t)) : Soft w b n := by
  intro i _
  simp only [World.frozen?, h]
  simp

theorem zs64_at (i : Nat) (h : i < 64) : zs64[i]? = some (U (fun _ => 0) i) := by unfold zs64 U; simp [h]
theorem zb9_at (i : Nat) (h : i < 9) : zb9[i]? = some (Bo (fun _ => false) i) := by unfold zb9 Bo; simp [h]

theorem mem_of_blocks {w : World} {p bn bd bo bf : Nat} (hp : w.heap[p]? = some (.cells #[sl bn 64, sl bd 64, sl bo 64, sl bf 9, .int .i64 0, .int .i64 (-1), .slice none 0 0] 85))
    (hn : w.heap[bn]? = some (.cells zs64 27)) (hd : w.heap[bd]? = some (.cells zs64 27)) (ho : w.heap[bo]? = some (.cells zs64 27)) (hf : w.heap[bf]? = some (.cells zb9 4))
    (pn : p ≠ bn) (pd : p ≠ bd) (po : p ≠ bo) (pf : p ≠ bf) (nd : bn ≠ bd) (no' : bn ≠ bo) (nf : bn ≠ bf) (do' : bd ≠ bo) (df : bd ≠ bf) (of' : bo ≠ bf) :
    Mem w p bn bd bo bf (.slice none 0 0) (fun _ => 0) (fun _ => 0) (fun _ => 0) (fun _ => false) 0 (-1) :=
  { hdr := row_of_block hp (by intro i hi; rcases i with _ | _ | _ | _ | _ | _ | _ | i <;> first | rfl | omega)
    rn := row_of_block hn zs64_at, rd := row_of_block hd zs64_at, ro := row_of_block ho zs64_at, rf := row_of_block hf zb9_at
    sp := soft_of_block hp, sn := soft_of_block hn, sd := soft_of_block hd, so := soft_of_block ho, sf := soft_of_block hf
    pn := pn, pd := pd, po := po, pf := pf, nd := nd, no' := no', nf := nf, do' := do', df := df, of' := of' }

theorem only_setCells (b : Nat) : ∀ (vs : List Value) (o : Nat) (w : World), Only b w (w.setCells b o vs)
  | [], _, _ => Only.refl _ _
  | v :: r, o, w => ((Only.refl b w).setCell ⟨b, o, none⟩ v rfl).trans (only_setCells b r (o + 1) _)

theorem copy64 {w : World} {b c : Nat} {f : Nat → Value} {z : Nat → Int} (hb : RowAt w b 64 f) (sb : Soft w b 64) (hc : RowAt w c 64 (U z)) :
    ∃ v w1, (Builtin.copy_ #[25, 25] 3 #[.slice (some ⟨b, 0, none⟩) 64 64, .slice (some ⟨c, 0, none⟩) 64 64]).run Try.prog w = .ok v w1 ∧ Only b w w1 ∧ RowAt w1 b 64 (U z) := by
  have hl : (cellsOf 64 (U z)).length = 64 := by rw [cellsOf_length]
  refine ⟨_, _, run_copy_cells w 25 25 3 27 b 0 64 64 ⟨c, 0, none⟩ 64 64 (cellsOf 64 (U z)) Try.underlying25 (by kernel_rfl) (by rw [hl]; rfl) (rowCells hc) ?_ ?_ (cellsOf_one _ _), only_setCells _ _ _ _, ?_⟩
  · intro j hj
    rw [hl] at hj
    rw [Nat.zero_add, hb j hj]; rfl
  · intro j hj
    rw [hl] at hj
    rw [Nat.zero_add]; exact sb j hj
  · intro j hj
    have := World.cell?_setCells_in b (cellsOf 64 (U z)) 0 w (fun i hi => by rw [hl] at hi; rw [Nat.zero_add, hb i hi]; rfl) j (by rw [hl]; exact hj)
    rw [Nat.zero_add] at this
    rw [this]
    unfold cellsOf
    simp

/-- Where new blocks lie. -/
def New5 (n m : Nat) (l : List Nat) : Prop := ∀ k ∈ l, n ≤ k ∧ k < m

theorem heap5 (w : World) (A B C D E : Obj) :
    (((((w.alloc A).alloc B).alloc C).alloc D).alloc E).drew.heap[w.heap.size]? = some A ∧ (((((w.alloc A).alloc B).alloc C).alloc D).alloc E).drew.heap[w.heap.size + 1]? = some B ∧
    (((((w.alloc A).alloc B).alloc C).alloc D).alloc E).drew.heap[w.heap.size + 1 + 1]? = some C ∧ (((((w.alloc A).alloc B).alloc C).alloc D).alloc E).drew.heap[w.heap.size + 1 + 1 + 1]? = some D ∧
    Kept [] w (((((w.alloc A).alloc B).alloc C).alloc D).alloc E).drew ∧ (((((w.alloc A).alloc B).alloc C).alloc D).alloc E).drew.heap.size = w.heap.size + 5 := by
  have e : (((((w.alloc A).alloc B).alloc C).alloc D).alloc E).drew.heap = ((((w.heap.push A).push B).push C).push D).push E := rfl
  refine ⟨?_, ?_, ?_, ?_, ⟨rfl, rfl, rfl, ?_, fun k hk _ => ?_⟩, ?_⟩
  all_goals rw [e]
  · simp only [Array.getElem?_push, Array.size_push]
    rw [if_neg (by omega), if_neg (by omega), if_neg (by omega), if_neg (by omega)]; simp
  · simp only [Array.getElem?_push, Array.size_push]
    rw [if_neg (by omega), if_neg (by omega), if_neg (by omega)]; simp
  · simp only [Array.getElem?_push, Array.size_push]
    rw [if_neg (by omega), if_neg (by omega)]; simp
  · simp only [Array.getElem?_push, Array.size_push]
    rw [if_neg (by omega)]; simp
  · simp; omega
  · simp only [Array.getElem?_push, Array.size_push]
    rw [if_neg (by omega), if_neg (by omega), if_neg (by omega), if_neg (by omega), if_neg (by omega)]
  · simp

theorem top {W X : World} {o : Obj} {p : Nat} (hW : W.heap = X.heap.push o) (hp : X.heap.size = p) : W.heap[p]? = some o := by
  rw [hW, ← hp]; simp

end Go.Proofs.Ytbkhggfhjadfdaa

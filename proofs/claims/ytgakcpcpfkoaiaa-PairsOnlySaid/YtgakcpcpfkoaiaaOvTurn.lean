/-
  Of any seat: one block turns ('Tur'), all others that were there stay; a cell of a struct's own.
-/
import Derived.Test.YtgakcpcpfkoaiaaOvBase
namespace Go.Proofs.Ytgakcpcpfkoaiaa.Ov
open Go.ChangeShapes Go.WideShapes Go.ChangeAt Go.RowKit

/-- Of the blocks that were there none but b has turned. -/
structure Tur (b : Nat) (w w' : World) : Prop where
  os : w'.os = w.os
  tape : w'.tape = w.tape
  output : w'.output = w.output
  size : w.heap.size ≤ w'.heap.size
  block : ∀ k, k < w.heap.size → k ≠ b → w'.heap[k]? = w.heap[k]?
section
variable {w w' w'' : World} {b : Nat}
theorem Tur.refl : Tur b w w := ⟨rfl, rfl, rfl, Nat.le_refl _, fun _ _ _ => rfl⟩
theorem Tur.trans (h : Tur b w w') (k : Tur b w' w'') : Tur b w w'' :=
  ⟨k.os.trans h.os, k.tape.trans h.tape, k.output.trans h.output, Nat.le_trans h.size k.size, fun i hi hb => (k.block i (Nat.lt_of_lt_of_le hi h.size) hb).trans (h.block i hi hb)⟩
theorem Below.tur (h : Below w.heap.size w w') : Tur b w w' := ⟨h.os, h.tape, h.output, h.size, fun k hk _ => h.block k hk⟩
theorem Tur.below {lo : Nat} (h : Tur b w w') (hb : lo ≤ b) (hl : lo ≤ w.heap.size) : Below lo w w' := ⟨h.os, h.tape, h.output, h.size, fun k hk => h.block k (by omega) (by omega)⟩
theorem Tur.setCell (h : Tur b w w') (j : Nat) (v : Value) : Tur b w (w'.setCell ⟨b, j, none⟩ v) :=
  h.trans ⟨rfl, rfl, rfl, by simp [World.setCell], fun k _ hk => Below.heap_setCell _ _ _ _ hk⟩
theorem Tur.drewN (h : Tur b w w') (m : Nat) : Tur b w (w'.drewN m) := ⟨h.os, h.tape, h.output, h.size, h.block⟩
theorem Tur.cell (h : Tur b w w') {p : Addr} (hp : p.block ≠ b) (hl : p.block < w.heap.size) : w'.cell? p = w.cell? p := World.cell?_of_block (w := w) (h.block _ hl hp)
theorem rowIs_tur {c : Nat} {t : TypeId} {n : Nat} {f : Nat → Value} (h : w.rowIs c t n f) (k : Tur b w w') (hne : c ≠ b) : w'.rowIs c t n f := h.of_block (k.block c h.lt hne)
theorem rowIs_old {c : Nat} {t : TypeId} {n : Nat} {f : Nat → Value} (h : w.rowIs c t n f) (k : Below w.heap.size w w') : w'.rowIs c t n f := h.of_block (k.block c h.lt)
/-- A block of one cell. -/
def One (w : World) (b : Nat) (t : TypeId) (v : Value) : Prop := w.rowIs b t 1 (fun _ => v)
variable {t : TypeId} {v u : Value}
theorem One.cell (h : One w b t v) : w.cell? ⟨b, 0, none⟩ = some v := World.rowIs.cell h (Nat.lt_succ_self 0)
theorem One.thaw (h : One w b t v) : w.frozen? ⟨b, 0, none⟩ = false := World.rowIs.frozen h 0
theorem One.lt (h : One w b t v) : b < w.heap.size := World.rowIs.lt h
theorem One.old (h : One w b t v) (k : Below w.heap.size w w') : One w' b t v := rowIs_old h k
theorem One.tur {c : Nat} (h : One w b t v) (k : Tur c w w') (hne : b ≠ c) : One w' b t v := rowIs_tur h k hne
theorem One.set (h : One w b t v) (u : Value) : One (w.setCell ⟨b, 0, none⟩ u) b t u :=
  (World.rowIs.set h 0 u).congr (fun j hj => by rw [if_pos (by omega)])
theorem One.made (w : World) (t : TypeId) (v : Value) : One (w.alloc (.cells #[v] t)) w.heap.size t v :=
  World.rowIs_alloc w #[v] t _ (fun i hi => by
    obtain rfl : i = 0 := by simp at hi; omega
    rfl)
end
end Go.Proofs.Ytgakcpcpfkoaiaa.Ov

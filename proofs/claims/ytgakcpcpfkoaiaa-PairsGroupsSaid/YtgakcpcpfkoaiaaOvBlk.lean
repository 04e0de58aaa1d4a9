/-
  Of any seat: a block of the call's own, told by its cells (a struct of however many cells).
-/
import Derived.Test.YtgakcpcpfkoaiaaOvBase
namespace Go.Proofs.Ytgakcpcpfkoaiaa.Ov
open Go.ChangeShapes Go.WideShapes Go.ChangeAt Go.RowKit

/-- Block b has these cells, and may be written. -/
structure Blk (w : World) (b : Nat) (vs : List Value) : Prop where
  c : ∀ (i : Nat) (v : Value), vs[i]? = some v → w.cell? ⟨b, i, none⟩ = some v
  f : ∀ (i : Nat) (v : Value), vs[i]? = some v → w.frozen? ⟨b, i, none⟩ = false
  lt : b < w.heap.size
section
variable {w w' : World} {b : Nat} {vs : List Value}
theorem Blk.next (h : Blk w b vs) (k : Below w.heap.size w w') : Blk w' b vs :=
  ⟨fun i v e => (k.cell (p := ⟨b, i, none⟩) h.lt).trans (h.c i v e), fun i v e => (k.frozen (p := ⟨b, i, none⟩) h.lt).trans (h.f i v e), Nat.lt_of_lt_of_le h.lt k.size⟩
theorem Blk.old (h : Blk w b vs) (o : Obj) : Blk (w.alloc o) b vs := h.next ((Below.refl _ _).alloc (Nat.le_refl _) _)
theorem Blk.drew (h : Blk w b vs) : Blk w.drew b vs := ⟨h.c, h.f, h.lt⟩
theorem Blk.over (h : Blk w b vs) (q : Over w) : Blk q.val b vs := h.next q.property
theorem Blk.put (h : Blk w b vs) {c : Nat} (hc : c ≠ b) (o : Nat) (z : Value) : Blk (w.setCell ⟨c, o, none⟩ z) b vs :=
  ⟨fun i v e => by rw [World.cell?_setCell_other _ _ _ _ (fun e => hc (congrArg Addr.block e))]; exact h.c i v e,
    fun i v e => by rw [World.frozen?_setCell]; exact h.f i v e, by simpa using h.lt⟩
theorem Blk.set (h : Blk w b vs) (o : Nat) (z : Value) : Blk (w.setCell ⟨b, o, none⟩ z) b (vs.set o z) := by
  refine ⟨fun i v e => ?_, fun i v e => ?_, by simpa using h.lt⟩
  · by_cases ho : o = i
    · subst ho
      have hlt : o < vs.length := by
        have := (List.getElem?_eq_some_iff.1 e).1
        simpa using this
      rw [List.getElem?_set_self hlt] at e
      obtain rfl := Option.some.inj e
      exact World.cell?_setCell_same _ _ _ (h.c o vs[o] (List.getElem?_eq_getElem hlt))
    · rw [List.getElem?_set_ne ho] at e
      rw [World.cell?_setCell_other _ _ _ _ (fun e => ho (by injection e))]
      exact h.c i v e
  · rw [World.frozen?_setCell]
    by_cases ho : o = i
    · subst ho
      have hlt : o < vs.length := by
        have := (List.getElem?_eq_some_iff.1 e).1
        simpa using this
      exact h.f o vs[o] (List.getElem?_eq_getElem hlt)
    · rw [List.getElem?_set_ne ho] at e
      exact h.f i v e
theorem Blk.made (w : World) (t : TypeId) (vs : List Value) {n : Nat} (hn : w.heap.size = n) : Blk (w.alloc (.cells vs.toArray t)) n vs := by
  subst hn
  exact ⟨fun i v e => by simpa [World.cell?_alloc_new] using e, fun i v _ => by simp [World.frozen?_alloc_new], by simp⟩
theorem Blk.cast {us : List Value} (h : Blk w b vs) (e : vs = us) : Blk w b us := e ▸ h
end
theorem box1 (w : World) (a : Obj) : Below w.heap.size w (w.alloc a) := (Below.refl _ _).alloc (Nat.le_refl _) _
theorem box2 (w : World) (a b : Obj) : Below w.heap.size w ((w.alloc a).alloc b) := (box1 w a).alloc (by simp) _
theorem box3 (w : World) (a b c : Obj) : Below w.heap.size w (((w.alloc a).alloc b).alloc c) := (box2 w a b).alloc (by simp; omega) _
theorem box4 (w : World) (a b c d : Obj) : Below w.heap.size w ((((w.alloc a).alloc b).alloc c).alloc d) := (box3 w a b c).alloc (by simp; omega) _
end Go.Proofs.Ytgakcpcpfkoaiaa.Ov

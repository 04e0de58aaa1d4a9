/-
  Small texts of this claim, together: DkPl.
-/
import Derived.Test.YtchmepalhldpcaaQRdPlain
import Derived.Test.YtchmepalhldpcaaQ2
import Derived.Lib.BufferMore
namespace Go.Proofs.Ytchmepalhldpcaa.Dk
open Go.ChangeShapes Go.WideShapes Go.ChangeAt Go.RowKit Go.ChangeMaps Go.Maps Go.MapKept Ov
def Bx (w : World) (p : Nat) : Prop := ∃ x a1 n1 c1 a2 n2 c2, w.heap[p]? = some (.cells #[.int .i64 x, .slice a1 n1 c1, .slice a2 n2 c2] 31)
structure Pl (w : World) (O : Nat → Prop) (D m sz : Nat) (L : Ls) (v1 v2 : Value) (wr : World) : Prop where
 i : IsD wr O D sz L
 o : ∀ b, O b → w.heap.size ≤ b ∧ b ≠ m
 b : Below w.heap.size w wr
 c : Blk wr m [.int .i64 (sz : Int), v1, v2]
 h : Bx wr m
 r : RD wr L v1 v2
 a : ∀ g, (v1.ownBlock = some g ∨ v2.ownBlock = some g) → ¬ O g ∧ g < wr.heap.size
 l : w.heap.size ≤ m
section
variable {w w' wr : World} {O : Nat → Prop} {D m sz : Nat} {L L' : Ls} {v1 v2 u1 u2 : Value}
theorem Strs.kp {A : Option Addr} {n c : Nat} {f : Nat → ByteArray} (h : Strs w A n f) (k : Kp O w w') (hO : ∀ g, (Value.slice A n c).ownBlock = some g → ¬ O g) : Strs w' A n f := fun h0 => by
 obtain ⟨g, q, e, hc⟩ := h h0
 refine ⟨g, q, e, fun i hi => ?_⟩
 have h1 := hc i hi
 exact (k.cell (p := ⟨g, q + i, none⟩) (hO g (by rw [e]; rfl)) (block_lt_of_cell h1)).trans h1
theorem RD.kp (h : RD w L v1 v2) (k : Kp O w w') (hO : ∀ g, (v1.ownBlock = some g ∨ v2.ownBlock = some g) → ¬ O g) : RD w' L v1 v2 := by
 obtain ⟨A1, c1, A2, c2, rfl, rfl, h1, h2⟩ := h
 exact ⟨A1, c1, A2, c2, rfl, rfl, Strs.kp h1 k fun g e => hO g (.inl e), Strs.kp h2 k fun g e => hO g (.inr e)⟩
theorem Bx.kp (h : Bx w m) (k : Kp O w w') (hO : ¬ O m) (hl : m < w.heap.size) : Bx w' m := by
 obtain ⟨x, a1, n1, c1, a2, n2, c2, e⟩ := h
 exact ⟨x, a1, n1, c1, a2, n2, c2, (k.block m hl hO).trans e⟩
theorem Pl.next (h : Pl w O D m sz L v1 v2 wr) (k : Below wr.heap.size wr w') : Pl w O D m sz L v1 v2 w' :=
 ⟨h.i.next k, h.o, Below.next h.b k, h.c.next k, h.h.kp (Below.kp (fun _ => False) k) (fun e => e) h.c.lt, h.r.next k, fun g e => ⟨(h.a g e).1, Nat.lt_of_lt_of_le (h.a g e).2 k.size⟩, h.l⟩
structure Pm (w : World) (O : Nat → Prop) (D m sz : Nat) (L L' : Ls) (v1 v2 : Value) (wr : World) : Prop where
 i : IsD wr O D sz L'
 o : ∀ b, O b → w.heap.size ≤ b ∧ b ≠ m
 b : Below w.heap.size w wr
 c : Blk wr m [.int .i64 (sz : Int), v1, v2]
 h : Bx wr m
 r : RD wr L v1 v2
 a : ∀ g, (v1.ownBlock = some g ∨ v2.ownBlock = some g) → ¬ O g ∧ g < wr.heap.size
 l : w.heap.size ≤ m
theorem Pl.turn (h : Pl w O D m sz L v1 v2 wr) (t : TurnsTo O D sz L' wr w') : ∃ O', Pm w O' D m sz L L' v1 v2 w' := by
 obtain ⟨O', h1, h2, h3⟩ := t
 refine ⟨O', h1, fun b hb => ?_, ?_, h.c.kp h2 (fun e => (h.o m e).2 rfl), h.h.kp h2 (fun e => (h.o m e).2 rfl) h.c.lt, h.r.kp h2 fun g e => (h.a g e).1, fun g e => ⟨fun q => ?_, Nat.lt_of_lt_of_le (h.a g e).2 h2.size⟩, h.l⟩
 · rcases h3 b hb with e | e
   · exact h.o b e
   · exact ⟨Nat.le_trans h.b.size e, by have := h.c.lt; omega⟩
 · exact h.b.trans (h2.below (fun b e => (h.o b e).1) h.b.size)
 · rcases h3 g q with e2 | e2
   · exact (h.a g e).1 e2
   · have := (h.a g e).2; omega
theorem Pm.next (h : Pm w O D m sz L L' v1 v2 wr) (k : Below wr.heap.size wr w') : Pm w O D m sz L L' v1 v2 w' :=
 ⟨h.i.next k, h.o, Below.next h.b k, h.c.next k, h.h.kp (Below.kp (fun _ => False) k) (fun e => e) h.c.lt, h.r.next k, fun g e => ⟨(h.a g e).1, Nat.lt_of_lt_of_le (h.a g e).2 k.size⟩, h.l⟩
theorem Pm.lay (h : Pm w O D m sz L L' v1 v2 wr) (k : Below wr.heap.size wr w') (hr : RD w' L' u1 u2) (hf : Fm wr.heap.size w' v1 v2 u1 u2) : Pl w O D m sz L' u1 u2 (((w'.setCell ⟨m, 0, none⟩ (.int .i64 (sz : Int))).setCell ⟨m, 1, none⟩ u1).setCell ⟨m, 2, none⟩ u2) := by
 have hn := h.next k
 have hk := Dk.set3 w' m (.int .i64 (sz : Int)) u1 u2
 obtain ⟨A1, c1, A2, c2, e1, e2⟩ := rd_slices hr
 have hm := Blk.set3 hn.c (.int .i64 (sz : Int)) u1 u2
 obtain ⟨x, a1, n1, b1, a2, n2, b2, hb⟩ := hn.h
 refine ⟨hn.i.kp hk (fun b hb e => (hn.o b hb).2 e), hn.o, hn.b.trans (hk.below (fun b e => by rw [e]; exact h.l) hn.b.size), hm, ?_, hr.far hb hk, fun g e => ?_, h.l⟩
 · subst e1; subst e2
   exact ⟨_, _, _, _, _, _, _, Lib.heap_setCell_same (i := 2) (Lib.heap_setCell_same (i := 1) (Lib.heap_setCell_same (i := 0) hb _) _) _⟩
 · rcases hf g e with ⟨q1, q2⟩ | q
   · exact ⟨fun q3 => by have := h.i.lt _ q3; omega, Nat.lt_of_lt_of_le q2 hk.size⟩
   · exact ⟨(h.a g q).1, Nat.lt_of_lt_of_le (Nat.lt_of_lt_of_le (h.a g q).2 k.size) hk.size⟩
theorem Pl.start (h : IsD wr O D sz []) (hO : ∀ b, O b → w.heap.size ≤ b) (hb : Below w.heap.size w wr) : Pl w O D wr.heap.size sz [] (.slice none 0 0) (.slice none 0 0) (wr.alloc (.cells #[.int .i64 (sz : Int), .slice none 0 0, .slice none 0 0] 31)) :=
 ⟨h.next (box1 wr _), fun b e => ⟨hO b e, fun q => by have := h.lt _ e; omega⟩, Below.next hb (box1 wr _), Blk.made wr 31 [.int .i64 (sz : Int), .slice none 0 0, .slice none 0 0] rfl, ⟨_, _, _, _, _, _, _, (heap_alloc wr _).1⟩, rd_none _, fun _ e => e.elim (fun e => by cases e) (fun e => by cases e), hb.size⟩
end
end Go.Proofs.Ytchmepalhldpcaa.Dk

/-
  The texts of this claim, lot 3: EvMem, ExEnd, EvDo, EvParts, EvPre, OvFloat, GaSmall, GaAdd, GaMul, GaNear, OvAlloc, OvDuo, GaDivide, GaDiv, GaFirst, GaTurn, GaDiv2, OvClone, EvSmall, EvSmall2, EvSmall3, OvBuild, OvBld, VaWrite, VaWrite2.
-/
import Derived.Test.YtcdjincaedpodaaGreatDoorLot2
import Derived.OneCell
import Derived.Deep.RegionWith
import Derived.Test.YtcdjincaedpodaaGreatDoorRows
import Derived.Laws.ComplexArith
import Derived.Lib.Hide
import Derived.Shelf.Pu.Clone
import Derived.IntWalk
import Derived.Shelf.Strings.Builder1
/-
  The doer of expressions in memory; what turns while it is at work; boxes of the call's own beside it.
-/
namespace Go.Proofs.YtcdjincaedpodaaGreatDoor.Ev
open Go.ChangeShapes Go.WideShapes Go.ChangeAt Go.RowKit Go.Proofs.YtcdjincaedpodaaGreatDoor.Ov Go.Proofs.YtcdjincaedpodaaGreatDoor.Va Go.Proofs.YtcdjincaedpodaaGreatDoor.Ex

/-- A value's cells; a value. -/
def vcl (v : Va) : List Value := vcs v.k v.n (tx v.s) v.x v.y
/-- A pair's cells. -/
def pcl (p : List UInt8 × Va) : List Value := .string (tx p.1) :: vcl p.2
def pcells (l : List (List UInt8 × Va)) : List Value := l.flatMap pcl
theorem pcells_snoc (l : List (List UInt8 × Va)) (p : List UInt8 × Va) : pcells (l ++ [p]) = pcells l ++ pcl p := by
  unfold pcells
  rw [List.flatMap_append]; simp
theorem pcl_one (p : List UInt8 × Va) : ∀ u ∈ pcl p, u.oneCell' = true := by
  intro u hu
  unfold pcl vcl vcs at hu
  simp only [List.mem_cons, List.not_mem_nil, or_false] at hu
  rcases hu with rfl | rfl | rfl | rfl | rfl | rfl <;> rfl
/-- What the kinds do, by their numbers. -/
def dl : List FuncId := [34, 35, 36, 37, 38, 39, 40, 41, 42, 43, 44, 45, 46, 47, 48, 49, 50, 51, 52, 53, 54, 55, 56, 57, 58, 59, 60, 61, 62, 63]
def dfn (b : Nat) (f : FuncId) : Value := .func (.func f) #[.pointer (some ⟨b, 0, none⟩)] #[]
def dcl (b : Nat) : List Value := dl.map (dfn b)
def stc (S : St) : List Value := vcl (tv S.key) ++ (vcl S.val ++ (vcl S.acc ++ (vcl (nv S.i) ++ vcl S.it)))
/-- The doer's cells. -/
def dcs (A : Option Addr) (c E b len : Nat) (S : St) (n : Nat) (ov : Value) : List Value :=
  .slice A len c :: .slice (some ⟨E, 0, none⟩) len len :: (dcl b ++ (stc S ++ [ov, .int .i64 (n : Int)]))
/-- What turns while a doer is at work: its block, and its pairs'. -/
structure Mv (b : Nat) (ov : Value) (w : World) (ov' : Value) (w' : World) : Prop where
  os : w'.os = w.os
  tape : w'.tape = w.tape
  output : w'.output = w.output
  size : w.heap.size ≤ w'.heap.size
  block : ∀ k, k < w.heap.size → k ≠ b → ov.ownBlock ≠ some k → w'.heap[k]? = w.heap[k]?
  row : ov'.ownBlock = ov.ownBlock ∨ ∃ g, ov'.ownBlock = some g ∧ w.heap.size ≤ g
section
variable {w w' w'' : World} {b : Nat} {ov ov' ov'' : Value}
theorem Mv.refl : Mv b ov w ov w := ⟨rfl, rfl, rfl, Nat.le_refl _, fun _ _ _ _ => rfl, .inl rfl⟩
theorem Mv.ne {k : Nat} (h : Mv b ov w ov' w') (hk : k < w.heap.size) (ho : ov.ownBlock ≠ some k) : ov'.ownBlock ≠ some k := by
  rcases h.row with e | ⟨g, e, hg⟩
  · rw [e]; exact ho
  · rw [e]; intro h; have := Option.some.inj h; omega
theorem Mv.trans (h : Mv b ov w ov' w') (k : Mv b ov' w' ov'' w'') : Mv b ov w ov'' w'' :=
  ⟨k.os.trans h.os, k.tape.trans h.tape, k.output.trans h.output, Nat.le_trans h.size k.size,
    fun i hi hb ho => (k.block i (Nat.lt_of_lt_of_le hi h.size) hb (h.ne hi ho)).trans (h.block i hi hb ho), by
    rcases k.row with e | ⟨g, e, hg⟩
    · rw [e]; exact h.row
    · exact .inr ⟨g, e, Nat.le_trans h.size hg⟩⟩
theorem Mv.of (h : Below w.heap.size w w') : Mv b ov w ov w' := ⟨h.os, h.tape, h.output, h.size, fun k hk _ _ => h.block k hk, .inl rfl⟩
theorem Mv.put (h : Mv b ov w ov' w') {B : Nat} (hB : w.heap.size ≤ B) (j : Nat) (v : Value) : Mv b ov w ov' (w'.setCell ⟨B, j, none⟩ v) :=
  ⟨h.os, h.tape, h.output, by simpa using h.size, fun k hk hb ho => (Below.heap_setCell _ _ _ _ (show k ≠ B by omega)).trans (h.block k hk hb ho), h.row⟩
theorem Mv.putb (h : Mv b ov w ov' w') (j : Nat) (v : Value) : Mv b ov w ov' (w'.setCell ⟨b, j, none⟩ v) :=
  ⟨h.os, h.tape, h.output, by simpa using h.size, fun k hk hb ho => (Below.heap_setCell _ _ _ _ hb).trans (h.block k hk hb ho), h.row⟩
theorem Mv.old (h : Mv b ov w ov' w') (k : Below w'.heap.size w' w'') : Mv b ov w ov' w'' := h.trans (Mv.of k)
end
theorem blk_mv {w w' : World} {b B : Nat} {ov ov' : Value} {xs : List Value} (h : Blk w B xs) (k : Mv b ov w ov' w') (hb : B ≠ b) (ho : ov.ownBlock ≠ some B) : Blk w' B xs :=
  have e := k.block B h.lt hb ho
  ⟨fun i v x => (World.cell?_of_block (a := ⟨B, i, none⟩) e).trans (h.c i v x), fun i v x => (World.frozen?_of_block (a := ⟨B, i, none⟩) e).trans (h.f i v x), Nat.lt_of_lt_of_le h.lt k.size⟩
/-- The doer at work on a list: its state, the steps that are left, the pairs' row. -/
structure Doer (w0 : World) (A : Option Addr) (c E b : Nat) (l : List No) (S : St) (n : Nat) (ov : Value) (w : World) : Prop where
  fro : Below w0.heap.size w0 w
  hb : w0.heap.size ≤ b
  hE : w0.heap.size ≤ E
  ne : E ≠ b
  blk : Blk w b (dcs A c E b l.length S n ov)
  beh : ∀ k, k < l.length → w.cell? ⟨E, k, none⟩ = some (.int .i64 ((l.length - (nx (l.drop k)).length : Nat) : Int))
  out : w.ownsRow w0.heap.size 58 6 ov S.out.length (pcells S.out)
  sb : ov.ownBlock ≠ some b
  sE : ov.ownBlock ≠ some E
/-- A box of the call's own beside the doer. -/
structure Box (w0 : World) (b E : Nat) (ov : Value) (B : Nat) (xs : List Value) (w : World) : Prop where
  blk : Blk w B xs
  nb : B ≠ b
  nE : B ≠ E
  no : ov.ownBlock ≠ some B
  lo : w0.heap.size ≤ B
section
variable {w0 w w' : World} {A : Option Addr} {c E b B n n' : Nat} {l : List No} {S S' : St} {ov ov' : Value} {xs : List Value}
theorem Doer.ltE (h : Doer w0 A c E b l S n ov w) (hl : 0 < l.length) : E < w.heap.size := block_lt_of_cell (h.beh 0 hl)
theorem Doer.olt (h : Doer w0 A c E b l S n ov w) : ov.ownBlock ≠ some w.heap.size := fun e => by have := (h.out.lt _ e).2; omega
theorem Doer.old (h : Doer w0 A c E b l S n ov w) (k : Below w.heap.size w w') : Doer w0 A c E b l S n ov w' :=
  ⟨Below.next h.fro k, h.hb, h.hE, h.ne, h.blk.next k, fun i hi => (k.cell (p := ⟨E, i, none⟩) (block_lt_of_cell (h.beh i hi))).trans (h.beh i hi), own_old h.out k, h.sb, h.sE⟩
theorem Doer.put (h : Doer w0 A c E b l S n ov w) (k : Box w0 b E ov B xs w) (j : Nat) (v : Value) : Doer w0 A c E b l S n ov (w.setCell ⟨B, j, none⟩ v) :=
  ⟨h.fro.setCell k.lo _, h.hb, h.hE, h.ne, h.blk.put k.nb _ _, fun i hi => (World.cell?_setCell_other _ _ _ _ (fun e => k.nE (by injection e))).trans (h.beh i hi),
    ownsRow_setCell_other h.out (by simpa using k.no) _, h.sb, h.sE⟩
theorem Doer.putb (h : Doer w0 A c E b l S n ov w) (j : Nat) (v : Value) (hs : (dcs A c E b l.length S n ov).set j v = dcs A c E b l.length S' n' ov) (ho : S'.out = S.out) : Doer w0 A c E b l S' n' ov (w.setCell ⟨b, j, none⟩ v) :=
  ⟨h.fro.setCell h.hb _, h.hb, h.hE, h.ne, (h.blk.set j v).cast hs, fun i hi => (World.cell?_setCell_other _ _ _ _ (fun e => h.ne (by injection e with e1; exact e1.symm))).trans (h.beh i hi),
    by rw [ho]; exact ownsRow_setCell_other h.out (by simpa using h.sb) _, h.sb, h.sE⟩
theorem Doer.drew (h : Doer w0 A c E b l S n ov w) : Doer w0 A c E b l S n ov w.drew := h.old (Below.refl _ _).drew
theorem Doer.lt (h : Doer w0 A c E b l S n ov w) : b < w.heap.size := h.blk.lt
theorem Doer.put5b (h : Doer w0 A c E b l S n ov w) (o : Nat) (a0 a1 a2 a3 a4 : Value) (hs : ((((((dcs A c E b l.length S n ov).set o a0).set (o + 1) a1).set (o + 2) a2).set (o + 3) a3).set (o + 4) a4) = dcs A c E b l.length S' n' ov) (ho : S'.out = S.out) : Doer w0 A c E b l S' n' ov (((((w.setCell ⟨b, o, none⟩ a0).setCell ⟨b, o + 1, none⟩ a1).setCell ⟨b, o + 2, none⟩ a2).setCell ⟨b, o + 3, none⟩ a3).setCell ⟨b, o + 4, none⟩ a4) := by
  have hne : ∀ (i j : Nat) (W : World) (v : Value), (W.setCell ⟨b, j, none⟩ v).cell? ⟨E, i, none⟩ = W.cell? ⟨E, i, none⟩ := fun i j W v => World.cell?_setCell_other _ _ _ _ (fun e => h.ne (by injection e with e1; exact e1.symm))
  have hsb : ∀ j, ov.ownBlock ≠ some (Addr.mk b j none).block := fun j => h.sb
  refine ⟨((((h.fro.setCell h.hb _).setCell h.hb _).setCell h.hb _).setCell h.hb _).setCell h.hb _, h.hb, h.hE, h.ne, (((((h.blk.set o a0).set (o + 1) a1).set (o + 2) a2).set (o + 3) a3).set (o + 4) a4).cast hs, fun i hi => ?_, ?_, h.sb, h.sE⟩
  · rw [hne, hne, hne, hne, hne]; exact h.beh i hi
  · rw [ho]; exact ownsRow_setCell_other (ownsRow_setCell_other (ownsRow_setCell_other (ownsRow_setCell_other (ownsRow_setCell_other h.out (hsb _) _) (hsb _) _) (hsb _) _) (hsb _) _) (hsb _) _
theorem Box.old (h : Box w0 b E ov B xs w) (k : Below w.heap.size w w') : Box w0 b E ov B xs w' := ⟨h.blk.next k, h.nb, h.nE, h.no, h.lo⟩
theorem Box.mv (h : Box w0 b E ov B xs w) (k : Mv b ov w ov' w') : Box w0 b E ov' B xs w' := ⟨blk_mv h.blk k h.nb h.no, h.nb, h.nE, k.ne h.blk.lt h.no, h.lo⟩
theorem Box.put (h : Box w0 b E ov B xs w) {C : Nat} (hc : C ≠ B) (j : Nat) (v : Value) : Box w0 b E ov B xs (w.setCell ⟨C, j, none⟩ v) := ⟨h.blk.put hc j v, h.nb, h.nE, h.no, h.lo⟩
theorem Box.set (h : Box w0 b E ov B xs w) (j : Nat) (v : Value) : Box w0 b E ov B (xs.set j v) (w.setCell ⟨B, j, none⟩ v) := ⟨h.blk.set j v, h.nb, h.nE, h.no, h.lo⟩
theorem Box.made (h : Doer w0 A c E b l S n ov w) (hl : 0 < l.length) (t : TypeId) (xs : List Value) : Box w0 b E ov w.heap.size xs (w.alloc (.cells xs.toArray t)) :=
  ⟨Blk.made w t xs rfl, fun e => by have := h.blk.lt; omega, fun e => by have := h.ltE hl; omega, h.olt, h.fro.size⟩
end
section
variable {w0 w w' : World} {A : Option Addr} {c E b B n : Nat} {l : List No} {S : St} {ov ov' : Value} {xs : List Value} {k m s x y : Int} {t : ByteArray}
theorem Box.drew (h : Box w0 b E ov B xs w) : Box w0 b E ov B xs w.drew := h.old (Below.refl _ _).drew
theorem Box.all5 (h : Box w0 b E ov B (vcs k m t x y) w) (a0 a1 a2 a3 a4 : Value) : Box w0 b E ov B [a0, a1, a2, a3, a4] (((((w.setCell ⟨B, 0, none⟩ a0).setCell ⟨B, 1, none⟩ a1).setCell ⟨B, 2, none⟩ a2).setCell ⟨B, 3, none⟩ a3).setCell ⟨B, 4, none⟩ a4) :=
  ⟨h.blk.all5 a0 a1 a2 a3 a4, h.nb, h.nE, h.no, h.lo⟩
theorem Doer.all5 (h : Doer w0 A c E b l S n ov w) (k : Box w0 b E ov B xs w) (a0 a1 a2 a3 a4 : Value) : Doer w0 A c E b l S n ov (((((w.setCell ⟨B, 0, none⟩ a0).setCell ⟨B, 1, none⟩ a1).setCell ⟨B, 2, none⟩ a2).setCell ⟨B, 3, none⟩ a3).setCell ⟨B, 4, none⟩ a4) :=
  ((((h.put k 0 a0).put (k.set 0 a0) 1 a1).put ((k.set 0 a0).set 1 a1) 2 a2).put (((k.set 0 a0).set 1 a1).set 2 a2) 3 a3).put ((((k.set 0 a0).set 1 a1).set 2 a2).set 3 a3) 4 a4
theorem Mv.all5 (h : Mv b ov w ov' w') (hB : w.heap.size ≤ B) (a0 a1 a2 a3 a4 : Value) : Mv b ov w ov' (((((w'.setCell ⟨B, 0, none⟩ a0).setCell ⟨B, 1, none⟩ a1).setCell ⟨B, 2, none⟩ a2).setCell ⟨B, 3, none⟩ a3).setCell ⟨B, 4, none⟩ a4) :=
  ((((h.put hB 0 a0).put hB 1 a1).put hB 2 a2).put hB 3 a3).put hB 4 a4
end
/-- These values, one behind the other, into a block. -/
def putL (w : World) (B o : Nat) : List Value → World
  | [] => w
  | v :: vs => putL (w.setCell ⟨B, o, none⟩ v) B (o + 1) vs
section
variable {w0 w w' : World} {A : Option Addr} {c E b B n : Nat} {l : List No} {S : St} {ov ov' : Value} {xs : List Value}
theorem Box.puts_at (h : Box w0 b E ov B xs w) (o : Nat) (vs : List Value) (hl : o + vs.length ≤ xs.length) : Box w0 b E ov B (xs.take o ++ vs ++ xs.drop (o + vs.length)) (putL w B o vs) := by
  induction vs generalizing w xs o with
  | nil => simpa [putL] using h
  | cons v vs ih =>
    rw [List.length_cons] at hl
    have := ih (h.set o v) (o + 1) (by rw [List.length_set]; omega)
    have e : (xs.set o v).take (o + 1) ++ vs ++ (xs.set o v).drop (o + 1 + vs.length) = xs.take o ++ v :: vs ++ xs.drop (o + (v :: vs).length) := by
      rw [List.take_set, List.drop_set, if_pos (by omega), List.length_cons, show o + 1 + vs.length = o + (vs.length + 1) by omega]
      congr 1
      rw [List.take_succ_eq_append_getElem (show o < xs.length by omega), List.set_append_right _ _ (by rw [List.length_take]; omega), List.length_take, show o - min o xs.length = 0 by omega]
      simp
    rw [e] at this
    exact this
theorem Box.puts (h : Box w0 b E ov B xs w) (vs : List Value) (hl : vs.length = xs.length) : Box w0 b E ov B vs (putL w B 0 vs) := by
  have := h.puts_at 0 vs (by omega)
  rwa [List.take_zero, List.nil_append, List.drop_of_length_le (by omega), List.append_nil] at this
theorem Doer.puts (h : Doer w0 A c E b l S n ov w) (k : Box w0 b E ov B xs w) (o : Nat) (vs : List Value) : Doer w0 A c E b l S n ov (putL w B o vs) := by
  induction vs generalizing w xs o with
  | nil => exact h
  | cons v vs ih => exact ih (h.put k o v) (k.set o v) (o + 1)
theorem Mv.puts (h : Mv b ov w ov' w') (hB : w.heap.size ≤ B) (o : Nat) (vs : List Value) : Mv b ov w ov' (putL w' B o vs) := by
  induction vs generalizing w' o with
  | nil => exact h
  | cons v vs ih => exact ih (h.put hB o v) (o + 1)
theorem Box.puts_other {C : Nat} (h : Box w0 b E ov B xs w) (hc : C ≠ B) (o : Nat) (vs : List Value) : Box w0 b E ov B xs (putL w C o vs) := by
  induction vs generalizing w o with
  | nil => exact h
  | cons v vs ih => exact ih (h.put hc o v) (o + 1)
end
/-- The cells of three values. -/
def pcs (l : List Va) : List Value := vcl (at0 l) ++ (vcl (at1 l) ++ vcl (at2 l))
theorem pcs_snoc (l : List Va) (v : Va) (h : l.length < 3) : (pcs l).take (l.length * 5) ++ vcl v ++ (pcs l).drop (l.length * 5 + 5) = pcs (l ++ [v]) := by
  match l, h with
  | [], _ => rfl
  | [_], _ => rfl
  | [_, _], _ => rfl
theorem pcs_kind (l : List Va) (j : Nat) (h : j < 3) : (pcs l)[j * 5]? = some (.int .i64 (l.getD j vz).k) := by
  match j, h with
  | 0, _ => rfl
  | 1, _ => rfl
  | 2, _ => rfl
theorem pcs_cells {w : World} {B : Nat} {l : List Va} (h : Blk w B (pcs l)) : w.cell? ⟨B, 0, none⟩ = some (.int .i64 (at0 l).k) ∧ w.cell? ⟨B, 1, none⟩ = some (.int .i64 (at0 l).n) ∧ w.cell? ⟨B, 2, none⟩ = some (.string (tx (at0 l).s)) ∧ w.cell? ⟨B, 3, none⟩ = some (.int .i64 (at0 l).x) ∧ w.cell? ⟨B, 4, none⟩ = some (.int .i64 (at0 l).y) ∧ w.cell? ⟨B, 5, none⟩ = some (.int .i64 (at1 l).k) ∧ w.cell? ⟨B, 6, none⟩ = some (.int .i64 (at1 l).n) ∧ w.cell? ⟨B, 7, none⟩ = some (.string (tx (at1 l).s)) ∧ w.cell? ⟨B, 8, none⟩ = some (.int .i64 (at1 l).x) ∧ w.cell? ⟨B, 9, none⟩ = some (.int .i64 (at1 l).y) ∧ w.cell? ⟨B, 10, none⟩ = some (.int .i64 (at2 l).k) ∧ w.cell? ⟨B, 11, none⟩ = some (.int .i64 (at2 l).n) ∧ w.cell? ⟨B, 12, none⟩ = some (.string (tx (at2 l).s)) ∧ w.cell? ⟨B, 13, none⟩ = some (.int .i64 (at2 l).x) ∧ w.cell? ⟨B, 14, none⟩ = some (.int .i64 (at2 l).y) :=
  ⟨h.c 0 _ rfl, h.c 1 _ rfl, h.c 2 _ rfl, h.c 3 _ rfl, h.c 4 _ rfl, h.c 5 _ rfl, h.c 6 _ rfl, h.c 7 _ rfl, h.c 8 _ rfl, h.c 9 _ rfl, h.c 10 _ rfl, h.c 11 _ rfl, h.c 12 _ rfl, h.c 13 _ rfl, h.c 14 _ rfl⟩
theorem pcs_frozen {w : World} {B : Nat} {l : List Va} (h : Blk w B (pcs l)) : w.frozen? ⟨B, 0, none⟩ = false ∧ w.frozen? ⟨B, 1, none⟩ = false ∧ w.frozen? ⟨B, 2, none⟩ = false ∧ w.frozen? ⟨B, 3, none⟩ = false ∧ w.frozen? ⟨B, 4, none⟩ = false ∧ w.frozen? ⟨B, 5, none⟩ = false ∧ w.frozen? ⟨B, 6, none⟩ = false ∧ w.frozen? ⟨B, 7, none⟩ = false ∧ w.frozen? ⟨B, 8, none⟩ = false ∧ w.frozen? ⟨B, 9, none⟩ = false ∧ w.frozen? ⟨B, 10, none⟩ = false ∧ w.frozen? ⟨B, 11, none⟩ = false ∧ w.frozen? ⟨B, 12, none⟩ = false ∧ w.frozen? ⟨B, 13, none⟩ = false ∧ w.frozen? ⟨B, 14, none⟩ = false :=
  ⟨h.f 0 _ rfl, h.f 1 _ rfl, h.f 2 _ rfl, h.f 3 _ rfl, h.f 4 _ rfl, h.f 5 _ rfl, h.f 6 _ rfl, h.f 7 _ rfl, h.f 8 _ rfl, h.f 9 _ rfl, h.f 10 _ rfl, h.f 11 _ rfl, h.f 12 _ rfl, h.f 13 _ rfl, h.f 14 _ rfl⟩
theorem pcs_has (l : List Va) {i : Nat} (h : i < 15) : ∃ v, (pcs l)[i]? = some v := ⟨_, List.getElem?_eq_getElem (show i < (pcs l).length from h)⟩
theorem pcs_five {w : World} {B : Nat} {l : List Va} (h : Blk w B (pcs l)) {j : Nat} (hj : j < 3) : (∃ v, w.cell? ⟨B, j * 5, none⟩ = some v) ∧ (∃ v, w.cell? ⟨B, j * 5 + 1, none⟩ = some v) ∧ (∃ v, w.cell? ⟨B, j * 5 + 2, none⟩ = some v) ∧ (∃ v, w.cell? ⟨B, j * 5 + 3, none⟩ = some v) ∧ (∃ v, w.cell? ⟨B, j * 5 + 4, none⟩ = some v) ∧ w.frozen? ⟨B, j * 5, none⟩ = false ∧ w.frozen? ⟨B, j * 5 + 1, none⟩ = false ∧ w.frozen? ⟨B, j * 5 + 2, none⟩ = false ∧ w.frozen? ⟨B, j * 5 + 3, none⟩ = false ∧ w.frozen? ⟨B, j * 5 + 4, none⟩ = false := by
  obtain ⟨v0, e0⟩ := pcs_has l (i := j * 5) (by omega)
  obtain ⟨v1, e1⟩ := pcs_has l (i := j * 5 + 1) (by omega)
  obtain ⟨v2, e2⟩ := pcs_has l (i := j * 5 + 2) (by omega)
  obtain ⟨v3, e3⟩ := pcs_has l (i := j * 5 + 3) (by omega)
  obtain ⟨v4, e4⟩ := pcs_has l (i := j * 5 + 4) (by omega)
  exact ⟨⟨v0, h.c _ _ e0⟩, ⟨v1, h.c _ _ e1⟩, ⟨v2, h.c _ _ e2⟩, ⟨v3, h.c _ _ e3⟩, ⟨v4, h.c _ _ e4⟩, h.f _ _ e0, h.f _ _ e1, h.f _ _ e2, h.f _ _ e3, h.f _ _ e4⟩
/-! ### What a doing answers -/
def Ans {α : Type} (X : Rs α) (P : α → Prop) (x : Int) (S : St) (n : Nat) : Prop := match X with
  | .er y => x = y ∧ x ≠ 0
  | .ok a S1 n1 => x = 0 ∧ P a ∧ S = S1 ∧ n = n1
theorem Ans.er {α : Type} {X : Rs α} {P : α → Prop} {x y : Int} {S : St} {n : Nat} (h : X = .er y) (hx : x = y) (h0 : x ≠ 0) : Ans X P x S n := by rw [h]; exact ⟨hx, h0⟩
theorem Ans.ok {α : Type} {X : Rs α} {P : α → Prop} {a : α} {S : St} {n : Nat} (h : X = .ok a S n) (ha : P a) : Ans X P 0 S n := by rw [h]; exact ⟨rfl, ha, rfl, rfl⟩
/-- Something more is done with what was answered. -/
theorem Ans.bnd {α β : Type} {f : M α} {g : α → M β} {P : α → Prop} {Q : β → Prop} {x : Int} {S S1 : St} {n n1 : Nat} (h : Ans (f S n) P x S1 n1) (hg : x = 0 → ∀ a, P a → f S n = .ok a S1 n1 → ∃ v, g a S1 n1 = .ok v S1 n1 ∧ Q v) : Ans (bnd f g S n) Q x S1 n1 := by
  unfold Ans at h
  unfold Ev.bnd
  split at h
  · rename_i y hy
    rw [hy]; exact h
  · rename_i a S2 n2 hy
    obtain ⟨h1, h2, rfl, rfl⟩ := h
    obtain ⟨v, hv, hq⟩ := hg h1 a h2 hy
    rw [hy]
    show Ans (g a S1 n1) Q x S1 n1
    rw [hv, h1]; exact ⟨rfl, hq, rfl, rfl⟩
theorem Ans.cases {α : Type} {X : Rs α} {P : α → Prop} {x : Int} {S : St} {n : Nat} (h : Ans X P x S n) : (x ≠ 0 ∧ X = .er x) ∨ (x = 0 ∧ ∃ a, P a ∧ X = .ok a S n) := by
  unfold Ans at h
  split at h
  · exact .inl ⟨h.2, by rw [h.1]⟩
  · obtain ⟨h1, h2, rfl, rfl⟩ := h; exact .inr ⟨h1, _, h2, rfl⟩
/-- A call on the doer: a value and an error, as the plain doing answers. -/
def Dn (X : Rs Va) (w0 : World) (A : Option Addr) (c E b : Nat) (l : List No) (ov : Value) (w : World) (e : Ending) (w' : World) : Prop :=
  ∃ (v : Va) (x : Int) (S' : St) (n' : Nat) (ov' : Value), e = .returned (.tuple #[.agg #[.int .i64 v.k, .int .i64 v.n, .string (tx v.s), .int .i64 v.x, .int .i64 v.y], .int .i64 x]) ∧ Ans X (fun a => v = a) x S' n' ∧ Doer w0 A c E b l S' n' ov' w' ∧ Mv b ov w ov' w'
/-- The parts of a node: three values and an error. -/
def Pn (X : Rs (List Va)) (w0 : World) (A : Option Addr) (c E b : Nat) (l : List No) (ov : Value) (w : World) (e : Ending) (w' : World) : Prop :=
  ∃ (p0 p1 p2 : Va) (x : Int) (S' : St) (n' : Nat) (ov' : Value), e = .returned (.tuple #[.agg #[.int .i64 p0.k, .int .i64 p0.n, .string (tx p0.s), .int .i64 p0.x, .int .i64 p0.y, .int .i64 p1.k, .int .i64 p1.n, .string (tx p1.s), .int .i64 p1.x, .int .i64 p1.y, .int .i64 p2.k, .int .i64 p2.n, .string (tx p2.s), .int .i64 p2.x, .int .i64 p2.y], .int .i64 x]) ∧
    Ans X (fun a => p0 = at0 a ∧ p1 = at1 a ∧ p2 = at2 a) x S' n' ∧ (x ≠ 0 → p0 = vz ∧ p1 = vz ∧ p2 = vz) ∧ Doer w0 A c E b l S' n' ov' w' ∧ Mv b ov w ov' w'
/-- What a doer works on. -/
structure Cx (w0 : World) (A : Option Addr) (l : List No) : Prop where
  nds : Nds w0 A l
  kn : KN w0
  tab : Tab w0
  len : l.length ≤ 400
/-- An expression's doing, by its contract. -/
def DoC (f : List No → M Va) (d : Nat) : Prop := ∀ (w0 : World) (A : Option Addr) (c E b : Nat) (l : List No) (S : St) (n : Nat) (ov : Value) (w : World) (k : Nat) (r : List No),
  Cx w0 A l → Doer w0 A c E b l S n ov w → Gd S n → ex d (l.drop k) = some r → d ≤ 25 →
  Calls Tryz.prog 22 #[.pointer (some ⟨b, 0, none⟩), .int .i64 (k : Int)] w (Dn (f (l.drop k) S n) w0 A c E b l ov w)
end Go.Proofs.YtcdjincaedpodaaGreatDoor.Ev
/-
  Where an expression ends; is a list right?
-/
namespace Go.Proofs.YtcdjincaedpodaaGreatDoor.Ex
open Go.ChangeShapes Go.WideShapes Go.ChangeAt Go.RowKit Go.Proofs.YtcdjincaedpodaaGreatDoor.Ov Go.Proofs.YtcdjincaedpodaaGreatDoor.Va

/-- What end answers. -/
def enx (n : Nat) : Option (List No) → Value
  | some r => .tuple #[.int .i64 ((n - r.length : Nat) : Int), .bool true]
  | none => .tuple #[.int .i64 0, .bool false]
theorem rnv_nd (n : No) : rnv n.o n.v.k n.v.n (tx n.v.s) n.v.x n.v.y = rn n := by unfold rnv; rw [tx_list]
theorem rn_range {n : No} (h : rn n = true) : 0 ≤ n.o ∧ n.o ≤ 29 := by
  rcases rn_cases h with ⟨h, _⟩ | ⟨h, _⟩ | ⟨h, _⟩ <;> omega
theorem ex_drop_len {d k : Nat} {l r : List No} (h : ex d (l.drop k) = some r) (hk : k ≤ l.length) : r = l.drop (l.length - r.length) ∧ k < l.length - r.length ∧ r.length ≤ l.length := by
  obtain ⟨h1, h2⟩ := ex_len h
  rw [List.length_drop] at h1 h2
  rw [List.drop_drop] at h2
  refine ⟨?_, by omega, by omega⟩
  rw [show k + (l.length - k - r.length) = l.length - r.length by omega] at h2
  exact h2
theorem end_out {l : List No} {A : Option Addr} {c k wi : Nat} {w : World} (d : Nat) (hk : ¬ k < l.length) : Calls Tryz.prog 24 #[.slice A l.length c, .int .i64 (k : Int), .int .i64 (wi : Int)] w (Gives (enx l.length (ex d (l.drop k))) w) := by
  have HE : Hid (enx l.length (ex d (l.drop k)) = .tuple #[.int .i64 0, .bool false]) := by
    show _ = _
    rw [List.drop_of_length_le (by omega), ex_nil]; rfl
  go_enter Tryz.func24, Tryz.ntmps24
  go_wp2_with (fail)
  go_ret2
  exact ⟨by rw [HE.out]; rfl, Below.refl _ _⟩
theorem end_deep {l : List No} {A : Option Addr} {c k : Nat} {w : World} (hk : k < l.length) : Calls Tryz.prog 24 #[.slice A l.length c, .int .i64 (k : Int), .int .i64 25] w (Gives (enx l.length (ex 0 (l.drop k))) w) := by
  have HE : Hid (enx l.length (ex 0 (l.drop k)) = .tuple #[.int .i64 0, .bool false]) := rfl
  go_enter Tryz.func24, Tryz.ntmps24
  go_wp2_with (fail)
  go_ret2
  exact ⟨by rw [HE.out]; rfl, Below.refl _ _⟩
set_option maxRecDepth 100000 in
set_option maxHeartbeats 4000000 in
theorem end_any : ∀ (d : Nat) (l : List No) (A : Option Addr) (c k wi : Nat) (w : World), Nds w A l → KN w → wi + d = 25 → l.length ≤ 4294967296 → Calls Tryz.prog 24 #[.slice A l.length c, .int .i64 (k : Int), .int .i64 (wi : Int)] w (Gives (enx l.length (ex d (l.drop k))) w)
  | d, l, A, c, k, wi, w, hn, hkn, hwi, hl => by
    by_cases hk : k < l.length
    · cases d with
      | zero =>
        obtain rfl : wi = 25 := by omega
        exact end_deep hk
      | succ d =>
        have ih := end_any d
        obtain ⟨B, O, rfl⟩ := hn.shape (by omega)
        have HI : Hid (∀ (k wi : Nat) (w : World), Nds w (some ⟨B, O, none⟩) l → KN w → wi + d = 25 → Calls Tryz.prog 24 #[.slice (some ⟨B, O, none⟩) l.length c, .int .i64 (k : Int), .int .i64 (wi : Int)] w (Gives (enx l.length (ex d (l.drop k))) w)) :=
          fun k wi w h1 h2 h3 => ih l (some ⟨B, O, none⟩) c k wi w h1 h2 h3 hl
        clear ih
        have hw : wi ≤ 24 := by omega
        have HE1 : Hid (ex (d + 1) (l.drop k) = if rn (nd l k) = true then it (ex d) (pa (nd l k).o) (l.drop (k + 1)) else none) := by
          show _ = _
          rw [drop_nd hk, ex_cons]
        have HW : Hid (wi + 1 + d = 25) := by show _ = _; omega
        have HN := Lib.hid hn
        have HK := Lib.hid hkn
        clear hn hkn hwi
        have e0 := HN.out.cell hk 0 _ rfl
        have e1 := HN.out.cell hk 1 _ rfl
        have e2 := HN.out.cell hk 2 _ rfl
        have e3 := HN.out.cell hk 3 _ rfl
        have e4 := HN.out.cell hk 4 _ rfl
        have e5 := HN.out.cell hk 5 _ rfl
        rw [Nat.add_zero] at e0
        have HR : Hid (∀ w, KN w → Calls Tryz.prog 65 #[.agg #[.int .i64 (nd l k).o, .int .i64 (nd l k).v.k, .int .i64 (nd l k).v.n, .string (tx (nd l k).v.s), .int .i64 (nd l k).v.x, .int .i64 (nd l k).v.y]] w (Gives (.bool (rn (nd l k))) w)) := fun w h => by
          rw [← rnv_nd]; exact rightNode_any _ _ _ _ _ _ w h
        rcases Bool.eq_false_or_eq_true (rn (nd l k)) with hr | hr
        · obtain ⟨i, hi⟩ : ∃ i : Nat, (nd l k).o = (i : Int) := ⟨(nd l k).o.toNat, by have := rn_range hr; omega⟩
          have hi30 : i < 30 := by have := rn_range hr; omega
          have HE : Hid (ex (d + 1) (l.drop k) = it (ex d) ptl[i]! (l.drop (k + 1))) := by
            show _ = _
            rw [HE1.out, if_pos hr, hi, pa_at hi30]
          have hp3 : ptl[i]! ≤ 3 := by rw [← pa_at hi30]; exact pa_le _
          rw [hr, hi] at HR
          rw [hi] at e0
          clear HE1 hr hi
          generalize ex (d + 1) (l.drop k) = Z at *
          generalize hpp : ptl[i]! = p at *
          have HPP := Lib.hid hpp
          clear hpp
          have HW0 : Hid (B < w.heap.size) := HN.out.lt (by omega)
          have hd1 : decide (l.length ≤ k) = false := decide_eq_false (by omega)
          have hd2 : decide ((24 : Int) < (wi : Int)) = false := decide_eq_false (by omega)
          go_enter Tryz.func24, Tryz.ntmps24
          go_wp2_with (fail)
          refine (HR.out _ HK.out).mono ?_
          rintro e w1 ⟨rfl, hb⟩
          have HN1 := Lib.hid (HN.out.next hb)
          have HK1 := Lib.hid (HK.out.next hb)
          have HB := Lib.hid hb
          have f0 : w1.cell? ⟨B, O + k * 6, none⟩ = some (.int .i64 (i : Int)) := (hb.cell (p := ⟨B, O + k * 6, none⟩) HW0.out).trans e0
          clear hb e0 e1 e2 e3 e4 e5 HR HN HK HW0
          have cK := HK1.out.parts i hi30
          rw [HPP.out, Nat.mul_comm] at cK
          go_wp2_with (fail)
          clear f0 cK
          go_loopw [8, 37] (fun bh j wr => ∃ y q : Nat, q ≤ p ∧ y ≤ l.length ∧ j = .int .i64 (q : Int) ∧ bh = .int .i64 (y : Int) ∧ Z = it (ex d) (p - q) (l.drop y) ∧ Below w1.heap.size w1 wr) (fun _ j _ => p - (intOf j).toNat)
          case atStart => exact ⟨k + 1, 0, Nat.zero_le _, by omega, rfl, rfl, HE.out, Below.refl _ _⟩
          case round =>
            obtain ⟨y, q, hq, hy, rfl, rfl, hz, hb⟩ := hrel
            have HB1 := Lib.hid hb
            have HZ := Lib.hid hz
            clear hb hz
            by_cases hlt : q < p
            · have HC := Lib.hid (HI.out y (wi + 1) wr (HN1.out.next HB1.out) (HK1.out.next HB1.out) HW.out)
              have HZ1 : Hid (Z = (ex d (l.drop y)).bind (it (ex d) (p - (q + 1)))) := by
                show _ = _
                rw [HZ.out, show p - q = (p - (q + 1)) + 1 by omega, it_succ]
              clear HZ
              obtain ⟨x, hx⟩ : ∃ x, ex d (l.drop y) = x := ⟨_, rfl⟩
              rw [hx] at HC HZ1
              have HX := Lib.hid hx
              clear hx
              cases x with
              | none =>
                have HEE : Hid (enx l.length Z = .tuple #[.int .i64 0, .bool false]) := by show _ = _; rw [HZ1.out]; rfl
                clear HZ1
                unfold enx at HC
                go_wp2_with (fail)
                refine HC.out.mono ?_
                rintro e w2 ⟨rfl, hb⟩
                have HB2 := Lib.hid (Below.next HB.out (Below.next HB1.out hb))
                clear hb
                go_wp2_with (fail)
                go_ret2
                exact ⟨by rw [HEE.out]; rfl, HB2.out⟩
              | some r =>
                obtain ⟨g1, g2, g3⟩ := ex_drop_len HX.out hy
                obtain ⟨v, hv⟩ : ∃ v, l.length - r.length = v := ⟨_, rfl⟩
                rw [hv] at g1 g2
                have HZ2 : Hid (Z = it (ex d) (p - (q + 1)) (l.drop v)) := by show _ = _; rw [HZ1.out, ← g1]; rfl
                unfold enx at HC
                dsimp only at HC
                rw [hv] at HC
                have hv2 : v ≤ l.length := by omega
                clear HZ1 g1 hv HX
                go_wp2_with (fail)
                refine HC.out.mono ?_
                rintro e w2 ⟨rfl, hb⟩
                have HB2 := Lib.hid (Below.next HB1.out hb)
                clear hb
                go_wp2_with (fail)
                go_roundw
                case rel => exact ⟨v, q + 1, by omega, hv2, by go_num, rfl, HZ2.out, HB2.out⟩
                case measure => simp [intOf]; omega
            · have HEE : Hid (enx l.length Z = .tuple #[.int .i64 (y : Int), .bool true]) := by
                show _ = _
                rw [HZ.out, show p - q = 0 by omega, it_zero]
                show Value.tuple #[.int .i64 ((l.length - (l.drop y).length : Nat) : Int), .bool true] = _
                rw [List.length_drop, show l.length - (l.length - y) = y by omega]
              have HB2 := Lib.hid (Below.next HB.out HB1.out)
              clear HZ
              go_wp2_with (fail)
              go_ret2
              exact ⟨by rw [HEE.out]; rfl, HB2.out⟩
        · have HE : Hid (enx l.length (ex (d + 1) (l.drop k)) = .tuple #[.int .i64 0, .bool false]) := by
            show _ = _
            rw [HE1.out, if_neg (by rw [hr]; decide)]; rfl
          rw [hr] at HR
          clear HE1 hr
          go_enter Tryz.func24, Tryz.ntmps24
          go_wp2_with (fail)
          refine (HR.out _ HK.out).mono ?_
          rintro e w1 ⟨rfl, hb⟩
          have HB := Lib.hid hb
          clear hb
          go_wp2_with (fail)
          go_ret2
          exact ⟨by rw [HE.out]; rfl, HB.out⟩
    · exact end_out d hk
theorem Rt_val (l : List No) : Rt l = (decide (l.length ≤ 400) && decide (ex 25 l = some [])) := by
  unfold Rt
  rw [Bool.eq_iff_iff]; simp
set_option maxRecDepth 100000 in
theorem eright_any (l : List No) (A : Option Addr) (c : Nat) (w : World) (hn : Nds w A l) (hk : KN w) (hl : l.length ≤ 4294967296) : Calls Tryz.prog 14 #[.slice A l.length c] w (Gives (.bool (Rt l)) w) := by
  rw [Rt_val]
  by_cases h4 : l.length ≤ 400
  · rw [decide_eq_true h4, Bool.true_and]
    have HC := Lib.hid (end_any 25 l A c 0 0 w hn hk rfl hl)
    rw [List.drop_zero] at HC
    clear hn hk
    obtain ⟨x, hx⟩ : ∃ x, ex 25 l = x := ⟨_, rfl⟩
    rw [hx] at HC ⊢
    have HX := Lib.hid hx; clear hx
    cases x with
    | none =>
      rw [decide_eq_false (show ¬ (none : Option (List No)) = some [] by simp)]
      unfold enx at HC
      go_enter Tryz.func14, Tryz.ntmps14
      go_wp2_with (fail)
      refine HC.out.mono ?_
      rintro e w1 ⟨rfl, hb⟩
      have HB := Lib.hid hb; clear hb
      go_wp2_with (fail)
      go_ret
      exact ⟨rfl, HB.out⟩
    | some r =>
      have hr := (ex_len HX.out).1
      unfold enx at HC
      dsimp only at HC
      obtain ⟨v, hv⟩ : ∃ v, l.length - r.length = v := ⟨_, rfl⟩
      rw [hv] at HC
      have HE : decide (some r = some ([] : List No)) = ((v : Int) == (l.length : Int)) := by
        rw [Bool.eq_iff_iff]
        simp only [decide_eq_true_eq, beq_iff_eq, Option.some.injEq]
        constructor
        · rintro rfl; rw [List.length_nil] at hv; omega
        · intro h; exact List.eq_nil_of_length_eq_zero (by omega)
      rw [HE]
      clear HE hv HX hr
      go_enter Tryz.func14, Tryz.ntmps14
      go_wp2_with (fail)
      refine HC.out.mono ?_
      rintro e w1 ⟨rfl, hb⟩
      have HB := Lib.hid hb; clear hb
      go_wp2_with (fail)
      go_ret
      exact ⟨rfl, HB.out⟩
  · rw [decide_eq_false h4, Bool.false_and]
    have h5 : 400 < l.length := by omega
    clear hn hk
    go_enter Tryz.func14, Tryz.ntmps14
    go_wp2_with (fail)
    go_ret
    exact ⟨rfl, Below.refl _ _⟩
/-- What End answers. -/
def edx (l : List No) (a : Int) : Option (List No) := if a < 0 then none else if Rt l = true then ex 25 (l.drop a.toNat) else none
end Go.Proofs.YtcdjincaedpodaaGreatDoor.Ex
/-
  Doing the expression at a place: a step, and what its kind does.
-/
namespace Go.Proofs.YtcdjincaedpodaaGreatDoor.Ev
open Go.ChangeShapes Go.WideShapes Go.ChangeAt Go.RowKit Go.Proofs.YtcdjincaedpodaaGreatDoor.Ov Go.Proofs.YtcdjincaedpodaaGreatDoor.Va Go.Proofs.YtcdjincaedpodaaGreatDoor.Ex

/-- A kind's deed, by its contract. -/
def DeedC (d : Nat) (o : Nat) (F : FuncId) : Prop := ∀ (w0 : World) (A : Option Addr) (c E b : Nat) (l : List No) (S : St) (n : Nat) (ov : Value) (w : World) (k : Nat) (r : List No),
  Cx w0 A l → Doer w0 A c E b l S n ov w → Gd S n → k < l.length → (nd l k).o = (o : Int) → rn (nd l k) = true → it (ex d) (pa (o : Int)) (l.drop (k + 1)) = some r → d ≤ 24 →
  Calls Tryz.prog F #[.pointer (some ⟨b, 0, none⟩), .int .i64 (k : Int)] w (Dn (body (ev d) (nd l k) (l.drop (k + 1)) S n) w0 A c E b l ov w)
theorem dcl_at (b : Nat) {o : Nat} (h : o < 30) (A : Option Addr) (c E len : Nat) (S : St) (n : Nat) (ov : Value) : (dcs A c E b len S n ov)[2 + o]? = some (dfn b (dl[o]!)) := by
  unfold dcs
  rw [show 2 + o = o + 1 + 1 by omega, List.getElem?_cons_succ, List.getElem?_cons_succ, List.getElem?_append_left (by show o < 30; exact h)]
  unfold dcl
  rw [List.getElem?_map, List.getElem!_eq_getElem?_getD, List.getElem?_eq_getElem (show o < dl.length from h)]; rfl
theorem ev_zero {l : List No} {k : Nat} (h : k < l.length) (d : Nat) (S : St) : ev (d + 1) (l.drop k) S 0 = .er 15 := by rw [drop_nd h]; rfl
theorem ev_succ {l : List No} {k : Nat} (h : k < l.length) (d : Nat) (S : St) (n : Nat) : ev (d + 1) (l.drop k) S (n + 1) = body (ev d) (nd l k) (l.drop (k + 1)) S n := by rw [drop_nd h]; rfl
theorem run_enter {F : FuncId} {fn : Func} (hf : Tryz.prog.funcs[F]? = some fn) (h1 : (fn.name == "runtime.NumGoroutine") = false) (h2 : fn.body.isNone = false) (args : Array Value) (w : World) :
    (callFunc F args).run Tryz.prog w = .ok (.enter F args) w := by
  have h3 : fn.name ≠ "runtime.NumGoroutine" := by simpa using h1
  have h4 : fn.body ≠ none := fun e => by rw [e] at h2; cases h2
  simp [callFunc, go_sem, hf, h3, h4]
theorem enters (args : Array Value) (w : World) : ∀ o : Nat, o < 30 → (callFunc dl[o]! args).run Tryz.prog w = .ok (.enter dl[o]! args) w
  | 0, _ => run_enter Tryz.func34 (by kernel_rfl) (by kernel_rfl) args w
  | 1, _ => run_enter Tryz.func35 (by kernel_rfl) (by kernel_rfl) args w
  | 2, _ => run_enter Tryz.func36 (by kernel_rfl) (by kernel_rfl) args w
  | 3, _ => run_enter Tryz.func37 (by kernel_rfl) (by kernel_rfl) args w
  | 4, _ => run_enter Tryz.func38 (by kernel_rfl) (by kernel_rfl) args w
  | 5, _ => run_enter Tryz.func39 (by kernel_rfl) (by kernel_rfl) args w
  | 6, _ => run_enter Tryz.func40 (by kernel_rfl) (by kernel_rfl) args w
  | 7, _ => run_enter Tryz.func41 (by kernel_rfl) (by kernel_rfl) args w
  | 8, _ => run_enter Tryz.func42 (by kernel_rfl) (by kernel_rfl) args w
  | 9, _ => run_enter Tryz.func43 (by kernel_rfl) (by kernel_rfl) args w
  | 10, _ => run_enter Tryz.func44 (by kernel_rfl) (by kernel_rfl) args w
  | 11, _ => run_enter Tryz.func45 (by kernel_rfl) (by kernel_rfl) args w
  | 12, _ => run_enter Tryz.func46 (by kernel_rfl) (by kernel_rfl) args w
  | 13, _ => run_enter Tryz.func47 (by kernel_rfl) (by kernel_rfl) args w
  | 14, _ => run_enter Tryz.func48 (by kernel_rfl) (by kernel_rfl) args w
  | 15, _ => run_enter Tryz.func49 (by kernel_rfl) (by kernel_rfl) args w
  | 16, _ => run_enter Tryz.func50 (by kernel_rfl) (by kernel_rfl) args w
  | 17, _ => run_enter Tryz.func51 (by kernel_rfl) (by kernel_rfl) args w
  | 18, _ => run_enter Tryz.func52 (by kernel_rfl) (by kernel_rfl) args w
  | 19, _ => run_enter Tryz.func53 (by kernel_rfl) (by kernel_rfl) args w
  | 20, _ => run_enter Tryz.func54 (by kernel_rfl) (by kernel_rfl) args w
  | 21, _ => run_enter Tryz.func55 (by kernel_rfl) (by kernel_rfl) args w
  | 22, _ => run_enter Tryz.func56 (by kernel_rfl) (by kernel_rfl) args w
  | 23, _ => run_enter Tryz.func57 (by kernel_rfl) (by kernel_rfl) args w
  | 24, _ => run_enter Tryz.func58 (by kernel_rfl) (by kernel_rfl) args w
  | 25, _ => run_enter Tryz.func59 (by kernel_rfl) (by kernel_rfl) args w
  | 26, _ => run_enter Tryz.func60 (by kernel_rfl) (by kernel_rfl) args w
  | 27, _ => run_enter Tryz.func61 (by kernel_rfl) (by kernel_rfl) args w
  | 28, _ => run_enter Tryz.func62 (by kernel_rfl) (by kernel_rfl) args w
  | 29, _ => run_enter Tryz.func63 (by kernel_rfl) (by kernel_rfl) args w
  | n + 30, h => absurd h (by omega)
/-- A value's box, new. -/
def vbox : Obj := .cells #[.int .i64 0, .int .i64 0, .string ⟨#[]⟩, .int .i64 0, .int .i64 0] 26
set_option maxRecDepth 100000 in
set_option maxHeartbeats 2000000 in
theorem do_step {d : Nat} (HA : ∀ o : Nat, o < 30 → DeedC d o dl[o]!) : DoC (ev (d + 1)) (d + 1) := by
  intro w0 A c E b l S n ov w k r hcx hd hg hx hd25
  have hl := hcx.len
  have hkl : k < l.length := by
    rcases Nat.lt_or_ge k l.length with h | h
    · exact h
    · rw [List.drop_of_length_le h, ex_nil] at hx; cases hx
  rw [drop_nd hkl, ex_cons] at hx
  have hrn : rn (nd l k) = true := by
    rcases Bool.eq_false_or_eq_true (rn (nd l k)) with h | h
    · exact h
    · rw [if_neg (by rw [h]; decide)] at hx; cases hx
  rw [if_pos hrn] at hx
  obtain ⟨o, ho⟩ : ∃ o : Nat, (nd l k).o = (o : Int) := ⟨(nd l k).o.toNat, by have := rn_range hrn; omega⟩
  have ho30 : o < 30 := by have := rn_range hrn; omega
  rw [ho] at hx
  have HX := Lib.hid hx
  have HO := Lib.hid ho
  have HR := Lib.hid hrn
  have HG := Lib.hid hg
  have HC := Lib.hid hcx
  obtain ⟨B, O, rfl⟩ := HC.out.nds.shape (by omega)
  have hnw := HC.out.nds.next hd.fro
  have e0 := hnw.cell hkl 0 _ rfl
  rw [Nat.add_zero, ho] at e0
  have HD := Lib.hid hd
  clear hx hrn hg ho hcx hnw
  have f1 := HD.out.blk.f 58 _ rfl
  have hb : B ≠ b := by
    have h1 := HC.out.nds.lt (by omega)
    have h2 := HD.out.hb
    omega
  have hn5 := HG.out.fuel
  have hlt := HD.out.blk.lt
  cases n with
  | zero =>
    have e1 : w.cell? ⟨b, 58, none⟩ = some (.int .i64 0) := HD.out.blk.c 58 _ rfl
    clear HX HO HR HG HC e0 f1 hb
    have HE := Lib.hid (hd.old (box1 w vbox))
    have HM : Hid (Mv b ov w ov (w.alloc vbox)) := Mv.of (box1 w _)
    have HZ := Lib.hid (ev_zero hkl d S)
    clear hd HD
    go_enter Tryz.func22, Tryz.ntmps22
    go_wp2_with (fail)
    refine bodyPost_ret (v := .tuple #[.agg #[.int .i64 0, .int .i64 0, .string ⟨#[]⟩, .int .i64 0, .int .i64 0], .int .i64 15]) (by simp [results, Tryz.results22, go_sem]) rfl ⟨vz, 15, S, 0, ov, rfl, Ans.er HZ.out rfl (by decide), HE.out, HM.out⟩
  | succ n =>
    have e1 : w.cell? ⟨b, 58, none⟩ = some (.int .i64 ((n : Int) + 1)) := HD.out.blk.c 58 _ rfl
    have hBl : B < w.heap.size := block_lt_of_cell e0
    have HF := Lib.hid (HA o ho30)
    obtain ⟨F, hF⟩ : ∃ F, dl[o]! = F := ⟨_, rfl⟩
    have HFF := Lib.hid hF
    rw [hF] at HF
    have hent : ∀ args w, (callFunc F args).run Tryz.prog w = .ok (.enter F args) w := fun args w => by rw [← hF]; exact enters args w o ho30
    clear hF hd
    go_enter Tryz.func22, Tryz.ntmps22
    go_wp2_with (fail)
    have hd1 := HD.out.putb (S' := S) (n' := n) 58 (.int .i64 (n : Int)) rfl rfl
    have hm1 : Mv b ov w ov _ := Mv.refl.putb 58 (.int .i64 (n : Int))
    have g0 : (w.setCell ⟨b, 58, none⟩ (.int .i64 (n : Int))).cell? ⟨B, O + k * 6, none⟩ = some (.int .i64 (o : Int)) := by
      rw [World.cell?_setCell_other _ _ _ _ (fun e => hb (by injection e with e1; exact e1.symm))]; exact e0
    have hs1 : (w.setCell ⟨b, 58, none⟩ (.int .i64 (n : Int))).heap.size = w.heap.size := by simp
    generalize w.setCell ⟨b, 58, none⟩ (.int .i64 (n : Int)) = w1 at *
    have hx2 : Box w0 b E ov w1.heap.size (vcs 0 0 ⟨#[]⟩ 0 0) (w1.alloc vbox) := Box.made hd1 (by omega) 26 (vcs 0 0 ⟨#[]⟩ 0 0)
    have hd2 := hd1.old (box1 w1 vbox)
    have hm2 := hm1.old (box1 w1 vbox)
    have g2 : (w1.alloc vbox).cell? ⟨B, O + k * 6, none⟩ = some (.int .i64 (o : Int)) := by rw [World.cell?_alloc_past _ _ _ (block_lt_of_cell g0)]; exact g0
    rw [hs1] at hx2
    have HZ : Hid (w.heap.size ≤ w.heap.size) := Lib.hid (Nat.le_refl _)
    change Code.wp _ _ _ _ (w1.alloc vbox)
    clear hd1 hm1 g0 hs1 e0 e1 f1 hlt hBl HD
    generalize w1.alloc vbox = w2 at *
    clear w1
    have e0 := hd2.blk.c 0 _ rfl
    have e2 := hd2.blk.c _ _ (dcl_at b ho30 (some ⟨B, O, none⟩) c E l.length S n ov)
    rw [HFF.out] at e2
    unfold dfn at e2
    have HC1 := Lib.hid (HF.out w0 (some ⟨B, O, none⟩) c E b l S n ov w2.drew k r HC.out hd2.drew ⟨HG.out.key, HG.out.val, HG.out.acc, HG.out.i, HG.out.it, HG.out.out, by omega⟩ hkl HO.out HR.out HX.out (by omega))
    have HY := Lib.hid (ev_succ hkl d S n)
    have HD2 := Lib.hid hd2; have HX2 := Lib.hid hx2.drew; have HM2 := Lib.hid (hm2.old (Below.refl _ _).drew)
    clear hd2 hx2 hm2 HX HO HR HG HF HFF
    go_region_with ((refine HC1.out.mono ?_; rintro e w3 ⟨v, x, S', n', ov', rfl, ha, hd, hm⟩; (have HA := Lib.hid ha; clear ha); (have HD3 := Lib.hid hd; clear hd); (have HX3 := Lib.hid (HX2.out.mv hm)); (have HM3 := Lib.hid (HM2.out.trans hm)); clear hm; have c0 := HX3.out.blk.v0; have c1 := HX3.out.blk.v1; have c2 := HX3.out.blk.v2; have c3 := HX3.out.blk.v3; have c4 := HX3.out.blk.v4; have i0 := HX3.out.blk.g0; have i1 := HX3.out.blk.g1; have i2 := HX3.out.blk.g2; have i3 := HX3.out.blk.g3; have i4 := HX3.out.blk.g4))
    have hx4 := HX3.out.all5 (.int .i64 v.k) (.int .i64 v.n) (.string (tx v.s)) (.int .i64 v.x) (.int .i64 v.y)
    have hd4 := HD3.out.all5 HX3.out (.int .i64 v.k) (.int .i64 v.n) (.string (tx v.s)) (.int .i64 v.x) (.int .i64 v.y)
    have hm4 := HM3.out.all5 HZ.out (.int .i64 v.k) (.int .i64 v.n) (.string (tx v.s)) (.int .i64 v.x) (.int .i64 v.y)
    clear c0 c1 c2 c3 c4 i0 i1 i2 i3 i4 HX3 HD3 HM3
    go_wp2_with (fail)
    generalize ((((w3.setCell ⟨w.heap.size, 0, none⟩ (.int .i64 v.k)).setCell ⟨w.heap.size, 1, none⟩ (.int .i64 v.n)).setCell ⟨w.heap.size, 2, none⟩ (.string (tx v.s))).setCell ⟨w.heap.size, 3, none⟩ (.int .i64 v.x)).setCell ⟨w.heap.size, 4, none⟩ (.int .i64 v.y) = w4 at *
    have c0 := hx4.blk.c 0 _ rfl
    have c1 := hx4.blk.c 1 _ rfl
    have c2 := hx4.blk.c 2 _ rfl
    have c3 := hx4.blk.c 3 _ rfl
    have c4 := hx4.blk.c 4 _ rfl
    refine bodyPost_ret (v := .tuple #[.agg #[.int .i64 v.k, .int .i64 v.n, .string (tx v.s), .int .i64 v.x, .int .i64 v.y], .int .i64 x]) (by simp [results, Tryz.results22, go_sem, c0, c1, c2, c3, c4]) rfl ⟨v, x, S', n', ov', rfl, by rw [HY.out]; exact HA.out, hd4, hm4⟩
theorem do_none : DoC (ev 0) 0 := by
  intro w0 A c E b l S n ov w k r _ _ _ hx
  cases hx
end Go.Proofs.YtcdjincaedpodaaGreatDoor.Ev
/-
  The first parts of a node, done one behind the other, and only then looked at.
-/
namespace Go.Proofs.YtcdjincaedpodaaGreatDoor.Ev
open Go.ChangeShapes Go.WideShapes Go.ChangeAt Go.RowKit Go.Proofs.YtcdjincaedpodaaGreatDoor.Ov Go.Proofs.YtcdjincaedpodaaGreatDoor.Va Go.Proofs.YtcdjincaedpodaaGreatDoor.Ex

/-- Kinds that are asked for, as cells. -/
def kcl (ks : List Int) : List Value := ks.map fun k => .int .i64 k
/-- Three values that are looked at. -/
def fin (ks : List Int) (l : List Va) : M (List Va) := if fits ks l = true then ret l else fail 13
/-- What parts does. -/
def prt (f : List No → M Va) (ks : List Int) (r : List No) : M (List Va) := bnd (va f ks.length r []) (fin ks)
theorem fits_drop {ks : List Int} {l : List Va} {j : Nat} (hk : j < ks.length) (hl : ks.length ≤ l.length) : fits (ks.drop j) (l.drop j) = ((ks[j] == -1 || (l.getD j vz).k == ks[j]) && fits (ks.drop (j + 1)) (l.drop (j + 1))) := by
  rw [List.drop_eq_getElem_cons hk, List.drop_eq_getElem_cons (show j < l.length by omega)]
  rw [List.getD_eq_getElem?_getD, List.getElem?_eq_getElem (show j < l.length by omega)]; rfl
/-- The box of three zero values. -/
def pz0 : List Value := pcs []
set_option maxRecDepth 100000 in
set_option maxHeartbeats 8000000 in
theorem parts_any {d : Nat} {f : List No → M Va} (HD : DoC f d) (HG : ∀ l r, ex d l = some r → GdM (f l) (fun a => rt a = true)) (ks : List Int) (hk1 : 1 ≤ ks.length) (hk3 : ks.length ≤ 3) (hks : ∀ k ∈ ks, -1 ≤ k ∧ k ≤ 2)
    (w0 : World) (A : Option Addr) (c E b q : Nat) (l : List No) (S : St) (n : Nat) (ov : Value) (w : World) (k : Nat) (r : List No)
    (hcx : Cx w0 A l) (hd : Doer w0 A c E b l S n ov w) (hq : Box w0 b E ov q (kcl ks) w) (hg : Gd S n) (hkl : k < l.length) (hx : it (ex d) ks.length (l.drop (k + 1)) = some r) (hd25 : d ≤ 25) :
    Calls Tryz.prog 91 #[.pointer (some ⟨b, 0, none⟩), .int .i64 (k : Int), .slice (some ⟨q, 0, none⟩) ks.length ks.length] w (Pn (prt f ks (l.drop (k + 1)) S n) w0 A c E b l ov w) := by
  have hl := hcx.len
  have HC := Lib.hid hcx; have HX := Lib.hid hx; have HGG := Lib.hid hg; have HKS := Lib.hid hks
  have HH := Lib.hid HD; have HP := Lib.hid HG
  generalize hXX : prt f ks (l.drop (k + 1)) S n = X
  have HXX := Lib.hid hXX
  have hx6 := Box.made hd (by omega) 106 pz0
  have hd6 := hd.old (box1 w (.cells pz0.toArray 106))
  have hq6 := hq.old (box1 w (.cells pz0.toArray 106))
  have hm6 : Mv b ov w ov _ := Mv.of (box1 w (.cells pz0.toArray 106))
  have hs6 : (w.alloc (.cells pz0.toArray 106)).heap.size = w.heap.size + 1 := by simp
  have hw6 : ∃ w1, w.alloc (.cells pz0.toArray 106) = w1 := ⟨_, rfl⟩
  obtain ⟨w1, hw1⟩ := hw6
  rw [hw1] at hx6 hd6 hq6 hm6 hs6
  have hx8 := Box.made hd6 (by omega) 106 pz0
  have hd8 := hd6.old (box1 w1 (.cells pz0.toArray 106))
  have hq8 := hq6.old (box1 w1 (.cells pz0.toArray 106))
  have hm8 := hm6.old (box1 w1 (.cells pz0.toArray 106))
  have hx68 := hx6.old (box1 w1 (.cells pz0.toArray 106))
  rw [hs6] at hx8
  have H6 := Lib.hid hx68; have H8 := Lib.hid hx8; have HD8 := Lib.hid hd8; have HM8 := Lib.hid hm8; have HQ8 := Lib.hid hq8
  have hqm : ks.length ≤ maxLen := by unfold maxLen; omega
  have HW1 := Lib.hid hw1
  have HQZ : Hid (q < w.heap.size) := hq.blk.lt
  clear hcx hd hq hg hx hks HD HG hXX hx6 hd6 hq6 hm6 hs6 hx8 hd8 hq8 hm8 hx68 hw1
  go_enter Tryz.func91, Tryz.ntmps91
  go_wp2_with (fail)
  change Code.wp _ _ _ _ ((w.alloc (.cells pz0.toArray 106)).alloc (.cells pz0.toArray 106))
  rw [HW1.out]
  generalize hw2 : w1.alloc (.cells pz0.toArray 106) = w2 at *
  clear hw2 HW1 w1
  generalize hZ : w.heap.size = Z at *
  have HZ := Lib.hid hZ; clear hZ
  go_loopw [9, 19] (fun p i wr => ∃ (j y n1 : Nat) (acc : List Va) (S1 : St) (ov1 : Value), j ≤ ks.length ∧ acc.length = j ∧ p = .int .i64 (y : Int) ∧ i = .int .i64 (j : Int) ∧ y ≤ l.length ∧ X = bnd (va f (ks.length - j) (l.drop y) acc) (fin ks) S1 n1 ∧ it (ex d) (ks.length - j) (l.drop y) = some r ∧ Gd S1 n1 ∧ Doer w0 A c E b l S1 n1 ov1 wr ∧ Mv b ov w ov1 wr ∧ Box w0 b E ov1 q (kcl ks) wr ∧ Box w0 b E ov1 Z pz0 wr ∧ Box w0 b E ov1 (Z + 1) (pcs acc) wr) (fun _ i _ => ks.length - (intOf i).toNat)
  case atStart => exact ⟨0, k + 1, n, [], S, ov, Nat.zero_le _, rfl, rfl, rfl, hkl, HXX.out.symm, HX.out, HGG.out, HD8.out, HM8.out, HQ8.out, H6.out, H8.out⟩
  case round =>
    clear HX HGG HXX HD8 HM8 HQ8 H6 H8
    obtain ⟨j, y, n1, acc, S1, ov1, hj, ha, rfl, rfl, hy, hxx, hit, hg, hd, hm, hq, h6, h8⟩ := hrel
    by_cases hlt : j < ks.length
    · have hit2 := hit
      rw [show ks.length - j = (ks.length - (j + 1)) + 1 by omega, it_succ] at hit2
      obtain ⟨r1, e1, e2⟩ := Option.bind_eq_some_iff.1 hit2
      obtain ⟨g1, g2, g3⟩ := ex_drop_len e1 hy
      obtain ⟨y1, hy1⟩ : ∃ y1, l.length - r1.length = y1 := ⟨_, rfl⟩
      rw [hy1] at g1 g2
      have hy2 : y1 ≤ l.length := by omega
      have hyl : y < l.length := by omega
      rw [show ks.length - j = (ks.length - (j + 1)) + 1 by omega, va_succ, bnd_assoc, nx_of e1 hd25] at hxx
      have hbe := hd.beh y hyl
      rw [nx_of e1 hd25, hy1] at hbe
      rw [g1] at e2 hxx
      have HYY := Lib.hid hy1
      have HE1 := Lib.hid e1; have HE2 := Lib.hid e2; have HXX := Lib.hid hxx
      have HC1 := Lib.hid (HH.out w0 A c E b l S1 n1 ov1 wr y _ HC.out hd hg e1 hd25)
      have HG1 := Lib.hid (fun v S2 n2 h => HP.out _ _ e1 S1 n1 v S2 n2 hg h)
      have HM := Lib.hid hm; have HQ := Lib.hid hq; have H6 := Lib.hid h6; have H8 := Lib.hid h8; have HA := Lib.hid ha
      clear hit hit2 e1 e2 g1 g3 hy1 hxx hg hd hm hq h6 h8 ha hbe
      go_wp2_with (fail)
      refine HC1.out.mono ?_
      rintro e w3 ⟨v, x, S2, n2, ov2, rfl, ha, hd, hm⟩
      have HAA := Lib.hid ha; have HD2 := Lib.hid hd
      have HQ2 := Lib.hid (HQ.out.mv hm); have H62 := Lib.hid (H6.out.mv hm); have H82 := Lib.hid (H8.out.mv hm); have HM2 := Lib.hid (HM.out.trans hm)
      clear ha hd hm HC1 HM HQ H6 H8
      have hlZ := H62.out.blk.lt
      rcases HAA.out.cases with ⟨hx0, hX⟩ | ⟨rfl, u, rfl, hX⟩
      · have HRX : Hid (X = .er x) := by show _ = _; rw [HXX.out, bnd_er hX]
        have HX0 := Lib.hid hx0
        have hx1 : (x == 0) = false := by simpa using hx0
        have hx2 : (x != 0) = true := by simpa using hx0
        clear HXX HG1 hX HAA hx0
        obtain ⟨c0, c1, c2, c3, c4, c5, c6, c7, c8, c9, c10, c11, c12, c13, c14⟩ := pcs_cells H62.out.blk
        obtain ⟨z0, z1, z2, z3, z4, z5, z6, z7, z8, z9, z10, z11, z12, z13, z14⟩ := pcs_frozen H62.out.blk
        go_wp2_with (fail)
        have hd4 := (HD2.out.puts H62.out 0 pz0).old (box1 _ (.cells (vcl v).toArray 26))
        have hm4 := (HM2.out.puts (Nat.le_of_eq HZ.out) 0 pz0).old (box1 _ (.cells (vcl v).toArray 26))
        have hx4 := (H62.out.puts pz0 rfl).old (box1 _ (.cells (vcl v).toArray 26))
        clear c0 c1 c2 c3 c4 c5 c6 c7 c8 c9 c10 c11 c12 c13 c14 z0 z1 z2 z3 z4 z5 z6 z7 z8 z9 z10 z11 z12 z13 z14 HD2 HM2 H62 H82 HQ2
        change bodyPost _ _ _ _ _ ((putL w3 Z 0 pz0).alloc (.cells (vcl v).toArray 26))
        generalize (putL w3 Z 0 pz0).alloc (.cells (vcl v).toArray 26) = w4 at *
        obtain ⟨c0, c1, c2, c3, c4, c5, c6, c7, c8, c9, c10, c11, c12, c13, c14⟩ := pcs_cells hx4.blk
        refine bodyPost_ret (v := .tuple #[.agg #[.int .i64 0, .int .i64 0, .string ⟨#[]⟩, .int .i64 0, .int .i64 0, .int .i64 0, .int .i64 0, .string ⟨#[]⟩, .int .i64 0, .int .i64 0, .int .i64 0, .int .i64 0, .string ⟨#[]⟩, .int .i64 0, .int .i64 0], .int .i64 x]) (by simp [results, Tryz.results91, go_sem, c0, c1, c2, c3, c4, c5, c6, c7, c8, c9, c10, c11, c12, c13, c14]; repeat (first | rfl | refine ⟨rfl, ?_⟩)) rfl ⟨vz, vz, vz, x, S2, n2, ov2, rfl, Ans.er HRX.out rfl HX0.out, fun _ => ⟨rfl, rfl, rfl⟩, hd4, hm4⟩
      · have hgd := Lib.hid (HG1.out v S2 n2 hX)
        have HXX2 : Hid (X = bnd (va f (ks.length - (j + 1)) (l.drop y1) (acc ++ [v])) (fin ks) S2 n2) := by show _ = _; rw [HXX.out, bnd_ok hX]
        have hlb := HD2.out.blk.lt
        have hlE := HD2.out.ltE (by omega)
        have hl8 := H82.out.blk.lt
        have hnb := H82.out.nb
        have hnb' : b ≠ Z + 1 := fun e => hnb e.symm
        have hnE := H82.out.nE
        have hnE' : E ≠ Z + 1 := fun e => hnE e.symm
        have hj3 : j < 3 := by omega
        obtain ⟨⟨_, d0⟩, ⟨_, d1⟩, ⟨_, d2⟩, ⟨_, d3⟩, ⟨_, d4⟩, g0, g1, g2, g3, g4⟩ := pcs_five H82.out.blk hj3
        have b1 := HD2.out.blk.c 1 _ rfl
        have b2 := HD2.out.beh y hyl
        rw [nx_of HE1.out hd25, HYY.out] at b2
        clear HXX HG1 hX HAA
        have hd4 := (HD2.out.puts H82.out (j * 5) (vcl v)).old (box1 _ (.cells (vcl v).toArray 26))
        have hm4 := (HM2.out.puts (by have := HZ.out; omega : w.heap.size ≤ Z + 1) (j * 5) (vcl v)).old (box1 _ (.cells (vcl v).toArray 26))
        have hq4 := (HQ2.out.puts_other (show Z + 1 ≠ q by have := HQZ.out; omega) (j * 5) (vcl v)).old (box1 _ (.cells (vcl v).toArray 26))
        have h64 := (H62.out.puts_other (show Z + 1 ≠ Z by omega) (j * 5) (vcl v)).old (box1 _ (.cells (vcl v).toArray 26))
        have h84 := (H82.out.puts_at (j * 5) (vcl v) (by show j * 5 + 5 ≤ 15; omega)).old (box1 _ (.cells (vcl v).toArray 26))
        change Box w0 b E ov2 (Z + 1) ((pcs acc).take (j * 5) ++ vcl v ++ (pcs acc).drop (j * 5 + 5)) _ at h84
        have hps := pcs_snoc acc v (by have := HA.out; omega)
        rw [HA.out] at hps
        rw [hps] at h84
        have H4 := Lib.hid hd4; have H5 := Lib.hid hm4; have H6 := Lib.hid hq4; have H7 := Lib.hid h64; have H9 := Lib.hid h84
        clear hd4 hm4 hq4 h64 h84 hps HD2 HM2 HQ2 H62 H82
        go_wp2_with (fail)
        go_roundw
        case rel => exact ⟨j + 1, y1, n2, acc ++ [v], S2, ov2, by omega, by rw [List.length_append, HA.out]; rfl, rfl, by go_num, hy2, HXX2.out, HE2.out, hgd.out.2, H4.out, H5.out, H6.out, H7.out, H9.out⟩
        case measure => simp [intOf]; omega
    · obtain rfl : j = ks.length := by omega
      have HXX : Hid (X = fin ks acc S1 n1) := by
        show _ = _
        rw [hxx, show ks.length - ks.length = 0 by omega]; rfl
      have HQ := Lib.hid hq; have H6 := Lib.hid h6; have H8 := Lib.hid h8; have HM := Lib.hid hm; have HDD := Lib.hid hd
      have HA := Lib.hid ha
      clear hxx hit hq h6 h8 hg hd hm ha hlt
      go_wp2_with (fail)
      go_loop [45] (fun i => ∃ j : Nat, j ≤ ks.length ∧ i = .int .i64 (j : Int) ∧ fits (ks.drop j) (acc.drop j) = fits ks acc) (fun i => ks.length - (intOf i).toNat)
      case atStart => exact ⟨0, Nat.zero_le _, rfl, rfl⟩
      case round =>
        obtain ⟨j, hj2, rfl, hf⟩ := hrel
        by_cases hlt : j < ks.length
        · have hff := fits_drop (l := acc) hlt (by have := HA.out; omega)
          have q1 := HQ.out.blk.c j (.int .i64 ks[j]) (by unfold kcl; rw [List.getElem?_map, List.getElem?_eq_getElem hlt]; rfl)
          have a1 := H8.out.blk.c (j * 5) _ (pcs_kind acc j (by omega))
          have hkb := HKS.out _ (List.getElem_mem hlt)
          generalize ks[j] = kj at *
          generalize (acc.getD j vz).k = ka at *
          rw [hf] at hff
          have HFF := Lib.hid hff
          clear hf hff
          by_cases h1 : kj = -1
          · subst h1
            have HF2 : Hid (fits (ks.drop (j + 1)) (acc.drop (j + 1)) = fits ks acc) := by show _ = _; rw [HFF.out]; simp
            clear HFF
            go_wp2_with (fail)
            go_round
            case rel => exact ⟨j + 1, by omega, by go_num, HF2.out⟩
            case measure => simp [intOf]; omega
          · have h2 : (kj != -1) = true := by simpa using h1
            by_cases h3 : ka = kj
            · subst h3
              have HF2 : Hid (fits (ks.drop (j + 1)) (acc.drop (j + 1)) = fits ks acc) := by show _ = _; rw [HFF.out]; simp
              clear HFF
              go_wp2_with (fail)
              go_round
              case rel => exact ⟨j + 1, by omega, by go_num, HF2.out⟩
              case measure => simp [intOf]; omega
            · have h4 : (ka != kj) = true := by simpa using h3
              have HF2 : Hid (X = .er 13) := by
                show _ = _
                rw [HXX.out]
                unfold fin
                rw [HFF.out, show (kj == -1) = false by simpa using h1, show (ka == kj) = false by simpa using h3]; rfl
              clear HFF HXX
              obtain ⟨c0, c1, c2, c3, c4, c5, c6, c7, c8, c9, c10, c11, c12, c13, c14⟩ := pcs_cells H6.out.blk
              obtain ⟨z0, z1, z2, z3, z4, z5, z6, z7, z8, z9, z10, z11, z12, z13, z14⟩ := pcs_frozen H6.out.blk
              go_wp2_with (fail)
              have hd4 := HDD.out.puts H6.out 0 pz0
              have hm4 := HM.out.puts (Nat.le_of_eq HZ.out) 0 pz0
              have hx4 := H6.out.puts pz0 rfl
              clear c0 c1 c2 c3 c4 c5 c6 c7 c8 c9 c10 c11 c12 c13 c14 z0 z1 z2 z3 z4 z5 z6 z7 z8 z9 z10 z11 z12 z13 z14 HDD HM H6 H8 HQ q1 a1
              change bodyPost _ _ _ _ _ (putL wr Z 0 pz0)
              generalize putL wr Z 0 pz0 = w4 at *
              obtain ⟨c0, c1, c2, c3, c4, c5, c6, c7, c8, c9, c10, c11, c12, c13, c14⟩ := pcs_cells hx4.blk
              refine bodyPost_ret (v := .tuple #[.agg #[.int .i64 0, .int .i64 0, .string ⟨#[]⟩, .int .i64 0, .int .i64 0, .int .i64 0, .int .i64 0, .string ⟨#[]⟩, .int .i64 0, .int .i64 0, .int .i64 0, .int .i64 0, .string ⟨#[]⟩, .int .i64 0, .int .i64 0], .int .i64 13]) (by simp [results, Tryz.results91, go_sem, c0, c1, c2, c3, c4, c5, c6, c7, c8, c9, c10, c11, c12, c13, c14]; repeat (first | rfl | refine ⟨rfl, ?_⟩)) rfl ⟨vz, vz, vz, 13, S1, n1, ov1, rfl, Ans.er HF2.out rfl (by decide), fun _ => ⟨rfl, rfl, rfl⟩, hd4, hm4⟩
        · obtain rfl : j = ks.length := by omega
          have HF2 : Hid (X = .ok acc S1 n1) := by
            show _ = _
            rw [HXX.out]
            unfold fin
            rw [← hf, List.drop_of_length_le (Nat.le_refl _)]; rfl
          clear hf HXX
          obtain ⟨c0, c1, c2, c3, c4, c5, c6, c7, c8, c9, c10, c11, c12, c13, c14⟩ := pcs_cells H6.out.blk
          obtain ⟨z0, z1, z2, z3, z4, z5, z6, z7, z8, z9, z10, z11, z12, z13, z14⟩ := pcs_frozen H6.out.blk
          obtain ⟨e0, e1, e2, e3, e4, e5, e6, e7, e8, e9, e10, e11, e12, e13, e14⟩ := pcs_cells H8.out.blk
          go_wp2_with (fail)
          have hd4 := HDD.out.puts H6.out 0 (pcs acc)
          have hm4 := HM.out.puts (Nat.le_of_eq HZ.out) 0 (pcs acc)
          have hx4 := H6.out.puts (pcs acc) rfl
          clear c0 c1 c2 c3 c4 c5 c6 c7 c8 c9 c10 c11 c12 c13 c14 z0 z1 z2 z3 z4 z5 z6 z7 z8 z9 z10 z11 z12 z13 z14 e0 e1 e2 e3 e4 e5 e6 e7 e8 e9 e10 e11 e12 e13 e14 HDD HM H6 H8 HQ
          change bodyPost _ _ _ _ _ (putL wr Z 0 (pcs acc))
          generalize putL wr Z 0 (pcs acc) = w4 at *
          obtain ⟨c0, c1, c2, c3, c4, c5, c6, c7, c8, c9, c10, c11, c12, c13, c14⟩ := pcs_cells hx4.blk
          refine bodyPost_ret (v := .tuple #[.agg #[.int .i64 (at0 acc).k, .int .i64 (at0 acc).n, .string (tx (at0 acc).s), .int .i64 (at0 acc).x, .int .i64 (at0 acc).y, .int .i64 (at1 acc).k, .int .i64 (at1 acc).n, .string (tx (at1 acc).s), .int .i64 (at1 acc).x, .int .i64 (at1 acc).y, .int .i64 (at2 acc).k, .int .i64 (at2 acc).n, .string (tx (at2 acc).s), .int .i64 (at2 acc).x, .int .i64 (at2 acc).y], .int .i64 0]) (by simp [results, Tryz.results91, go_sem, c0, c1, c2, c3, c4, c5, c6, c7, c8, c9, c10, c11, c12, c13, c14]) rfl ⟨at0 acc, at1 acc, at2 acc, 0, S1, n1, ov1, rfl, Ans.ok HF2.out ⟨rfl, rfl, rfl⟩, fun h => absurd rfl h, hd4, hm4⟩
end Go.Proofs.YtcdjincaedpodaaGreatDoor.Ev
/-
  What each kind does first: a box for what it answers, its parts.
-/
namespace Go.Proofs.YtcdjincaedpodaaGreatDoor.Ev
open Go.ChangeShapes Go.WideShapes Go.ChangeAt Go.RowKit Go.Proofs.YtcdjincaedpodaaGreatDoor.Ov Go.Proofs.YtcdjincaedpodaaGreatDoor.Va Go.Proofs.YtcdjincaedpodaaGreatDoor.Ex

/-- What a kind does, its parts done and looked at. -/
def af (o : Int) (l : List Va) : M Va := if o = 26 then (if 64 < (at0 l).s.length then fail 3 else emitM (at0 l).s (at1 l)) else lift (pu o (at0 l) (at1 l) (at2 l))
theorem fin_bnd {β : Type} (ks : List Int) (l : List Va) (g : List Va → M β) : bnd (fin ks l) g = if fits ks l = false then fail 13 else g l := by
  unfold fin
  cases hf : fits ks l <;> rfl
theorem prt_bnd {β : Type} (f : List No → M Va) (ks : List Int) (r : List No) (g : List Va → M β) : bnd (prt f ks r) g = bnd (va f ks.length r []) fun l => if fits ks l = false then fail 13 else g l := by
  unfold prt
  rw [bnd_assoc]
  congr 1
  funext l
  exact fin_bnd ks l g
theorem body_prt {f : List No → M Va} {n : No} {r : List No} {o : Int} (ho : n.o = o) (h0 : o ≠ 0) (h1 : o ≠ 1) (h11 : o ≠ 11) (h28 : o ≠ 28) (h29 : o ≠ 29) (hl : (ask o).length = pa o) : body f n r = bnd (prt f (ask o) r) (af o) := by
  unfold body
  rw [ho, if_neg h0, if_neg h1, if_neg h11, if_neg h28, if_neg h29, prt_bnd, hl]; rfl
/-- The first part alone, of a kind that is asked for. -/
theorem va_one (f : List No → M Va) (r : List No) {β : Type} (g : List Va → M β) : bnd (va f 1 r []) g = bnd (f r) fun a => g [a] := by
  rw [va_succ, bnd_assoc]; rfl
theorem prt_one {β : Type} (f : List No → M Va) (k : Int) (r : List No) (g : List Va → M β) : bnd (prt f [k] r) g = bnd (f r) fun a => if (k == -1 || a.k == k) = false then fail 13 else g [a] := by
  rw [prt_bnd]
  show bnd (va f 1 r []) _ = _
  rw [va_one]
  congr 1
  funext a
  simp [fits]
/-- What the parts are, the box made: all that is wanted to go on. -/
def Pp (X : Rs (List Va)) (w0 : World) (A : Option Addr) (c E b : Nat) (l : List No) (ov : Value) (w : World) (e : Ending) (w' : World) : Prop :=
  ∃ (p0 p1 p2 : Va) (x : Int) (S' : St) (n' : Nat) (ov' : Value), e = .returned (.tuple #[.agg #[.int .i64 p0.k, .int .i64 p0.n, .string (tx p0.s), .int .i64 p0.x, .int .i64 p0.y, .int .i64 p1.k, .int .i64 p1.n, .string (tx p1.s), .int .i64 p1.x, .int .i64 p1.y, .int .i64 p2.k, .int .i64 p2.n, .string (tx p2.s), .int .i64 p2.x, .int .i64 p2.y], .int .i64 x]) ∧
    Ans X (fun a => p0 = at0 a ∧ p1 = at1 a ∧ p2 = at2 a) x S' n' ∧ rt p0 = true ∧ rt p1 = true ∧ rt p2 = true ∧ (x = 0 → Gd S' n') ∧ Doer w0 A c E b l S' n' ov' w' ∧ Mv b ov w ov' w' ∧ Box w0 b E ov' w.heap.size (vcs 0 0 ⟨#[]⟩ 0 0) w'
theorem it_pre {d k : Nat} {m : Nat} {r r' : List No} (h : it (ex d) k r = some r') (hm : m ≤ k) : ∃ r2, it (ex d) m r = some r2 := by
  induction m generalizing k r with
  | zero => exact ⟨r, rfl⟩
  | succ m ih =>
    obtain ⟨j, rfl⟩ : ∃ j, k = j + 1 := ⟨k - 1, by omega⟩
    rw [it_succ] at h
    obtain ⟨r1, h1, h2⟩ := Option.bind_eq_some_iff.1 h
    obtain ⟨r2, h3⟩ := ih h2 (by omega)
    exact ⟨r2, by rw [it_succ, h1]; exact h3⟩
theorem prt_good {d : Nat} (hd : d ≤ 25) {ks : List Int} {r r' : List No} (h : it (ex d) ks.length r = some r') : GdM (prt (ev d) ks r) AllR := by
  unfold prt
  refine (va_good (ev_good d hd) hd _ _ _ _ h (fun v hv => by cases hv)).bnd fun l hl => ?_
  unfold fin
  exact GdM.ite (fun _ => GdM.ret hl) fun _ => GdM.fail
theorem pre_any {d : Nat} (HD : DoC (ev d) d) (ks : List Int) (hk1 : 1 ≤ ks.length) (hk3 : ks.length ≤ 3) (hks : ∀ k ∈ ks, -1 ≤ k ∧ k ≤ 2)
    {w0 : World} {A : Option Addr} {c E b : Nat} {l : List No} {S : St} {n : Nat} {ov : Value} {w : World} {k m : Nat} {r : List No}
    (hcx : Cx w0 A l) (hd : Doer w0 A c E b l S n ov w) (hg : Gd S n) (hkl : k < l.length) (hx : it (ex d) m (l.drop (k + 1)) = some r) (hm : ks.length ≤ m) (hd25 : d ≤ 24) :
    Calls Tryz.prog 91 #[.pointer (some ⟨b, 0, none⟩), .int .i64 (k : Int), .slice (some ⟨w.heap.size + 1, 0, none⟩) ks.length ks.length]
      ((w.alloc vbox).alloc (.cells (kcl ks).toArray 3)) (Pp (prt (ev d) ks (l.drop (k + 1)) S n) w0 A c E b l ov w) := by
  obtain ⟨r2, hx2⟩ := it_pre hx hm
  have hx1 : Box w0 b E ov w.heap.size (vcs 0 0 ⟨#[]⟩ 0 0) (w.alloc vbox) := Box.made hd (by omega) 26 (vcs 0 0 ⟨#[]⟩ 0 0)
  have hd1 := hd.old (box1 w vbox)
  have hq := Box.made hd1 (by omega) 3 (kcl ks)
  have hd2 := hd1.old (box1 (w.alloc vbox) (.cells (kcl ks).toArray 3))
  have hx3 := hx1.old (box1 (w.alloc vbox) (.cells (kcl ks).toArray 3))
  have hm2 : Mv b ov w ov ((w.alloc vbox).alloc (.cells (kcl ks).toArray 3)) := Mv.of (box2 w _ _)
  rw [World.size_alloc] at hq
  refine (parts_any HD (ev_good d (by omega)) ks hk1 hk3 hks w0 A c E b (w.heap.size + 1) l S n ov _ k r2 hcx hd2 hq hg hkl hx2 (by omega)).mono ?_
  rintro e w' ⟨p0, p1, p2, x, S', n', ov', he, ha, hz, hd', hm'⟩
  have hR : (rt p0 = true ∧ rt p1 = true ∧ rt p2 = true) ∧ (x = 0 → Gd S' n') := by
    rcases ha.cases with ⟨h0, _⟩ | ⟨h0, a, ⟨g0, g1, g2⟩, ha'⟩
    · obtain ⟨g0, g1, g2⟩ := hz h0
      rw [g0, g1, g2]
      exact ⟨⟨rt_vz, rt_vz, rt_vz⟩, fun h => absurd h h0⟩
    · obtain ⟨k1, k2⟩ := prt_good (by omega) hx2 S n a S' n' hg ha'
      rw [g0, g1, g2]
      exact ⟨⟨k1.at 0, k1.at 1, k1.at 2⟩, fun _ => k2⟩
  exact ⟨p0, p1, p2, x, S', n', ov', he, ha, hR.1.1, hR.1.2.1, hR.1.2.2, hR.2, hd', hm2.trans hm', hx3.mv hm'⟩
end Go.Proofs.YtcdjincaedpodaaGreatDoor.Ev
/-
  Of any seat: floats of 64 bits that stand for whole numbers below 2^53: sums, differences, products and conversions of them are exact; complex numbers of such.
-/
namespace Go.Proofs.YtcdjincaedpodaaGreatDoor.Ov
open Ieee

theorem log2_shift {v : Nat} (hv : v ≠ 0) (k : Nat) : (v * 2 ^ k).log2 = v.log2 + k := by
  have h2 : 0 < 2 ^ k := Nat.two_pow_pos k
  rw [Nat.log2_eq_iff (Nat.mul_ne_zero hv (Nat.ne_of_gt h2))]
  refine ⟨?_, ?_⟩
  · rw [Nat.pow_add]; exact Nat.mul_le_mul_right _ (Nat.log2_self_le hv)
  · rw [show v.log2 + k + 1 = v.log2 + 1 + k by omega, Nat.pow_add]; exact Nat.mul_lt_mul_of_pos_right Nat.lt_log2_self h2
/-- What is whole is not cut, whichever way. -/
theorem cut_whole (way : Toward) (s : Bool) (v k : Nat) : way.cut s (v * 2 ^ k) k = v := by
  have h2 : 0 < 2 ^ k := Nat.two_pow_pos k
  have hg : (v * 2 ^ k) / (1 <<< min k ((v * 2 ^ k).log2 + 2)) = v ∧ (v * 2 ^ k) % (1 <<< min k ((v * 2 ^ k).log2 + 2)) = 0 ∧ 1 <<< min k ((v * 2 ^ k).log2 + 2) ≠ 0 := by
    by_cases hv : v = 0
    · subst hv; simp
    · rw [log2_shift hv, Nat.min_eq_left (by omega), Nat.one_shiftLeft]
      exact ⟨Nat.mul_div_cancel _ h2, Nat.mul_mod_left _ _, Nat.ne_of_gt h2⟩
  obtain ⟨h1, h3, h4⟩ := hg
  unfold Toward.cut
  simp only [h1, h3]
  generalize 1 <<< min k ((v * 2 ^ k).log2 + 2) = g at *
  cases way <;> simp [h4]
/-- A datum that stands for a whole number. -/
def DIs (d : Datum) (n : Int) : Prop := ∃ (s : Bool) (v k : Nat), d = .number s (v * 2 ^ k) (-(k : Int)) ∧ n = if s then -(v : Int) else v
theorem DIs.num (s : Bool) (v k : Nat) : DIs (.number s (v * 2 ^ k) (-(k : Int))) (if s then -(v : Int) else v) := ⟨s, v, k, rfl, rfl⟩
theorem dsw : Ieee.double.signWeight = 9223372036854775808 := by decide +kernel
theorem dbi : Ieee.double.binade = 4503599627370496 := by decide +kernel
theorem din : Ieee.double.infRung = 9218868437227405312 := by decide +kernel
theorem dlp : Ieee.double.leastPlace = -1074 := by decide +kernel
theorem dfb : Ieee.double.fractionBits = 52 := rfl
theorem rung_mod {e m B : Nat} (h : m < B) : (e * B + (B + m)) % B = m ∧ (e * B + (B + m)) / B - 1 = e := by
  have e1 : e * B + (B + m) = m + (e + 1) * B := by rw [Nat.add_mul, Nat.one_mul]; omega
  rw [e1, Nat.add_mul_mod_self_right, Nat.mod_eq_of_lt h, Nat.add_mul_div_right _ _ (by omega), Nat.div_eq_of_lt h]
  exact ⟨rfl, by omega⟩
theorem read_word (s : Bool) (e m : Nat) (he : e < 2046) (hm : m < 4503599627370496) :
    Ieee.double.read (Ieee.double.word s (e * 4503599627370496 + (4503599627370496 + m))) = .number s (4503599627370496 + m) (-1074 + (e : Int)) := by
  have hw : Ieee.double.word s (e * 4503599627370496 + (4503599627370496 + m)) = (if s then 1 else 0) * 9223372036854775808 + (e * 4503599627370496 + (4503599627370496 + m)) := by
    unfold Format.word; rw [dsw]; cases s <;> simp
  unfold Format.read
  simp only [hw, dsw, dbi, din, dlp]
  obtain ⟨b, hb⟩ : ∃ b : Nat, b = if s then 1 else 0 := ⟨_, rfl⟩
  rw [← hb]
  have hb1 : b < 2 ∧ (b = 1 ↔ s = true) := by subst hb; cases s <;> simp
  clear hw hb
  have h1 : (b * 9223372036854775808 + (e * 4503599627370496 + (4503599627370496 + m))) % 9223372036854775808 = e * 4503599627370496 + (4503599627370496 + m) := by omega
  have h2 : ((b * 9223372036854775808 + (e * 4503599627370496 + (4503599627370496 + m))) / 9223372036854775808 % 2 == 1) = s := by
    have : (b * 9223372036854775808 + (e * 4503599627370496 + (4503599627370496 + m))) / 9223372036854775808 % 2 = b := by omega
    rw [this, Bool.eq_iff_iff, beq_iff_eq]; exact hb1.2
  rw [h1, h2, if_neg (by omega), if_pos (by omega)]
  obtain ⟨h3, h4⟩ := rung_mod (e := e) hm
  rw [h3, h4]
theorem read_zero (s : Bool) : Ieee.double.read (Ieee.double.word s 0) = .number s 0 (-1074) := by
  cases s <;> decide +kernel
/-- What is whole and below 2^53 is written as it is. -/
theorem nearest_read (s : Bool) (v k : Nat) (hv : v < 9007199254740992) : ∃ j : Nat, Ieee.double.read (Ieee.double.nearest s (v * 2 ^ k) (-(k : Int))) = .number s (v * 2 ^ j) (-(j : Int)) := by
  by_cases h0 : v = 0
  · subst h0
    obtain ⟨j, hj⟩ : ∃ j : Nat, -(j : Int) = -1074 := ⟨1074, rfl⟩
    refine ⟨j, ?_⟩
    rw [Nat.zero_mul, Nat.zero_mul, hj]
    exact read_zero s
  · have hL : v.log2 < 53 := (Nat.log2_lt h0).2 hv
    obtain ⟨d, hd⟩ : ∃ d, d = 52 - v.log2 := ⟨_, rfl⟩
    have hp : 0 < 2 ^ k := Nat.two_pow_pos k
    have hne : v * 2 ^ k ≠ 0 := Nat.mul_ne_zero h0 (Nat.ne_of_gt hp)
    have hlo : 4503599627370496 ≤ v * 2 ^ d := by
      have h1 : 2 ^ v.log2 * 2 ^ d ≤ v * 2 ^ d := Nat.mul_le_mul_right _ (Nat.log2_self_le h0)
      rw [← Nat.pow_add, show v.log2 + d = 52 by omega] at h1; exact h1
    have hhi : v * 2 ^ d < 9007199254740992 := by
      have h1 : v * 2 ^ d < 2 ^ (v.log2 + 1) * 2 ^ d := Nat.mul_lt_mul_of_pos_right Nat.lt_log2_self (Nat.two_pow_pos d)
      rw [← Nat.pow_add, show v.log2 + 1 + d = 53 by omega] at h1; exact h1
    refine ⟨d, ?_⟩
    have hlast : max (-(k : Int) + ((v * 2 ^ k).log2 : Nat) - (Ieee.double.fractionBits : Nat)) Ieee.double.leastPlace = -(d : Int) := by
      rw [log2_shift h0, dfb, dlp]; omega
    have hk : Toward.even.cut s ((v * 2 ^ k) <<< (-(k : Int) - -(d : Int)).toNat) (-(d : Int) - -(k : Int)).toNat = v * 2 ^ d := by
      rcases Nat.le_total k d with h | h
      · rw [show (-(d : Int) - -(k : Int)).toNat = 0 by omega, show (-(k : Int) - -(d : Int)).toNat = d - k by omega, Nat.shiftLeft_eq, Nat.mul_assoc, ← Nat.pow_add, show k + (d - k) = d by omega]
        have := cut_whole .even s (v * 2 ^ d) 0
        rwa [Nat.pow_zero, Nat.mul_one] at this
      · rw [show (-(d : Int) - -(k : Int)).toNat = k - d by omega, show (-(k : Int) - -(d : Int)).toNat = 0 by omega, Nat.shiftLeft_zero]
        have := cut_whole .even s (v * 2 ^ d) (k - d)
        rwa [Nat.mul_assoc, ← Nat.pow_add, show d + (k - d) = k by omega] at this
    unfold Format.nearest
    simp only [if_neg hne]
    rw [hlast, hk, dlp, dbi, din]
    obtain ⟨m, hm⟩ : ∃ m, v * 2 ^ d = 4503599627370496 + m := ⟨v * 2 ^ d - 4503599627370496, by omega⟩
    rw [hm, show (-(d : Int) - -1074).toNat = 1074 - d by omega, Nat.min_eq_left (by omega), read_word s (1074 - d) m (by omega) (by omega)]
    have : -1074 + ((1074 - d : Nat) : Int) = -(d : Int) := by omega
    rw [this]
theorem DIs.write {d : Datum} {n : Int} (h : DIs d n) (hn : n.natAbs < 9007199254740992) : DIs (Ieee.double.read (Ieee.double.write d)) n := by
  obtain ⟨s, v, k, rfl, rfl⟩ := h
  obtain ⟨j, hj⟩ := nearest_read s v k (by cases s <;> simpa using hn)
  exact ⟨s, v, j, hj, rfl⟩
theorem signed_whole (s : Bool) (v i k : Nat) (h : i ≤ k) : signed s (v * 2 ^ i) (k - i) = (if s then -(v : Int) else v) * ((2 ^ k : Nat) : Int) := by
  unfold signed
  rw [Nat.shiftLeft_eq, Nat.mul_assoc, ← Nat.pow_add, show i + (k - i) = k by omega]
  cases s <;> simp [Int.neg_mul]
theorem DIs.opposite {d : Datum} {n : Int} (h : DIs d n) : DIs d.opposite (-n) := by
  obtain ⟨s, v, k, rfl, rfl⟩ := h
  refine ⟨!s, v, k, rfl, ?_⟩
  cases s <;> simp
theorem DIs.sum {d e : Datum} {n m : Int} (h : DIs d n) (g : DIs e m) : ∃ x, d.sum e = some x ∧ DIs x (n + m) := by
  obtain ⟨s, v, i, rfl, hn⟩ := h
  obtain ⟨t, u, j, rfl, hm⟩ := g
  obtain ⟨k, hk⟩ : ∃ k, k = max i j := ⟨_, rfl⟩
  have hb : min (-(i : Int)) (-(j : Int)) = -(k : Int) := by omega
  have h1 : (-(i : Int) - -(k : Int)).toNat = k - i := by omega
  have h2 : (-(j : Int) - -(k : Int)).toNat = k - j := by omega
  have hp : (0 : Int) < ((2 ^ k : Nat) : Int) := by have := Nat.two_pow_pos k; omega
  have ht : signed s (v * 2 ^ i) (k - i) + signed t (u * 2 ^ j) (k - j) = (n + m) * ((2 ^ k : Nat) : Int) := by
    rw [signed_whole s v i k (by omega), signed_whole t u j k (by omega), ← hn, ← hm, Int.add_mul]
  refine ⟨_, rfl, ?_⟩
  simp only [hb, h1, h2, ht]
  refine ⟨if (n + m) * ((2 ^ k : Nat) : Int) = 0 then s && t else decide ((n + m) * ((2 ^ k : Nat) : Int) < 0), (n + m).natAbs, k, ?_, ?_⟩
  · rw [Int.natAbs_mul, Int.natAbs_natCast]
  · by_cases h0 : n + m = 0
    · rw [h0]; simp
    · have hne : (n + m) * ((2 ^ k : Nat) : Int) ≠ 0 := Int.mul_ne_zero h0 (by omega)
      rw [if_neg hne]
      by_cases hl : n + m < 0
      · have : (n + m) * ((2 ^ k : Nat) : Int) < 0 := Int.mul_neg_of_neg_of_pos hl hp
        rw [if_pos (by simpa using this)]; omega
      · have : ¬ (n + m) * ((2 ^ k : Nat) : Int) < 0 := Int.not_lt.2 (Int.mul_nonneg (by omega) (by omega))
        rw [if_neg (by simpa using this)]; omega
theorem DIs.product {d e : Datum} {n m : Int} (h : DIs d n) (g : DIs e m) : ∃ x, d.product e = some x ∧ DIs x (n * m) := by
  obtain ⟨s, v, i, rfl, rfl⟩ := h
  obtain ⟨t, u, j, rfl, rfl⟩ := g
  refine ⟨_, rfl, s ^^ t, v * u, i + j, ?_, ?_⟩
  · congr 1
    · rw [Nat.pow_add]; exact Nat.mul_mul_mul_comm ..
    · omega
  · cases s <;> cases t <;> simp [Int.neg_mul, Int.mul_neg]
theorem DIs.toInt {d : Datum} {n : Int} (h : DIs d n) : d.toInt .zero = some n := by
  obtain ⟨s, v, k, rfl, rfl⟩ := h
  have e : Toward.zero.cut s ((v * 2 ^ k) <<< (-(k : Int)).toNat) (- -(k : Int)).toNat = v := by
    rw [show (-(k : Int)).toNat = 0 by omega, show (- -(k : Int)).toNat = k by omega, Nat.shiftLeft_zero]
    exact cut_whole .zero s v k
  unfold Datum.toInt Datum.integral
  simp only [e]
  unfold signed
  rw [Nat.shiftLeft_zero]

/-! ### The bits -/
/-- A float stands for a whole number. -/
def Is (b : Nat) (n : Int) : Prop := DIs (Ieee.double.read b) n
theorem Is.ofInt {n : Int} (h : n.natAbs < 9007199254740992) : Is (floatOfInt .f64 n) n := by
  refine DIs.write (d := .number (n < 0) n.natAbs 0) ⟨decide (n < 0), n.natAbs, 0, by simp, ?_⟩ h
  by_cases h0 : n < 0
  · rw [if_pos (by simpa using h0)]; omega
  · rw [if_neg (by simpa using h0)]; omega
theorem Is.zero : Is 0 0 := by
  show DIs (Ieee.double.read 0) 0
  obtain ⟨j, hj⟩ : ∃ j : Nat, -(j : Int) = -1074 := ⟨1074, rfl⟩
  have : Ieee.double.read 0 = .number false (0 * 2 ^ j) (-(j : Int)) := by rw [Nat.zero_mul, hj]; decide +kernel
  rw [this]; exact DIs.num false 0 j
theorem Is.one : Is 4607182418800017408 1 := by
  show DIs (Ieee.double.read 4607182418800017408) 1
  have : Ieee.double.read 4607182418800017408 = .number false (1 * 2 ^ 52) (-((52 : Nat) : Int)) := by decide +kernel
  rw [this]; exact DIs.num false 1 52
theorem Is.toInt {b : Nat} {n : Int} (h : Is b n) (lo : -9007199254740992 < n) (hi : n < 9007199254740992) : floatToIntVal .f64 b .i64 = some n := by
  have e : (FloatKind.f64.decode b).toInt .zero = some n := DIs.toInt h
  unfold floatToIntVal
  rw [e]
  have h1 : IntKind.i64.min ≤ n := by show (-9223372036854775808 : Int) ≤ n; omega
  have h2 : n ≤ IntKind.i64.max := by show n ≤ (9223372036854775807 : Int); omega
  simp only [h1, h2, and_self, if_true]
theorem Is.add {x y : Nat} {n m : Int} (h : Is x n) (g : Is y m) (hb : (n + m).natAbs < 9007199254740992) : ∃ r, floatBits .add .f64 x y = some r ∧ Is r (n + m) := by
  obtain ⟨d, hd, hi⟩ := DIs.sum h g
  refine ⟨Ieee.double.write d, ?_, hi.write hb⟩
  show ((Ieee.double.read x).sum (Ieee.double.read y)).map Ieee.double.write = _
  rw [hd]; rfl
theorem Is.sub {x y : Nat} {n m : Int} (h : Is x n) (g : Is y m) (hb : (n - m).natAbs < 9007199254740992) : ∃ r, floatBits .sub .f64 x y = some r ∧ Is r (n - m) := by
  obtain ⟨d, hd, hi⟩ := DIs.sum h (DIs.opposite g)
  rw [← Int.sub_eq_add_neg] at hi
  refine ⟨Ieee.double.write d, ?_, hi.write hb⟩
  show ((Ieee.double.read x).sum (Ieee.double.read y).opposite).map Ieee.double.write = _
  rw [hd]; rfl
theorem Is.mul {x y : Nat} {n m : Int} (h : Is x n) (g : Is y m) (hb : (n * m).natAbs < 9007199254740992) : ∃ r, floatBits .mul .f64 x y = some r ∧ Is r (n * m) := by
  obtain ⟨d, hd, hi⟩ := DIs.product h g
  refine ⟨Ieee.double.write d, ?_, hi.write hb⟩
  show ((Ieee.double.read x).product (Ieee.double.read y)).map Ieee.double.write = _
  rw [hd]; rfl
/-- A product of complex numbers with whole parts. -/
theorem cmul {a b c d : Nat} {x y u v : Int} (ha : Is a x) (hb : Is b y) (hc : Is c u) (hd : Is d v) (h1 : (x * u).natAbs < 4503599627370496) (h2 : (y * v).natAbs < 4503599627370496)
    (h3 : (x * v).natAbs < 4503599627370496) (h4 : (y * u).natAbs < 4503599627370496) : ∃ re im, cMulBits a b c d = some (re, im) ∧ Is re (x * u - y * v) ∧ Is im (x * v + y * u) := by
  obtain ⟨r1, e1, i1⟩ := ha.mul hc (by omega)
  obtain ⟨r2, e2, i2⟩ := hb.mul hd (by omega)
  obtain ⟨r3, e3, i3⟩ := i1.sub i2 (by omega)
  obtain ⟨r4, e4, i4⟩ := ha.mul hd (by omega)
  obtain ⟨r5, e5, i5⟩ := hb.mul hc (by omega)
  obtain ⟨r6, e6, i6⟩ := i4.add i5 (by omega)
  refine ⟨r3, r6, ?_, i3, i6⟩
  unfold cMulBits
  simp only [e1, e2, e3, e4, e5, e6, Option.bind_some]
/-- A difference of complex numbers with whole parts. -/
theorem csub {a b c d : Nat} {x y u v : Int} (ha : Is a x) (hb : Is b y) (hc : Is c u) (hd : Is d v) (h1 : (x - u).natAbs < 9007199254740992) (h2 : (y - v).natAbs < 9007199254740992) :
    ∃ re im, cSumBits .sub .f64 a b c d = some (re, im) ∧ Is re (x - u) ∧ Is im (y - v) := by
  obtain ⟨r1, e1, i1⟩ := ha.sub hc h1
  obtain ⟨r2, e2, i2⟩ := hb.sub hd h2
  refine ⟨r1, r2, ?_, i1, i2⟩
  unfold cSumBits
  simp only [e1, e2, Option.bind_some]
end Go.Proofs.YtcdjincaedpodaaGreatDoor.Ov
/-
  The calls of package gauss that turn points about, into complex numbers and back: ifRight, toComplex, toSpot, mirror, norm, nearest.
-/
namespace Go.Proofs.YtcdjincaedpodaaGreatDoor.Ga
open Go.ChangeShapes Go.WideShapes Go.ChangeAt Go.RowKit Go.Proofs.YtcdjincaedpodaaGreatDoor.Ov

theorem if_yes (x y : Int) (w : World) (h : rb ⟨x, y⟩ = true) : Calls Tryz.prog 124 #[.agg #[.int .i64 x, .int .i64 y]] w fun e w' => e = .returned (.tuple #[.agg #[.int .i64 x, .int .i64 y], .int .i64 0]) ∧ Below w.heap.size w w' := by
  have HX := Lib.hid (right_any x y); rw [h] at HX; clear h
  go_enter Tryz.func124, Tryz.ntmps124
  go_wp2_with (fail)
  refine (HX.out _).mono ?_
  rintro e w1 ⟨rfl, hb⟩
  have HB := Lib.hid hb
  obtain ⟨hc, hf⟩ := bcell hb
  have hz : w.heap.size + 1 < w1.heap.size := by have := hb.size; simp at this; omega
  clear hb
  go_wp2_with (fail)
  refine bodyPost_ret (v := .tuple #[.agg #[.int .i64 x, .int .i64 y], .int .i64 0]) (by simp [results, Tryz.results124, go_sem, hc]) rfl ⟨rfl, ?_⟩
  exact ((Below.next (((Below.refl _ _).alloc (Nat.le_refl _) _).alloc (by simp) _) HB.out).setCell (by simp) _).setCell (by simp) _
theorem if_no (x y : Int) (w : World) (h : rb ⟨x, y⟩ = false) : Calls Tryz.prog 124 #[.agg #[.int .i64 x, .int .i64 y]] w fun e w' => e = .returned (.tuple #[.agg #[.int .i64 0, .int .i64 0], .int .i64 14]) ∧ Below w.heap.size w w' := by
  have HX := Lib.hid (right_any x y); rw [h] at HX; clear h
  go_enter Tryz.func124, Tryz.ntmps124
  go_wp2_with (fail)
  refine (HX.out _).mono ?_
  rintro e w1 ⟨rfl, hb⟩
  have HB := Lib.hid hb
  obtain ⟨hc, hf⟩ := bcell hb
  have hz : w.heap.size + 1 < w1.heap.size := by have := hb.size; simp at this; omega
  clear hb
  go_wp2_with (fail)
  refine bodyPost_ret (v := .tuple #[.agg #[.int .i64 0, .int .i64 0], .int .i64 14]) (by simp [results, Tryz.results124, go_sem, hc]) rfl ⟨rfl, ?_⟩
  exact ((Below.next (((Below.refl _ _).alloc (Nat.le_refl _) _).alloc (by simp) _) HB.out).setCell (by simp) _).setCell (by simp) _
theorem complex_any (x y : Int) (w : World) : Calls Tryz.prog 126 #[.agg #[.int .i64 x, .int .i64 y]] w fun e w' => e = .returned (.complex .f64 (floatOfInt .f64 x) (floatOfInt .f64 y)) ∧ Below w.heap.size w w' := by
  go_enter Tryz.func126, Tryz.ntmps126
  go_wp2_with (fail)
  go_ret
  exact ⟨rfl, (Below.refl _ _).alloc (Nat.le_refl _) _⟩
theorem spot_any {re im : Nat} {x y : Int} (hx : Is re x) (hy : Is im y) (bx : -9007199254740992 < x ∧ x < 9007199254740992) (by_ : -9007199254740992 < y ∧ y < 9007199254740992) (w : World) :
    Calls Tryz.prog 125 #[.complex .f64 re im] w fun e w' => e = .returned (.agg #[.int .i64 x, .int .i64 y]) ∧ Below w.heap.size w w' := by
  have r1 : ∀ w : World, (convert 155 3 (.float .f64 re)).run Tryz.prog w = .ok (.int .i64 x) w := fun w => run_convert_float_int w 155 3 .f64 .i64 re x (by rw [Tryz.underlying155]; rfl) Tryz.underlying3 (hx.toInt bx.1 bx.2)
  have r2 : ∀ w : World, (convert 155 3 (.float .f64 im)).run Tryz.prog w = .ok (.int .i64 y) w := fun w => run_convert_float_int w 155 3 .f64 .i64 im y (by rw [Tryz.underlying155]; rfl) Tryz.underlying3 (hy.toInt by_.1 by_.2)
  clear hx hy bx by_
  go_enter Tryz.func125, Tryz.ntmps125
  go_wp2_with (fail)
  refine bodyPost_ret (v := .agg #[.int .i64 x, .int .i64 y]) (by simp [results, Tryz.results125, go_sem]) rfl ⟨rfl, ?_⟩
  exact (Below.refl _ _).alloc (Nat.le_refl _) _
theorem mirror_any {x y : Int} (by_ : -16777216 ≤ y ∧ y ≤ 16777216) (w : World) : Calls Tryz.prog 135 #[.agg #[.int .i64 x, .int .i64 y]] w fun e w' => e = .returned (.agg #[.int .i64 x, .int .i64 (-y)]) ∧ Below w.heap.size w w' := by
  obtain ⟨h1, h2⟩ := by_
  go_enter Tryz.func135, Tryz.ntmps135
  go_wp2_with (fail)
  refine bodyPost_ret (v := .agg #[.int .i64 x, .int .i64 (-y)]) (by simp [results, Tryz.results135, go_sem]) rfl ⟨rfl, ?_⟩
  exact ((Below.refl _ _).alloc (Nat.le_refl _) _).alloc (by simp) _
theorem norm_any {x y : Int} (bx : -16777216 ≤ x ∧ x ≤ 16777216) (by_ : -16777216 ≤ y ∧ y ≤ 16777216) (w : World) : Calls Tryz.prog 134 #[.agg #[.int .i64 x, .int .i64 y]] w fun e w' => e = .returned (.int .i64 (x * x + y * y)) ∧ Below w.heap.size w w' := by
  obtain ⟨h1, h2⟩ := mul_big bx bx
  obtain ⟨h3, h4⟩ := mul_big by_ by_
  clear bx by_
  go_enter Tryz.func134, Tryz.ntmps134
  go_wp2_with (fail)
  go_ret
  exact ⟨rfl, (Below.refl _ _).alloc (Nat.le_refl _) _⟩
end Go.Proofs.YtcdjincaedpodaaGreatDoor.Ga
/-
  Sums and differences of points; norms, points turned about, which comes first.
-/
namespace Go.Proofs.YtcdjincaedpodaaGreatDoor.Ga
open Go.ChangeShapes Go.WideShapes Go.ChangeAt Go.RowKit Go.Proofs.YtcdjincaedpodaaGreatDoor.Ov

/-- A point and no error; or none and the error 'out of range'. -/
def ans (ok : Bool) (p : Pt) : Value := if ok then .tuple #[.agg #[.int .i64 p.x, .int .i64 p.y], .int .i64 0] else .tuple #[.agg #[.int .i64 0, .int .i64 0], .int .i64 14]
theorem ans_true (p : Pt) : ans true p = .tuple #[.agg #[.int .i64 p.x, .int .i64 p.y], .int .i64 0] := rfl
theorem ans_false (p : Pt) : ans false p = .tuple #[.agg #[.int .i64 0, .int .i64 0], .int .i64 14] := rfl
theorem if_any (x y : Int) (w : World) : Calls Tryz.prog 124 #[.agg #[.int .i64 x, .int .i64 y]] w (Gives (ans (rb ⟨x, y⟩) ⟨x, y⟩) w) := by
  cases h : rb ⟨x, y⟩
  · exact if_no x y w h
  · exact if_yes x y w h
set_option maxHeartbeats 1000000 in
theorem add_any (x y u v : Int) (w : World) : Calls Tryz.prog 82 #[.agg #[.int .i64 x, .int .i64 y], .agg #[.int .i64 u, .int .i64 v]] w (Gives (ans (rb ⟨x, y⟩ && rb ⟨u, v⟩ && rb (Pt.add ⟨x, y⟩ ⟨u, v⟩)) (Pt.add ⟨x, y⟩ ⟨u, v⟩)) w) := by
  have HR := Lib.hid (both_any x y u v)
  by_cases hr : (rb ⟨x, y⟩ && rb ⟨u, v⟩) = true
  · have h12 := hr; rw [Bool.and_eq_true] at h12
    obtain ⟨⟨x1, x2⟩, y1, y2⟩ := rb_yes h12.1
    obtain ⟨⟨u1, u2⟩, v1, v2⟩ := rb_yes h12.2
    simp only at x1 x2 y1 y2 u1 u2 v1 v2
    rw [hr] at HR ⊢
    clear h12 hr
    rw [Bool.true_and]
    have HI := Lib.hid (if_any (x + u) (y + v))
    have HE : Hid (Pt.add ⟨x, y⟩ ⟨u, v⟩ = ⟨x + u, y + v⟩) := rfl
    rw [HE.out]; clear HE
    cases hk : rb ⟨x + u, y + v⟩
    all_goals
      rw [hk] at HI
      clear hk
      first | rw [ans_true] at HI ⊢ | rw [ans_false] at HI ⊢
      go_enter Tryz.func82, Tryz.ntmps82
      go_wp2_with (fail)
      refine (HR.out _).mono ?_
      rintro e w1 ⟨rfl, hb⟩
      have HB := Lib.hid hb
      obtain ⟨hc, hf⟩ := bcell hb
      have hz : w.heap.size + 2 < w1.heap.size := by have := hb.size; simp at this; omega
      clear hb
      go_wp2_with (fail)
      refine (HI.out _).mono ?_
      rintro e w2 ⟨rfl, hb⟩
      have HB2 := Lib.hid (Below.next (Below.next (below3 w _ _ _) HB.out) hb)
      have hz2 : w.heap.size + 2 < w2.heap.size := by have := hb.size; omega
      have hf2 : w2.frozen? ⟨w.heap.size + 2, 0, none⟩ = w1.frozen? ⟨w.heap.size + 2, 0, none⟩ := hb.frozen (p := ⟨w.heap.size + 2, 0, none⟩) hz
      have hf3 : w2.frozen? ⟨w.heap.size + 2, 1, none⟩ = w1.frozen? ⟨w.heap.size + 2, 1, none⟩ := hb.frozen (p := ⟨w.heap.size + 2, 1, none⟩) hz
      have hc2 : w2.cell? ⟨w.heap.size + 2, 0, none⟩ = w1.cell? ⟨w.heap.size + 2, 0, none⟩ := hb.cell (p := ⟨w.heap.size + 2, 0, none⟩) hz
      have hc3 : w2.cell? ⟨w.heap.size + 2, 1, none⟩ = w1.cell? ⟨w.heap.size + 2, 1, none⟩ := hb.cell (p := ⟨w.heap.size + 2, 1, none⟩) hz
      clear hb
      go_wp2_with (fail)
      refine bodyPost_ret (v := _) (by simp [results, Tryz.results82, go_sem, hc2, hc3, hc]) rfl ⟨rfl, ?_⟩
      exact (HB2.out.setCell (by first | (simp; done) | (simp; omega)) _).setCell (by first | (simp; done) | (simp; omega)) _
  · have hr2 : (rb ⟨x, y⟩ && rb ⟨u, v⟩) = false := by simpa using hr
    rw [hr2] at HR ⊢
    clear hr hr2
    rw [Bool.false_and, ans_false]
    go_enter Tryz.func82, Tryz.ntmps82
    go_wp2_with (fail)
    refine (HR.out _).mono ?_
    rintro e w1 ⟨rfl, hb⟩
    have HB := Lib.hid hb
    obtain ⟨hc, hf⟩ := bcell hb
    have hz : w.heap.size + 2 < w1.heap.size := by have := hb.size; simp at this; omega
    clear hb
    go_wp2_with (fail)
    refine bodyPost_ret (v := .tuple #[.agg #[.int .i64 0, .int .i64 0], .int .i64 14]) (by simp [results, Tryz.results82, go_sem, hc]) rfl ⟨rfl, ?_⟩
    exact ((Below.next (below3 w _ _ _) HB.out).setCell (by first | (simp; done) | (simp; omega)) _).setCell (by first | (simp; done) | (simp; omega)) _
set_option maxHeartbeats 1000000 in
theorem sub_any (x y u v : Int) (w : World) : Calls Tryz.prog 84 #[.agg #[.int .i64 x, .int .i64 y], .agg #[.int .i64 u, .int .i64 v]] w (Gives (ans (rb ⟨x, y⟩ && rb ⟨u, v⟩ && rb (Pt.sub ⟨x, y⟩ ⟨u, v⟩)) (Pt.sub ⟨x, y⟩ ⟨u, v⟩)) w) := by
  have HR := Lib.hid (both_any x y u v)
  by_cases hr : (rb ⟨x, y⟩ && rb ⟨u, v⟩) = true
  · have h12 := hr; rw [Bool.and_eq_true] at h12
    obtain ⟨⟨x1, x2⟩, y1, y2⟩ := rb_yes h12.1
    obtain ⟨⟨u1, u2⟩, v1, v2⟩ := rb_yes h12.2
    simp only at x1 x2 y1 y2 u1 u2 v1 v2
    rw [hr] at HR ⊢
    clear h12 hr
    rw [Bool.true_and]
    have HI := Lib.hid (if_any (x - u) (y - v))
    have HE : Hid (Pt.sub ⟨x, y⟩ ⟨u, v⟩ = ⟨x - u, y - v⟩) := rfl
    rw [HE.out]; clear HE
    cases hk : rb ⟨x - u, y - v⟩
    all_goals
      rw [hk] at HI
      clear hk
      first | rw [ans_true] at HI ⊢ | rw [ans_false] at HI ⊢
      go_enter Tryz.func84, Tryz.ntmps84
      go_wp2_with (fail)
      refine (HR.out _).mono ?_
      rintro e w1 ⟨rfl, hb⟩
      have HB := Lib.hid hb
      obtain ⟨hc, hf⟩ := bcell hb
      have hz : w.heap.size + 2 < w1.heap.size := by have := hb.size; simp at this; omega
      clear hb
      go_wp2_with (fail)
      refine (HI.out _).mono ?_
      rintro e w2 ⟨rfl, hb⟩
      have HB2 := Lib.hid (Below.next (Below.next (below3 w _ _ _) HB.out) hb)
      have hz2 : w.heap.size + 2 < w2.heap.size := by have := hb.size; omega
      have hf2 : w2.frozen? ⟨w.heap.size + 2, 0, none⟩ = w1.frozen? ⟨w.heap.size + 2, 0, none⟩ := hb.frozen (p := ⟨w.heap.size + 2, 0, none⟩) hz
      have hf3 : w2.frozen? ⟨w.heap.size + 2, 1, none⟩ = w1.frozen? ⟨w.heap.size + 2, 1, none⟩ := hb.frozen (p := ⟨w.heap.size + 2, 1, none⟩) hz
      have hc2 : w2.cell? ⟨w.heap.size + 2, 0, none⟩ = w1.cell? ⟨w.heap.size + 2, 0, none⟩ := hb.cell (p := ⟨w.heap.size + 2, 0, none⟩) hz
      have hc3 : w2.cell? ⟨w.heap.size + 2, 1, none⟩ = w1.cell? ⟨w.heap.size + 2, 1, none⟩ := hb.cell (p := ⟨w.heap.size + 2, 1, none⟩) hz
      clear hb
      go_wp2_with (fail)
      refine bodyPost_ret (v := _) (by simp [results, Tryz.results84, go_sem, hc2, hc3, hc]) rfl ⟨rfl, ?_⟩
      exact (HB2.out.setCell (by first | (simp; done) | (simp; omega)) _).setCell (by first | (simp; done) | (simp; omega)) _
  · have hr2 : (rb ⟨x, y⟩ && rb ⟨u, v⟩) = false := by simpa using hr
    rw [hr2] at HR ⊢
    clear hr hr2
    rw [Bool.false_and, ans_false]
    go_enter Tryz.func84, Tryz.ntmps84
    go_wp2_with (fail)
    refine (HR.out _).mono ?_
    rintro e w1 ⟨rfl, hb⟩
    have HB := Lib.hid hb
    obtain ⟨hc, hf⟩ := bcell hb
    have hz : w.heap.size + 2 < w1.heap.size := by have := hb.size; simp at this; omega
    clear hb
    go_wp2_with (fail)
    refine bodyPost_ret (v := .tuple #[.agg #[.int .i64 0, .int .i64 0], .int .i64 14]) (by simp [results, Tryz.results84, go_sem, hc]) rfl ⟨rfl, ?_⟩
    exact ((Below.next (below3 w _ _ _) HB.out).setCell (by first | (simp; done) | (simp; omega)) _).setCell (by first | (simp; done) | (simp; omega)) _
end Go.Proofs.YtcdjincaedpodaaGreatDoor.Ga
/-
  Products of points.
-/
namespace Go.Proofs.YtcdjincaedpodaaGreatDoor.Ga
open Go.ChangeShapes Go.WideShapes Go.ChangeAt Go.RowKit Go.Proofs.YtcdjincaedpodaaGreatDoor.Ov

theorem natAbs_big {n : Int} (h : -281474976710656 ≤ n ∧ n ≤ 281474976710656) : n.natAbs < 4503599627370496 := by omega
/-- The product of two points as complex numbers: what the language makes of it. -/
theorem run_cmul {x y u v : Int} (hx : -16777216 ≤ x ∧ x ≤ 16777216) (hy : -16777216 ≤ y ∧ y ≤ 16777216) (hu : -16777216 ≤ u ∧ u ≤ 16777216) (hv : -16777216 ≤ v ∧ v ≤ 16777216) :
    ∃ re im, (∀ w : World, (binOp .mul 132 (.complex .f64 (floatOfInt .f64 x) (floatOfInt .f64 y)) (.complex .f64 (floatOfInt .f64 u) (floatOfInt .f64 v))).run Tryz.prog w = .ok (.complex .f64 re im) w) ∧
      Is re (x * u - y * v) ∧ Is im (x * v + y * u) := by
  obtain ⟨re, im, h, h1, h2⟩ := cmul (Is.ofInt (n := x) (by omega)) (Is.ofInt (n := y) (by omega)) (Is.ofInt (n := u) (by omega)) (Is.ofInt (n := v) (by omega))
    (natAbs_big (mul_big hx hu)) (natAbs_big (mul_big hy hv)) (natAbs_big (mul_big hx hv)) (natAbs_big (mul_big hy hu))
  exact ⟨re, im, fun w => run_complex_mul w _ _ _ _ _ _ _ h, h1, h2⟩
set_option maxHeartbeats 1000000 in
theorem mul_any (x y u v : Int) (w : World) : Calls Tryz.prog 86 #[.agg #[.int .i64 x, .int .i64 y], .agg #[.int .i64 u, .int .i64 v]] w (Gives (ans (rb ⟨x, y⟩ && rb ⟨u, v⟩ && rb (Pt.mul ⟨x, y⟩ ⟨u, v⟩)) (Pt.mul ⟨x, y⟩ ⟨u, v⟩)) w) := by
  have HR := Lib.hid (both_any x y u v)
  by_cases hr : (rb ⟨x, y⟩ && rb ⟨u, v⟩) = true
  · have h12 := hr; rw [Bool.and_eq_true] at h12
    obtain ⟨hx, hy⟩ := rb_yes h12.1
    obtain ⟨hu, hv⟩ := rb_yes h12.2
    obtain ⟨re, im, hm, i1, i2⟩ := run_cmul hx hy hu hv
    have m1 := mul_big hx hu; have m2 := mul_big hy hv; have m3 := mul_big hx hv; have m4 := mul_big hy hu
    have HS := Lib.hid (spot_any i1 i2 (by omega) (by omega))
    rw [hr] at HR ⊢
    clear h12 hr hx hy hu hv i1 i2 m1 m2 m3 m4
    rw [Bool.true_and]
    have HI := Lib.hid (if_any (x * u - y * v) (x * v + y * u))
    have HE : Hid (Pt.mul ⟨x, y⟩ ⟨u, v⟩ = ⟨x * u - y * v, x * v + y * u⟩) := rfl
    rw [HE.out]; clear HE
    generalize x * u - y * v = p at *
    generalize x * v + y * u = q at *
    have HC := Lib.hid (complex_any x y)
    have HD := Lib.hid (complex_any u v)
    generalize floatOfInt .f64 x = fx at *
    generalize floatOfInt .f64 y = fy at *
    generalize floatOfInt .f64 u = fu at *
    generalize floatOfInt .f64 v = fv at *
    cases hk : rb ⟨p, q⟩
    all_goals
      rw [hk] at HI
      clear hk
      first | rw [ans_true] at HI ⊢ | rw [ans_false] at HI ⊢
      go_enter Tryz.func86, Tryz.ntmps86
      go_wp2_with (fail)
      refine (HR.out _).mono ?_
      rintro e w1 ⟨rfl, hb⟩
      have HB := Lib.hid (Below.next (below3 w _ _ _) hb)
      obtain ⟨hc, hf⟩ := bcell hb
      have hz : w.heap.size + 2 < w1.heap.size := by have := hb.size; simp at this; omega
      clear hb
      go_wp2_with (fail)
      have k1 : ∀ r : Over w1, r.val.cell? ⟨w.heap.size, 0, none⟩ = some (.int .i64 x) := fun r => over_cell r (by rw [hc _ _ (by simp; omega)]; simp [go_sem])
      have k2 : ∀ r : Over w1, r.val.cell? ⟨w.heap.size, 1, none⟩ = some (.int .i64 y) := fun r => over_cell r (by rw [hc _ _ (by simp; omega)]; simp [go_sem])
      have k3 : ∀ r : Over w1, r.val.cell? ⟨w.heap.size + 1, 0, none⟩ = some (.int .i64 u) := fun r => over_cell r (by rw [hc _ _ (by simp)]; simp [go_sem])
      have k4 : ∀ r : Over w1, r.val.cell? ⟨w.heap.size + 1, 1, none⟩ = some (.int .i64 v) := fun r => over_cell r (by rw [hc _ _ (by simp)]; simp [go_sem])
      refine wp_over_tail 9 (by kernel_rfl) (by kernel_rfl) ?_
      simp only [List.take_succ_cons, List.take_zero, List.drop_succ_cons, List.drop_zero]
      repeat (go_big_quiet_step (first
        | with_reducible exact over_make _ (HC.out _)
        | with_reducible exact over_make _ (HD.out _)
        | with_reducible exact over_make _ (HS.out _)
        | with_reducible exact over_gives _ (HI.out _)))
      refine wpQuiet_nil ?_
      rintro w2 ⟨⟨w2, hb⟩, rfl⟩
      have HB2 := Lib.hid (Below.next HB.out hb)
      have hz2 : w.heap.size + 2 < w2.heap.size := by have := hb.size; omega
      have hf2 : w2.frozen? ⟨w.heap.size + 2, 0, none⟩ = w1.frozen? ⟨w.heap.size + 2, 0, none⟩ := hb.frozen (p := ⟨w.heap.size + 2, 0, none⟩) hz
      have hf3 : w2.frozen? ⟨w.heap.size + 2, 1, none⟩ = w1.frozen? ⟨w.heap.size + 2, 1, none⟩ := hb.frozen (p := ⟨w.heap.size + 2, 1, none⟩) hz
      have hc2 : w2.cell? ⟨w.heap.size + 2, 0, none⟩ = w1.cell? ⟨w.heap.size + 2, 0, none⟩ := hb.cell (p := ⟨w.heap.size + 2, 0, none⟩) hz
      have hc3 : w2.cell? ⟨w.heap.size + 2, 1, none⟩ = w1.cell? ⟨w.heap.size + 2, 1, none⟩ := hb.cell (p := ⟨w.heap.size + 2, 1, none⟩) hz
      clear hb k1 k2 k3 k4
      go_wp2_with (fail)
      refine bodyPost_ret (v := _) (by simp [results, Tryz.results86, go_sem, hc2, hc3, hc]) rfl ⟨rfl, ?_⟩
      exact (HB2.out.setCell (by first | (simp; done) | (simp; omega)) _).setCell (by first | (simp; done) | (simp; omega)) _
  · have hr2 : (rb ⟨x, y⟩ && rb ⟨u, v⟩) = false := by simpa using hr
    rw [hr2] at HR ⊢
    clear hr hr2
    rw [Bool.false_and, ans_false]
    go_enter Tryz.func86, Tryz.ntmps86
    go_wp2_with (fail)
    refine (HR.out _).mono ?_
    rintro e w1 ⟨rfl, hb⟩
    have HB := Lib.hid hb
    obtain ⟨hc, hf⟩ := bcell hb
    have hz : w.heap.size + 2 < w1.heap.size := by have := hb.size; simp at this; omega
    clear hb
    go_wp2_with (fail)
    refine bodyPost_ret (v := .tuple #[.agg #[.int .i64 0, .int .i64 0], .int .i64 14]) (by simp [results, Tryz.results86, go_sem, hc]) rfl ⟨rfl, ?_⟩
    exact ((Below.next (below3 w _ _ _) HB.out).setCell (by first | (simp; done) | (simp; omega)) _).setCell (by first | (simp; done) | (simp; omega)) _
end Go.Proofs.YtcdjincaedpodaaGreatDoor.Ga
/-
  The whole number nearest to a quotient, as the package and as the document reckon it.
-/
namespace Go.Proofs.YtcdjincaedpodaaGreatDoor.Ga
open Go.ChangeShapes Go.WideShapes Go.ChangeAt Go.RowKit Go.Proofs.YtcdjincaedpodaaGreatDoor.Ov

/-- Cut towards zero, against cut downwards. -/
theorem cut_cases (t d : Int) (hd : 0 < d) : (0 ≤ t.tmod d ∧ t.tdiv d = t / d ∧ t.tdiv d * d ≤ t) ∨ (t.tmod d < 0 ∧ t.tdiv d - 1 = t / d ∧ t < t.tdiv d * d) := by
  have h1 := Int.mul_tdiv_add_tmod t d
  have h2 := Int.tmod_lt_of_pos t hd
  have h3 : -d < t.tmod d := by
    have := Int.lt_tmod_of_pos t hd; omega
  generalize t.tdiv d = q at *
  generalize t.tmod d = r at *
  rw [Int.mul_comm] at h1
  by_cases hr : 0 ≤ r
  · refine .inl ⟨hr, ?_, by omega⟩
    rw [← h1, show q * d + r = r + q * d by omega, Int.add_mul_ediv_right _ _ (by omega), Int.ediv_eq_zero_of_lt hr h2]; omega
  · refine .inr ⟨by omega, ?_, by omega⟩
    rw [← h1, show q * d + r = (r + d) + (q - 1) * d by rw [Int.sub_mul]; omega, Int.add_mul_ediv_right _ _ (by omega), Int.ediv_eq_zero_of_lt (by omega) (by omega)]; omega
theorem tdiv_le (t d M : Int) (h1 : -M ≤ t) (h2 : t ≤ M) (hM : 0 ≤ M) : -M ≤ t.tdiv d ∧ t.tdiv d ≤ M := by
  have h : (t.tdiv d).natAbs ≤ t.natAbs := by rw [Int.natAbs_tdiv]; exact Nat.div_le_self _ _
  omega
set_option maxHeartbeats 1000000 in
theorem nearest_any {n d : Int} (h1 : -1125899906842624 ≤ n) (h2 : n ≤ 1125899906842624) (h3 : 0 < d) (h4 : d ≤ 1125899906842624) (w : World) :
    Calls Tryz.prog 162 #[.int .i64 n, .int .i64 d] w fun e w' => e = .returned (.int .i64 (near n d)) ∧ w = w' := by
  obtain ⟨t1, t2⟩ := tdiv_le (2 * n + d) (2 * d) 4503599627370496 (by omega) (by omega) (by omega)
  have hn : near n d = (2 * n + d) / (2 * d) := rfl
  rcases cut_cases (2 * n + d) (2 * d) (by omega) with ⟨c1, c2, _⟩ | ⟨c1, c2, _⟩
  · have HE := Lib.hid (hn.trans c2.symm); clear hn c2
    go_enter Tryz.func162, Tryz.ntmps162
    go_wp2_with (fail)
    go_ret
    exact ⟨ret_int (by rw [HE.out]), rfl⟩
  · have HE := Lib.hid (hn.trans c2.symm); clear hn c2
    go_enter Tryz.func162, Tryz.ntmps162
    go_wp2_with (fail)
    go_ret
    exact ⟨ret_int (by rw [HE.out]), rfl⟩
end Go.Proofs.YtcdjincaedpodaaGreatDoor.Ga
/-
  Of any seat: a region that draws its order, whose head makes ONE block of the call's own (an allocation, behind all others in the text) beside operations that yield one value in every world over the first one: walked once, the block's number left open.
-/
namespace Go.Proofs.YtcdjincaedpodaaGreatDoor.Ov
open Go.ChangeShapes Go.WideShapes Go.ChangeAt Go.RowKit

/-- The class of the worlds over w. -/
abbrev Ovs (w : World) : World → Prop := fun y => ∃ q : Over w, y = q.val
theorem Ovs.self (w : World) : Ovs w w := ⟨⟨w, Below.refl _ _⟩, rfl⟩
/-- A world over w in which block b, one of the call's own, holds what O is. -/
def Holds (w : World) (O : Obj) (b : Nat) (y : World) : Prop := Below w.heap.size w y ∧ w.heap.size ≤ b ∧ y.heap[b]? = some O
theorem Holds.over {w : World} {O : Obj} {b : Nat} {y : World} (h : Holds w O b y) : Ovs w y := ⟨⟨y, h.1⟩, rfl⟩
theorem Holds.keep {w : World} {O : Obj} {b : Nat} {y z : World} (h : Holds w O b y) (g : Ovs y z) : Holds w O b z := by
  obtain ⟨⟨z', hz⟩, rfl⟩ := g
  have hb : b < y.heap.size := by
    rcases Nat.lt_or_ge b y.heap.size with q | q
    · exact q
    · have h1 := h.2.2; rw [Array.getElem?_eq_none q] at h1; cases h1
  exact ⟨Below.next h.1 hz, h.2.1, (hz.block b hb).trans h.2.2⟩
theorem Holds.cell {w : World} {cs : Array Value} {t : TypeId} {fz : Nat × Nat} {b : Nat} {y : World} (h : Holds w (.cells cs t fz) b y) (o : Nat) : y.cell? ⟨b, o, none⟩ = cs[o]? := by
  unfold World.cell?; rw [h.2.2]; rfl
theorem Holds.frozen {w : World} {cs : Array Value} {t : TypeId} {b : Nat} {y : World} (h : Holds w (.cells cs t (0, 0)) b y) (o : Nat) : y.frozen? ⟨b, o, none⟩ = false := by
  unfold World.frozen?; rw [h.2.2]; simp

section
variable {P : Program} {ops : Array Oper} {md : Region.Mode} {w : World}

theorem quietAt_mono {o : Oper} {a : Act} {C C' : World → Prop} {x : World} {v : Value} (h : ∀ y, C y → C' y) (hq : o.quietAt P a C x v) : o.quietAt P a C' x v := by
  unfold Oper.quietAt at *
  generalize (execOp a.eval o).run P x = r at *
  cases r with
  | ok n y =>
    cases n <;> simp only [Oper.quietUpon] at hq ⊢ <;> first | exact hq | exact ⟨hq.1, hq.2.mono fun e z hz => ⟨hz.1, h z hz.2⟩⟩
  | halt e y => exact hq

/-- One value, in whatever world over w; and what is there then is kept. -/
def Steady (P : Program) (ops : Array Oper) (w : World) (o : Oper) (v : Value) (a : Act) : Prop := ∀ x : Over w, YieldsIn P ops (Ovs x.val) o v a
theorem Steady.yields {o : Oper} {v : Value} {a : Act} {C : World → Prop} (h : Steady P ops w o v a) (hC : ∀ y, C y → Ovs w y) (hk : ∀ y z, C y → Ovs y z → C z) : YieldsIn P ops C o v a := by
  rcases h ⟨w, Below.refl _ _⟩ with ⟨hw, _⟩ | hn
  · refine .inl ⟨hw, fun y hy => ?_⟩
    obtain ⟨q, rfl⟩ := hC y hy
    rcases h q with ⟨_, hv⟩ | ⟨hn, _⟩
    · exact quietAt_mono (fun z hz => hk _ z hy hz) (hv q.val (Ovs.self _))
    · rw [hw] at hn; cases hn
  · exact .inr hn
theorem Steady.of_same {o : Oper} {v : Value} {a a' : Act} (h : Steady P ops w o v a) (he : execOp a'.eval o = execOp a.eval o)
    (hw : Region.wanted o (yielded ops a'.tmps) = Region.wanted o (yielded ops a.tmps)) : Steady P ops w o v a' := fun x => (h x).of_same he hw

/-- The heads while the block is still to be made: it is number k, and is put into slot d. -/
def HeadsA (P : Program) (md : Region.Mode) (ops : Array Oper) (w : World) (O : Obj) (d : Tmp) (n k : Nat) (L : Nat → Array Bool → Act → Prop) : Nat → Array Bool → Act → Prop
  | 0, _, _ => False
  | f + 1, listed, a => Region.ready md ops listed ≠ [] ∧ ∀ i ∈ Region.ready md ops listed, i < n ∧
      ((i = k → ∀ b, Heads P md ops (Holds w O b) n (L b) f (listed.setIfInBounds k true) (a.put (some d) (.pointer (some ⟨b, 0, none⟩)))) ∧
       (i ≠ k → ∃ o v, ops[i]? = some o ∧ Steady P ops w o v a ∧ HeadsA P md ops w O d n k L f (listed.setIfInBounds i true) (a.put o.dst v)))

theorem HeadsA.any {n k g : Nat} {O : Obj} {d : Tmp} {ok : Oper} {L : Nat → Array Bool → Act → Prop} {Q' : Exit → Act → World → Prop} (hk : ops[k]? = some ok) (hd : ok.dst = some d) (hg : ok.guard = none)
    (hal : ∀ ρ x, (execOp ρ ok).run P x = .ok (.value (.pointer (some ⟨x.heap.size, 0, none⟩))) (x.alloc O))
    (hL : ∀ b listed a x, Holds w O b x → L b listed a → wpAny P md ops Q' g listed a x) :
    ∀ (f : Nat) (listed : Array Bool) (a : Act) (x : World), Ovs w x → HeadsA P md ops w O d n k L f listed a → wpAny P md ops Q' (f + g) listed a x
  | 0, _, _, _, _, h => h.elim
  | f + 1, listed, a, x, hx, h => by
    rw [show f + 1 + g = (f + g) + 1 by omega]
    refine ⟨fun h0 => absurd h0 h.1, fun i hi => ?_⟩
    rcases Nat.decEq i k with e | rfl
    · obtain ⟨o, v, ho, hs, hn⟩ := (h.2 i hi).2.2 e
      exact wpOp_of_qOp (C := Ovs w) hx (fun a' x' hx' h' => HeadsA.any hk hd hg hal hL f _ a' x' hx' h')
        ((hs.yields (fun _ h => h) (fun y z hy hz => by
          obtain ⟨q, rfl⟩ := hy; obtain ⟨r, rfl⟩ := hz; exact ⟨⟨r.val, Below.next q.property r.property⟩, rfl⟩)).qOp ho hn)
    · have h1 := (h.2 i hi).2.1 rfl
      unfold wpOp
      simp only [hk]
      have hw : Region.wanted ok (yielded ops a.tmps) = true := by unfold Region.wanted; rw [hg]
      rw [if_pos hw]
      refine .inl ?_
      unfold Oper.wp
      rw [hal, Oper.upon_value, hd]
      obtain ⟨q, rfl⟩ := hx
      have hsz := q.property.size
      refine Heads.any (fun listed a x hx hl => hL _ listed a x hx hl) f _ _ _ ?_ (h1 q.val.heap.size)
      refine ⟨Below.alloc q.property hsz O, hsz, ?_⟩
      show (q.val.heap.push O)[q.val.heap.size]? = some O
      rw [Array.getElem?_push_size]

theorem HeadsA.first {n k i : Nat} {oi ok : Oper} {v : Value} {O : Obj} {d : Tmp} {L : Nat → Array Bool → Act → Prop} (hi : ops[i]? = some oi) (hk : ops[k]? = some ok) (hd : ok.dst = some d) (hik : i ≠ k)
    (hsel : ∀ (j : Nat) (o : Oper) cs b, ops[j]? = some o → o.op ≠ .select cs b)
    (hs : Region.sinkB md ops n = true) (hc : Region.chainB md ops n = true) (hn : n < ops.size) (hin : i < n) (hdone : ∀ b listed a, L b listed a → ∀ j ∈ Region.ready md ops listed, n ≤ j) (f : Nat) :
    ∀ (listed : Array Bool) (a : Act), HeadInv md ops n listed →
      (∀ j oj, ops[j]? = some oj → j ≠ i → listed.getD j true = false → (∀ e ∈ oj.after, Region.binds md e = true → e.on ≠ i) → oi.apart ops oj = true) →
      i ∈ Region.ready md ops listed → Steady P ops w oi v a →
      HeadsA P md ops w O d n k L f (listed.setIfInBounds i true) (a.put oi.dst v) → HeadsA P md ops w O d n k L (f + 1) listed a := by
  induction f with
  | zero => intro listed a _ _ _ _ H; exact H.elim
  | succ f ih =>
    intro listed a inv hfree hr hy H
    have hun := (mem_ready.1 hr).1
    refine ⟨List.ne_nil_of_mem hr, fun j hj => ?_⟩
    have hjn : j < n := Nat.lt_of_not_le fun h => tail_waits hs hc hn inv _ i rfl hin hun j h hj
    refine ⟨hjn, ?_⟩
    rcases Nat.decEq j i with e | rfl
    · obtain ⟨hjun, oj, hoj, hall⟩ := mem_ready.1 hj
      have hnot : ∀ e ∈ oj.after, Region.binds md e = true → e.on ≠ i := by
        intro d hd hb he
        have h1 := hall d hd hb
        rw [he, getD_both hun] at h1
        cases h1
      obtain ⟨g1, g2, g3⟩ := Oper.apart_spec (hfree j oj hoj e hjun hnot)
      have hfree' : ∀ k ok, ops[k]? = some ok → k ≠ i → (listed.setIfInBounds j true).getD k true = false →
          (∀ e ∈ ok.after, Region.binds md e = true → e.on ≠ i) → oi.apart ops ok = true := by
        intro k ok hk hki hku hno
        refine hfree k ok hk hki ?_ hno
        rcases Nat.decEq j k with d | rfl
        · rwa [getD_set_ne true d] at hku
        · exact hjun
      have keep : ∀ u, Steady P ops w oi v (a.put oj.dst u) := fun u => hy.of_same (execOp_put oi (fun cs b => hsel i oi cs b hi) a oj.dst u g3) (wanted_put oi a oj.dst u g3)
      have Hj := (H.2 j (ready_mono hj e)).2
      refine ⟨fun hjk => ?_, fun hjk => ?_⟩
      · subst hjk
        obtain rfl : oj = ok := Option.some.inj (hoj.symm.trans hk)
        intro b
        have h1 := Hj.1 rfl b
        refine Heads.first hi hsel hs hc hn hin (hdone b) f _ _ (inv.set hj hjn) hfree' (ready_mono hr (Ne.symm e)) (v := v) ?_ ?_
        · rw [← hd]
          exact (keep _).yields (fun _ h => h.over) (fun _ _ h g => h.keep g)
        · rw [Array.setIfInBounds_comm _ _ e, ← hd, ← Act.put_comm a v _ g2, hd]; exact h1
      · obtain ⟨oj', u, hoj', hyj, h1⟩ := Hj.2 hjk
        obtain rfl : oj = oj' := Option.some.inj (hoj.symm.trans hoj')
        refine ⟨oj, u, hoj, hyj.of_same (execOp_put oj (fun cs b => hsel j oj cs b hoj) a oi.dst v g1).symm (wanted_put oj a oi.dst v g1).symm, ?_⟩
        refine ih (listed.setIfInBounds j true) _ (inv.set hj hjn) hfree' (ready_mono hr (Ne.symm e)) (keep u) ?_
        rw [Array.setIfInBounds_comm _ _ e, ← Act.put_comm a v u g2]; exact h1
    · exact ⟨fun h => absurd h hik, fun _ => ⟨oi, v, hi, hy, H⟩⟩

/-- Each operation leaves its value in a slot of its own. -/
def ownSlots (sz : Nat) : List Oper → Bool
  | [] => true
  | o :: l => (match o.dst with | some s => decide (s < sz) && l.all fun p => p.dst != some s | none => false) && ownSlots sz l
theorem put_size (a : Act) (d : Option Tmp) (v : Value) : (a.put d v).tmps.size = a.tmps.size := by cases d <;> simp [Act.put]
theorem kept_slot {C : World → Prop} {aE : Act} {s : Nat} : ∀ (l : List Oper) (a : Act), (l.all fun p => p.dst != some s) = true → wpQuiet P ops C (fun a' => a' = aE) l a → aE.tmps[s]? = a.tmps[s]?
  | [], a, _, h => by rw [show a = aE from h]
  | o :: l, a, hl, h => by
    rw [List.all_cons, Bool.and_eq_true] at hl
    have hne : ∀ u, (a.put o.dst u).tmps[s]? = a.tmps[s]? := fun u => by
      have h1 := hl.1
      cases hd : o.dst with
      | none => rfl
      | some d =>
        rw [hd] at h1
        have : d ≠ s := fun e => by subst e; simp at h1
        simp [Act.put, Array.getElem?_setIfInBounds_ne this]
    unfold wpQuiet at h
    split at h
    · obtain ⟨v, _, h2⟩ := h
      exact (kept_slot l _ hl.2 h2).trans (hne v)
    · exact (kept_slot l _ hl.2 h).trans (hne _)
/-- What is so walked in the worlds over each world over w yields values that do not hang on that world. -/
theorem steady_of {aE a : Act} {o : Oper} {l : List Oper} (hl : ownSlots a.tmps.size (o :: l) = true) (h : ∀ x : Over w, wpQuiet P ops (Ovs x.val) (fun a' => a' = aE) (o :: l) a) :
    ∃ v, Steady P ops w o v a ∧ ∀ x : Over w, wpQuiet P ops (Ovs x.val) (fun a' => a' = aE) l (a.put o.dst v) := by
  by_cases hw : Region.wanted o (yielded ops a.tmps) = true
  · have h' : ∀ x : Over w, o.quiet P a (Ovs x.val) (wpQuiet P ops (Ovs x.val) (fun a' => a' = aE) l) := fun x => by
      have := h x; unfold wpQuiet at this; rwa [if_pos hw] at this
    unfold ownSlots at hl
    rw [Bool.and_eq_true] at hl
    cases hd : o.dst with
    | none => rw [hd] at hl; simp at hl
    | some s =>
      rw [hd] at hl
      simp only [Bool.and_eq_true, decide_eq_true_eq] at hl
      have hv : ∀ x : Over w, (∀ y, Ovs x.val y → o.quietAt P a (Ovs x.val) y (aE.tmps[s]?.getD undef)) ∧ wpQuiet P ops (Ovs x.val) (fun a' => a' = aE) l (a.put (some s) (aE.tmps[s]?.getD undef)) := fun x => by
        obtain ⟨v, h1, h2⟩ := h' x
        rw [hd] at h2
        have h3 := kept_slot l _ hl.1.2 h2
        have h4 : (a.put (some s) v).tmps[s]? = some v := by simp [Act.put, hl.1.1]
        rw [h3, h4]
        exact ⟨h1, h2⟩
      exact ⟨_, fun x => .inl ⟨hw, (hv x).1⟩, fun x => (hv x).2⟩
  · have hw' : Region.wanted o (yielded ops a.tmps) = false := by simpa using hw
    refine ⟨undef, fun x => .inr ⟨hw', rfl⟩, fun x => ?_⟩
    have := h x; unfold wpQuiet at this; rwa [if_neg hw] at this

theorem HeadsA.lex {g m : Nat} {ok : Oper} {O : Obj} {d : Tmp} {aE : Act} {Lq : Nat → Act → Prop} (hk : ops[m]? = some ok) (hd : ok.dst = some d) (hsel : Region.noSelect ops = true)
    (hs : Region.sinkB md ops (m + 1) = true) (hc : Region.chainB md ops (m + 1) = true) (hn : m + 1 < ops.size) (hq : ∀ b, Lq b (aE.put (some d) (.pointer (some ⟨b, 0, none⟩)))) :
    ∀ (l : List Oper) (k : Nat) (listed : Array Bool) (a : Act), (∀ j, j < l.length → l[j]? = ops[k + j]?) → k + l.length = m → HeadInv md ops (m + 1) listed → ownSlots a.tmps.size l = true →
    Region.lexHead md ops (g + 1) l.length k listed = true → (∀ x : Over w, wpQuiet P ops (Ovs x.val) (fun a' => a' = aE) l a) →
    HeadsA P md ops w O d (m + 1) m (fun b listed' a' => Region.seqB md ops g (m + 1) listed' = true ∧ Lq b a') (l.length + 1) listed a
  | [], k, listed, a, _, hkm, _, _, hB, h => by
    obtain rfl : k = m := by simpa using hkm
    have ha : a = aE := h ⟨w, Below.refl _ _⟩
    subst ha
    simp only [List.length_nil, Region.lexHead, Region.seqB, Bool.and_eq_true, decide_eq_true_eq] at hB
    refine ⟨by rw [hB.1]; simp, fun i hi => ?_⟩
    rw [hB.1] at hi
    obtain rfl : i = k := by simpa using hi
    exact ⟨by omega, fun _ b => ⟨hB.2, hq b⟩, fun h => absurd rfl h⟩
  | o :: l, k, listed, a, hl, hkm, inv, hsl, hB, h => by
    have h0 : ops[k]? = some o := by simpa using (hl 0 (by simp)).symm
    simp only [List.length_cons, Region.lexHead, Bool.and_eq_true] at hB
    obtain ⟨⟨hr, hf⟩, hB'⟩ := hB
    have hr' : k ∈ Region.ready md ops listed := by simpa using hr
    have hkm' : k + 1 + l.length = m := by rw [← hkm, List.length_cons]; omega
    obtain ⟨v, hy, hK⟩ := steady_of hsl h
    refine HeadsA.first h0 hk hd (by omega) (Region.noSelect_spec hsel) hs hc hn (by omega) (fun b listed' a' hL => seqB_ready hL.1) _ listed a inv (Region.free_spec h0 hf) hr' hy
      (HeadsA.lex hk hd hsel hs hc hn hq l (k + 1) _ _ (fun j hj => by have := hl (j + 1) (by simp; omega); simpa [Nat.add_assoc, Nat.add_comm 1 j] using this) hkm' (inv.set hr' (by omega)) ?_ hB' hK)
    rw [put_size]
    unfold ownSlots at hsl
    rw [Bool.and_eq_true] at hsl
    exact hsl.2

/-- What the kernel is asked of a region whose operation m is the allocation. -/
def lexAllocB (ops : Array Oper) (m : Nat) : Bool :=
  Region.noSelect ops && decide (m + 1 < ops.size) && Region.sinkB .any ops (m + 1) && Region.chainB .any ops (m + 1) && Region.lexHead .any ops (ops.size - m) m 0 (Array.replicate ops.size false)
/-- The operations ahead of number m yield one value each; m makes a block; the others come in one order. -/
theorem wp_over_alloc {id : Nat} {Q : Exit → Act → World → Prop} {a : Act} {l : List Oper} {ok : Oper} {O : Obj} {d : Tmp} (m : Nat) (hm : P.follows .mixedOrders = true) (hB : lexAllocB l.toArray m = true)
    (hk : l.toArray[m]? = some ok) (hd : ok.dst = some d) (hg : ok.guard = none) (hal : ∀ ρ x, (execOp ρ ok).run P x = .ok (.value (.pointer (some ⟨x.heap.size, 0, none⟩))) (x.alloc O)) (hsl : ownSlots a.tmps.size (l.take m) = true)
    (h : ∃ aE : Act, (∀ x : Over w, wpQuiet P l.toArray (fun w' => ∃ q : Over x.val, w' = q.val) (fun a' => a' = aE) (l.take m) a) ∧
      ∀ b w', Holds w O b w' → wpList P l.toArray Q (l.drop (m + 1)) (aE.put (some d) (.pointer (some ⟨b, 0, none⟩))) w') : (Code.region id l.toArray true).wp P Q a w := by
  obtain ⟨aE, h, ht⟩ := h
  unfold lexAllocB at hB
  simp only [Bool.and_eq_true, decide_eq_true_eq] at hB
  obtain ⟨⟨⟨⟨hsel, hn⟩, hs⟩, hc⟩, hlex⟩ := hB
  have hn' : m + 1 < l.length := by simpa using hn
  have htl : (l.take m).length = m := by simp; omega
  have hdl : (l.drop (m + 1)).length = l.toArray.size - (m + 1) := by simp
  have inv0 : HeadInv .any l.toArray (m + 1) (Array.replicate l.toArray.size false) :=
    ⟨by simp, fun j oj _ hl => (by rw [getD_replicate_false] at hl; cases hl), fun t _ ht => getD_in (by simpa using ht) (getD_replicate_false _ _)⟩
  have hg1 : l.toArray.size - m = l.toArray.size - (m + 1) + 1 := by omega
  have hw : Ovs w { w with drawn := w.drawn + 1 } := ⟨⟨w.drew, below_drewN (Below.refl _ _) 1⟩, rfl⟩
  have H := HeadsA.lex (w := w) (md := .any) (g := l.toArray.size - (m + 1)) (O := O) (Lq := fun b a' => ∀ w', Holds w O b w' → wpList P l.toArray Q (l.drop (m + 1)) a' w') hk hd hsel hs hc hn (fun b w' hw' => ht b w' hw') (l.take m) 0 _ a (fun j hj => by
    have hj' : j < m := by rw [htl] at hj; exact hj
    simp [hj']) (by simpa using htl) inv0 hsl (by rw [htl, ← hg1]; exact hlex) h
  refine wp_region_any hm ?_
  have H2 := HeadsA.any (Q' := Q) (g := l.toArray.size - (m + 1)) hk hd hg hal (fun b listed a' x hx hL => by
    have h1 := wpAny_of_seq (md := .any) (Q' := Q) (l.drop (m + 1)) (m + 1) listed a' x (fun j => by simp [List.getElem?_drop]) (by rw [hdl]; exact hL.1) (hL.2 x hx)
    rwa [hdl] at h1) _ _ _ _ hw H
  rw [htl, show m + 1 + (l.toArray.size - (m + 1)) = l.toArray.size by omega] at H2
  exact H2
end
end Go.Proofs.YtcdjincaedpodaaGreatDoor.Ov
/-
  Of any seat: a block of the call's own with two cells (a struct of two fields), told by its cells.
-/
namespace Go.Proofs.YtcdjincaedpodaaGreatDoor.Ov
open Go.ChangeShapes Go.WideShapes Go.ChangeAt Go.RowKit

/-- Block b has these two cells, and may be written. -/
structure Duo (w : World) (b : Nat) (u v : Value) : Prop where
  c0 : w.cell? ⟨b, 0, none⟩ = some u
  c1 : w.cell? ⟨b, 1, none⟩ = some v
  f0 : w.frozen? ⟨b, 0, none⟩ = false
  f1 : w.frozen? ⟨b, 1, none⟩ = false
section
variable {w w' : World} {b : Nat} {u v : Value}
theorem Duo.lt (h : Duo w b u v) : b < w.heap.size := block_lt_of_cell h.c0
theorem Duo.next (h : Duo w b u v) (k : Below w.heap.size w w') : Duo w' b u v :=
  ⟨(k.cell (p := ⟨b, 0, none⟩) h.lt).trans h.c0, (k.cell (p := ⟨b, 1, none⟩) h.lt).trans h.c1, (k.frozen (p := ⟨b, 0, none⟩) h.lt).trans h.f0, (k.frozen (p := ⟨b, 1, none⟩) h.lt).trans h.f1⟩
theorem Duo.old (h : Duo w b u v) (o : Obj) : Duo (w.alloc o) b u v := h.next ((Below.refl _ _).alloc (Nat.le_refl _) _)
theorem Duo.made (w : World) (t : TypeId) (u v : Value) : Duo (w.alloc (.cells #[u, v] t)) w.heap.size u v :=
  ⟨by simp [World.cell?_alloc_new], by simp [World.cell?_alloc_new], by simp [World.frozen?_alloc_new], by simp [World.frozen?_alloc_new]⟩
theorem Duo.drew (h : Duo w b u v) : Duo w.drew b u v := ⟨h.c0, h.c1, h.f0, h.f1⟩
theorem Duo.over (h : Duo w b u v) (q : Over w) : Duo q.val b u v := h.next q.property
theorem Duo.put (h : Duo w b u v) {c : Nat} (hc : c ≠ b) (o : Nat) (z : Value) : Duo (w.setCell ⟨c, o, none⟩ z) b u v :=
  ⟨by rw [World.cell?_setCell_other _ _ _ _ (fun e => hc (congrArg Addr.block e))]; exact h.c0, by rw [World.cell?_setCell_other _ _ _ _ (fun e => hc (congrArg Addr.block e))]; exact h.c1,
    by rw [World.frozen?_setCell]; exact h.f0, by rw [World.frozen?_setCell]; exact h.f1⟩
theorem Duo.put2 (h : Duo w b u v) {c : Nat} (hc : c ≠ b) (y z : Value) : Duo ((w.setCell ⟨c, 0, none⟩ y).setCell ⟨c, 1, none⟩ z) b u v := (h.put hc 0 y).put hc 1 z
theorem Duo.set (h : Duo w b u v) (y z : Value) : Duo ((w.setCell ⟨b, 0, none⟩ y).setCell ⟨b, 1, none⟩ z) b y z := by
  have n1 : (⟨b, 0, none⟩ : Addr) ≠ ⟨b, 1, none⟩ := fun e => by injection e with _ e; cases e
  have c0 : (w.setCell ⟨b, 0, none⟩ y).cell? ⟨b, 0, none⟩ = some y := World.cell?_setCell_same _ _ _ h.c0
  have c1 : (w.setCell ⟨b, 0, none⟩ y).cell? ⟨b, 1, none⟩ = some v := by rw [World.cell?_setCell_other _ _ _ _ n1]; exact h.c1
  exact ⟨by rw [World.cell?_setCell_other _ _ _ _ n1.symm]; exact c0, World.cell?_setCell_same _ _ _ c1, by rw [World.frozen?_setCell, World.frozen?_setCell]; exact h.f0, by rw [World.frozen?_setCell, World.frozen?_setCell]; exact h.f1⟩
theorem below_put2 {B : Nat} {a : World} (h : Below B a w) {c : Nat} (hc : B ≤ c) (y z : Value) : Below B a ((w.setCell ⟨c, 0, none⟩ y).setCell ⟨c, 1, none⟩ z) := (h.setCell (p := ⟨c, 0, none⟩) hc y).setCell (p := ⟨c, 1, none⟩) hc z
theorem Holds.duo {t : TypeId} {y : World} (h : Holds w (.cells #[u, v] t) b y) : Duo y b u v := ⟨h.cell 0, h.cell 1, h.frozen 0, h.frozen 1⟩
theorem Duo.made1 (w : World) (a : Obj) (t : TypeId) (u v : Value) : Duo ((w.alloc a).alloc (.cells #[u, v] t)) (w.heap.size + 1) u v := by
  have h := Duo.made (w.alloc a) t u v; rwa [World.size_alloc] at h
theorem Duo.made2 (w : World) (a b : Obj) (t : TypeId) (u v : Value) : Duo (((w.alloc a).alloc b).alloc (.cells #[u, v] t)) (w.heap.size + 1 + 1) u v := by
  have h := Duo.made ((w.alloc a).alloc b) t u v; rwa [World.size_alloc, World.size_alloc] at h
theorem Duo.made3 (w : World) (a b c : Obj) (t : TypeId) (u v : Value) : Duo ((((w.alloc a).alloc b).alloc c).alloc (.cells #[u, v] t)) (w.heap.size + 1 + 1 + 1) u v := by
  have h := Duo.made (((w.alloc a).alloc b).alloc c) t u v; rwa [World.size_alloc, World.size_alloc, World.size_alloc] at h
variable (t : TypeId) (x1 y1 x2 y2 x3 y3 x4 y4 : Value)
/-- Two, three, four structs are boxed, one behind the other. -/
theorem boxes2 (w : World) : Below w.heap.size w ((w.alloc (.cells #[x1, y1] t)).alloc (.cells #[x2, y2] t)) ∧
    Duo ((w.alloc (.cells #[x1, y1] t)).alloc (.cells #[x2, y2] t)) w.heap.size x1 y1 ∧ Duo ((w.alloc (.cells #[x1, y1] t)).alloc (.cells #[x2, y2] t)) (w.heap.size + 1) x2 y2 :=
  ⟨box2 w _ _, (Duo.made w t x1 y1).old _, Duo.made1 w _ t x2 y2⟩
theorem boxes3 (w : World) : Below w.heap.size w (((w.alloc (.cells #[x1, y1] t)).alloc (.cells #[x2, y2] t)).alloc (.cells #[x3, y3] t)) ∧
    Duo (((w.alloc (.cells #[x1, y1] t)).alloc (.cells #[x2, y2] t)).alloc (.cells #[x3, y3] t)) w.heap.size x1 y1 ∧ Duo (((w.alloc (.cells #[x1, y1] t)).alloc (.cells #[x2, y2] t)).alloc (.cells #[x3, y3] t)) (w.heap.size + 1) x2 y2 ∧
    Duo (((w.alloc (.cells #[x1, y1] t)).alloc (.cells #[x2, y2] t)).alloc (.cells #[x3, y3] t)) (w.heap.size + 1 + 1) x3 y3 :=
  ⟨box3 w _ _ _, ((Duo.made w t x1 y1).old _).old _, (Duo.made1 w _ t x2 y2).old _, Duo.made2 w _ _ t x3 y3⟩
theorem boxes4 (w : World) : Below w.heap.size w ((((w.alloc (.cells #[x1, y1] t)).alloc (.cells #[x2, y2] t)).alloc (.cells #[x3, y3] t)).alloc (.cells #[x4, y4] t)) ∧
    Duo ((((w.alloc (.cells #[x1, y1] t)).alloc (.cells #[x2, y2] t)).alloc (.cells #[x3, y3] t)).alloc (.cells #[x4, y4] t)) w.heap.size x1 y1 ∧
    Duo ((((w.alloc (.cells #[x1, y1] t)).alloc (.cells #[x2, y2] t)).alloc (.cells #[x3, y3] t)).alloc (.cells #[x4, y4] t)) (w.heap.size + 1) x2 y2 ∧
    Duo ((((w.alloc (.cells #[x1, y1] t)).alloc (.cells #[x2, y2] t)).alloc (.cells #[x3, y3] t)).alloc (.cells #[x4, y4] t)) (w.heap.size + 1 + 1) x3 y3 ∧
    Duo ((((w.alloc (.cells #[x1, y1] t)).alloc (.cells #[x2, y2] t)).alloc (.cells #[x3, y3] t)).alloc (.cells #[x4, y4] t)) (w.heap.size + 1 + 1 + 1) x4 y4 :=
  ⟨box4 w _ _ _ _, (((Duo.made w t x1 y1).old _).old _).old _, ((Duo.made1 w _ t x2 y2).old _).old _, (Duo.made2 w _ _ t x3 y3).old _, Duo.made3 w _ _ _ t x4 y4⟩
end
end Go.Proofs.YtcdjincaedpodaaGreatDoor.Ov
/-
  The quotient and the rest of right points.
-/
namespace Go.Proofs.YtcdjincaedpodaaGreatDoor.Ga
open Go.ChangeShapes Go.WideShapes Go.ChangeAt Go.RowKit Go.Proofs.YtcdjincaedpodaaGreatDoor.Ov

theorem alloc_spot (ρ : Operand → Value) (x : World) (d : Tmp) (p : String) (e : Array Edge) : (execOp ρ { dst := some d, op := Op.alloc 24, type := 0, pos := p, after := e, guard := none }).run Tryz.prog x = .ok (.value (.pointer (some ⟨x.heap.size, 0, none⟩))) (x.alloc (.cells #[.int .i64 0, .int .i64 0] 24)) := by
  simp [execOp, go_sem]
set_option maxHeartbeats 2000000 in
theorem divide_core (x y u v v' z1 z2 n q1 q2 r1 r2 : Int) (fx fy fu fv fv' fp fq re im re2 im2 re3 im3 : Nat) (w : World)
    (HC1 : Hid (∀ w, Calls Tryz.prog 126 #[.agg #[.int .i64 x, .int .i64 y]] w (Gives (.complex .f64 fx fy) w)))
    (HM : Hid (∀ w, Calls Tryz.prog 135 #[.agg #[.int .i64 u, .int .i64 v]] w (Gives (.agg #[.int .i64 u, .int .i64 v']) w)))
    (HC2 : Hid (∀ w, Calls Tryz.prog 126 #[.agg #[.int .i64 u, .int .i64 v']] w (Gives (.complex .f64 fu fv') w)))
    (hm1 : ∀ w : World, (binOp .mul 132 (.complex .f64 fx fy) (.complex .f64 fu fv')).run Tryz.prog w = .ok (.complex .f64 re im) w)
    (HS1 : Hid (∀ w, Calls Tryz.prog 125 #[.complex .f64 re im] w (Gives (.agg #[.int .i64 z1, .int .i64 z2]) w)))
    (HN : Hid (∀ w, Calls Tryz.prog 134 #[.agg #[.int .i64 u, .int .i64 v]] w (Gives (.int .i64 n) w)))
    (HQ1 : Hid (∀ w, Calls Tryz.prog 162 #[.int .i64 z1, .int .i64 n] w (Gives (.int .i64 q1) w)))
    (HQ2 : Hid (∀ w, Calls Tryz.prog 162 #[.int .i64 z2, .int .i64 n] w (Gives (.int .i64 q2) w)))
    (HC3 : Hid (∀ w, Calls Tryz.prog 126 #[.agg #[.int .i64 q1, .int .i64 q2]] w (Gives (.complex .f64 fp fq) w)))
    (HC4 : Hid (∀ w, Calls Tryz.prog 126 #[.agg #[.int .i64 u, .int .i64 v]] w (Gives (.complex .f64 fu fv) w)))
    (hm2 : ∀ w : World, (binOp .mul 132 (.complex .f64 fp fq) (.complex .f64 fu fv)).run Tryz.prog w = .ok (.complex .f64 re2 im2) w)
    (hm3 : ∀ w : World, (binOp .sub 132 (.complex .f64 fx fy) (.complex .f64 re2 im2)).run Tryz.prog w = .ok (.complex .f64 re3 im3) w)
    (HS2 : Hid (∀ w, Calls Tryz.prog 125 #[.complex .f64 re3 im3] w (Gives (.agg #[.int .i64 r1, .int .i64 r2]) w))) :
    Calls Tryz.prog 148 #[.agg #[.int .i64 x, .int .i64 y], .agg #[.int .i64 u, .int .i64 v]] w (Gives (.tuple #[.agg #[.int .i64 q1, .int .i64 q2], .agg #[.int .i64 r1, .int .i64 r2]]) w) := by
  go_enter Tryz.func148, Tryz.ntmps148
  go_wp2_with (fail)
  obtain ⟨hb, d2, d3, d4, d5⟩ := boxes4 24 (.int .i64 x) (.int .i64 y) (.int .i64 u) (.int .i64 v) (.int .i64 0) (.int .i64 0) (.int .i64 0) (.int .i64 0) w
  generalize (((w.alloc (.cells #[.int .i64 x, .int .i64 y] 24)).alloc (.cells #[.int .i64 u, .int .i64 v] 24)).alloc (.cells #[.int .i64 0, .int .i64 0] 24)).alloc (.cells #[.int .i64 0, .int .i64 0] 24) = w0 at *
  have HB := Lib.hid hb; clear hb
  have D2 := Lib.hid d2; have D3 := Lib.hid d3; have D4 := Lib.hid d4; have D5 := Lib.hid d5; clear d2 d3 d4 d5
  refine wp_over_alloc (O := .cells #[.int .i64 0, .int .i64 0] 24) 9 (by kernel_rfl) (by kernel_rfl) rfl rfl rfl (fun ρ x => alloc_spot ρ x _ _ _) (by kernel_rfl) ?_
  simp only [List.take_succ_cons, List.take_zero, List.drop_succ_cons, List.drop_zero]
  apply Exists.intro
  apply And.intro
  · intro x0
    have k1 : ∀ r : Over x0.val, r.val.cell? ⟨w.heap.size, 0, none⟩ = some (.int .i64 x) := fun r => ((D2.out.over x0).over r).c0
    have k2 : ∀ r : Over x0.val, r.val.cell? ⟨w.heap.size, 1, none⟩ = some (.int .i64 y) := fun r => ((D2.out.over x0).over r).c1
    have k3 : ∀ r : Over x0.val, r.val.cell? ⟨w.heap.size + 1, 0, none⟩ = some (.int .i64 u) := fun r => ((D3.out.over x0).over r).c0
    have k4 : ∀ r : Over x0.val, r.val.cell? ⟨w.heap.size + 1, 1, none⟩ = some (.int .i64 v) := fun r => ((D3.out.over x0).over r).c1
    repeat (go_big_quiet_step (first
      | with_reducible exact over_gives _ (HC1.out _)
      | with_reducible exact over_gives _ (HM.out _)
      | with_reducible exact over_gives _ (HC2.out _)
      | with_reducible exact over_gives _ (HS1.out _)
      | with_reducible exact over_gives _ (HN.out _)))
    refine wpQuiet_nil ?_
    rfl
  · rintro b w1 HO
    have hb := HO.1
    have DN := Lib.hid (HO.duo.set (.int .i64 z1) (.int .i64 z2))
    have hlo := HO.2.1
    obtain ⟨c0, c1, f0, f1⟩ := HO.duo
    have l2 := D2.out.lt; have l3 := D3.out.lt; have l4 := D4.out.lt; have l5 := D5.out.lt
    have E2 := Lib.hid ((D2.out.next hb).put2 (c := b) (by omega) (.int .i64 z1) (.int .i64 z2))
    have E3 := Lib.hid ((D3.out.next hb).put2 (c := b) (by omega) (.int .i64 z1) (.int .i64 z2))
    have E4 := Lib.hid ((D4.out.next hb).put2 (c := b) (by omega) (.int .i64 z1) (.int .i64 z2))
    have E5 := Lib.hid ((D5.out.next hb).put2 (c := b) (by omega) (.int .i64 z1) (.int .i64 z2))
    have HB2 := Lib.hid (below_put2 (Below.next HB.out hb) (c := b) (by omega) (.int .i64 z1) (.int .i64 z2))
    have hbl : b < w1.heap.size := block_lt_of_cell c0
    have HN4 : Hid (w.heap.size + 1 + 1 < b) := Lib.hid (by omega)
    have HN5 : Hid (w.heap.size + 1 + 1 + 1 < b) := Lib.hid (by omega)
    clear hb HO D2 D3 D4 D5 HB
    simp only [Act.put, List.setIfInBounds_toArray, List.set_cons_zero, List.set_cons_succ]
    go_wp2_with (fail)
    generalize ((w1.setCell ⟨b, 0, none⟩ (.int .i64 z1)).setCell ⟨b, 1, none⟩ (.int .i64 z2)) = w2 at *
    clear c0 c1 f0 f1 hbl hlo l2 l3 l4 l5
    have n2 : b ≠ w.heap.size + 1 + 1 := Nat.ne_of_gt HN4.out
    have n3 : b ≠ w.heap.size + 1 + 1 + 1 := Nat.ne_of_gt HN5.out
    refine wp_over_alloc (O := .cells #[.int .i64 0, .int .i64 0] 24) 9 (by kernel_rfl) (by kernel_rfl) rfl rfl rfl (fun ρ x => alloc_spot ρ x _ _ _) (by kernel_rfl) ?_
    simp only [List.take_succ_cons, List.take_zero, List.drop_succ_cons, List.drop_zero]
    apply Exists.intro
    apply And.intro
    · intro x0
      have k1 : ∀ r : Over x0.val, r.val.cell? ⟨b, 0, none⟩ = some (.int .i64 z1) := fun r => ((DN.out.over x0).over r).c0
      have k2 : ∀ r : Over x0.val, r.val.cell? ⟨b, 1, none⟩ = some (.int .i64 z2) := fun r => ((DN.out.over x0).over r).c1
      repeat (go_big_quiet_step (first
        | with_reducible exact over_gives _ (HQ1.out _)
        | with_reducible exact over_gives _ (HQ2.out _)))
      refine wpQuiet_nil ?_
      rfl
    · rintro c w3 HO
      have hb := HO.1
      have hlo := HO.2.1
      have l2 := E2.out.lt; have l3 := E3.out.lt; have l4 := E4.out.lt; have l5 := E5.out.lt
      have DC := Lib.hid (HO.duo.set (.int .i64 q1) (.int .i64 q2))
      have F2 := Lib.hid ((E2.out.next hb).put2 (c := c) (by omega) (.int .i64 q1) (.int .i64 q2))
      have F3 := Lib.hid ((E3.out.next hb).put2 (c := c) (by omega) (.int .i64 q1) (.int .i64 q2))
      have F4 := Lib.hid ((E4.out.next hb).put2 (c := c) (by omega) (.int .i64 q1) (.int .i64 q2))
      have F5 := Lib.hid ((E5.out.next hb).put2 (c := c) (by omega) (.int .i64 q1) (.int .i64 q2))
      have HB3 := Lib.hid (below_put2 (Below.next HB2.out hb) (c := c) (by have := HB2.out.size; omega) (.int .i64 q1) (.int .i64 q2))
      obtain ⟨c0, c1, f0, f1⟩ := HO.duo
      have hbl : c < w3.heap.size := block_lt_of_cell c0
      clear hb HO E2 E3 E4 E5 HB2 DN
      simp only [Act.put, List.setIfInBounds_toArray, List.set_cons_zero, List.set_cons_succ]
      go_wp2_with (fail)
      generalize ((w3.setCell ⟨c, 0, none⟩ (.int .i64 q1)).setCell ⟨c, 1, none⟩ (.int .i64 q2)) = w4 at *
      clear c0 c1 f0 f1 hbl hlo l2 l3 l4 l5
      have k1 : ∀ r : Over w4, r.val.cell? ⟨w.heap.size, 0, none⟩ = some (.int .i64 x) := fun r => (F2.out.over r).c0
      have k2 : ∀ r : Over w4, r.val.cell? ⟨w.heap.size, 1, none⟩ = some (.int .i64 y) := fun r => (F2.out.over r).c1
      have k3 : ∀ r : Over w4, r.val.cell? ⟨w.heap.size + 1, 0, none⟩ = some (.int .i64 u) := fun r => (F3.out.over r).c0
      have k4 : ∀ r : Over w4, r.val.cell? ⟨w.heap.size + 1, 1, none⟩ = some (.int .i64 v) := fun r => (F3.out.over r).c1
      have k5 : ∀ r : Over w4, r.val.cell? ⟨c, 0, none⟩ = some (.int .i64 q1) := fun r => (DC.out.over r).c0
      have k6 : ∀ r : Over w4, r.val.cell? ⟨c, 1, none⟩ = some (.int .i64 q2) := fun r => (DC.out.over r).c1
      refine wp_over_tail 10 (by kernel_rfl) (by kernel_rfl) ?_
      simp only [List.take_succ_cons, List.take_zero, List.drop_succ_cons, List.drop_zero]
      repeat (go_big_quiet_step (first
        | with_reducible exact over_gives _ (HC1.out _)
        | with_reducible exact over_gives _ (HC3.out _)
        | with_reducible exact over_gives _ (HC4.out _)
        | with_reducible exact over_gives _ (HS2.out _)))
      refine wpQuiet_nil ?_
      rintro w5 ⟨⟨w5, hb⟩, rfl⟩
      have HB4 := Lib.hid (Below.next HB3.out hb)
      obtain ⟨c0, c1, f0, f1⟩ := F4.out.next hb
      obtain ⟨e0, e1, g0, g1⟩ := F5.out.next hb
      have hz := (F5.out.next hb).lt
      have hz4 := (F4.out.next hb).lt
      clear hb k1 k2 k3 k4 k5 k6 n2 n3
      go_wp2_with (fail)
      refine bodyPost_ret (v := .tuple #[.agg #[.int .i64 q1, .int .i64 q2], .agg #[.int .i64 r1, .int .i64 r2]]) (by simp [results, Tryz.results148, go_sem, c0, c1, e0, e1]) rfl ⟨rfl, ?_⟩
      exact below_put2 (below_put2 HB4.out (c := w.heap.size + 1 + 1) (by omega) _ _) (c := w.heap.size + 1 + 1 + 1) (by omega) _ _
theorem sum_le {a b : Int} (h1 : -281474976710656 ≤ a ∧ a ≤ 281474976710656) (h2 : -281474976710656 ≤ b ∧ b ≤ 281474976710656) :
    (-562949953421312 ≤ a + b ∧ a + b ≤ 562949953421312) ∧ (-562949953421312 ≤ a - b ∧ a - b ≤ 562949953421312) := by omega
theorem run_csub {x y p q : Int} {re im : Nat} (hx : -16777216 ≤ x ∧ x ≤ 16777216) (hy : -16777216 ≤ y ∧ y ≤ 16777216) (hr : Is re p) (hi : Is im q) (hp : -562949953421312 ≤ p ∧ p ≤ 562949953421312) (hq : -562949953421312 ≤ q ∧ q ≤ 562949953421312) :
    ∃ a b, (∀ w : World, (binOp .sub 132 (.complex .f64 (floatOfInt .f64 x) (floatOfInt .f64 y)) (.complex .f64 re im)).run Tryz.prog w = .ok (.complex .f64 a b) w) ∧ Is a (x - p) ∧ Is b (y - q) := by
  obtain ⟨a, b, h, h1, h2⟩ := csub (Is.ofInt (n := x) (by omega)) (Is.ofInt (n := y) (by omega)) hr hi (by omega) (by omega)
  exact ⟨a, b, fun w => run_complex_sum w .sub (.inr rfl) _ _ _ _ _ _ _ _ h, h1, h2⟩
/-- The quotient and the rest, of right points, the second not 0. -/
theorem divide_any {x y u v : Int} (ha : rb ⟨x, y⟩ = true) (hb : rb ⟨u, v⟩ = true) (h0 : (⟨u, v⟩ : Pt) ≠ Pt.zero) (w : World) :
    Calls Tryz.prog 148 #[.agg #[.int .i64 x, .int .i64 y], .agg #[.int .i64 u, .int .i64 v]] w
      (Gives (.tuple #[.agg #[.int .i64 (Pt.quo ⟨x, y⟩ ⟨u, v⟩).x, .int .i64 (Pt.quo ⟨x, y⟩ ⟨u, v⟩).y], .agg #[.int .i64 (Pt.rest ⟨x, y⟩ ⟨u, v⟩).x, .int .i64 (Pt.rest ⟨x, y⟩ ⟨u, v⟩).y]]) w) := by
  obtain ⟨hx, hy⟩ := rb_xy ha
  obtain ⟨hu, hv⟩ := rb_xy hb
  have hv' : -16777216 ≤ -v ∧ -v ≤ 16777216 := by omega
  obtain ⟨hp, hq⟩ := rb_yes (Pt.quo_right ha h0)
  obtain ⟨hr1, hr2⟩ := rb_yes (Pt.rest_right (a := ⟨x, y⟩) hb h0)
  obtain ⟨re, im, hm1, i1, i2⟩ := run_cmul hx hy hu hv'
  obtain ⟨re2, im2, hm2, j1, j2⟩ := run_cmul hp hq hu hv
  obtain ⟨s1, s1'⟩ := sum_le (mul_big hx hu) (mul_big hy hv')
  obtain ⟨s2, s2'⟩ := sum_le (mul_big hx hv') (mul_big hy hu)
  obtain ⟨s3, s3'⟩ := sum_le (mul_big hp hu) (mul_big hq hv)
  obtain ⟨s4, s4'⟩ := sum_le (mul_big hp hv) (mul_big hq hu)
  obtain ⟨re3, im3, hm3, k1, k2⟩ := run_csub hx hy j1 j2 s3' s4
  obtain ⟨s5, s5'⟩ := sum_le (mul_big hu hu) (mul_big hv hv)
  have hn : 0 < Pt.norm ⟨u, v⟩ := Pt.norm_pos h0
  refine divide_core x y u v (-v) (x * u - y * -v) (x * -v + y * u) (u * u + v * v) _ _ _ _ _ _ _ _ _ _ _ re im re2 im2 re3 im3 w (Lib.hid (complex_any x y)) (Lib.hid (mirror_any hv)) (Lib.hid (complex_any u (-v))) hm1
    (Lib.hid (spot_any i1 i2 (by omega) (by omega))) (Lib.hid (norm_any hu hv)) (Lib.hid fun w => ?_) (Lib.hid fun w => ?_) (Lib.hid (complex_any _ _)) (Lib.hid (complex_any u v)) hm2 hm3
    (Lib.hid (spot_any k1 k2 ?_ ?_))
  · exact (nearest_any (n := x * u - y * -v) (d := u * u + v * v) (by omega) (by omega) hn (by omega) w).mono fun e w' h => ⟨h.1, by rw [← h.2]; exact Below.refl _ _⟩
  · exact (nearest_any (n := x * -v + y * u) (d := u * u + v * v) (by omega) (by omega) hn (by omega) w).mono fun e w' h => ⟨h.1, by rw [← h.2]; exact Below.refl _ _⟩
  · omega
  · omega
end Go.Proofs.YtcdjincaedpodaaGreatDoor.Ga
/-
  Div, Common; turns; norms, points turned about; which comes first.
-/
namespace Go.Proofs.YtcdjincaedpodaaGreatDoor.Ga
open Go.ChangeShapes Go.WideShapes Go.ChangeAt Go.RowKit Go.Proofs.YtcdjincaedpodaaGreatDoor.Ov

theorem norm_yes {x y : Int} (h : rb ⟨x, y⟩ = true) (w : World) : Calls Tryz.prog 101 #[.agg #[.int .i64 x, .int .i64 y]] w (Gives (.tuple #[.int .i64 (x * x + y * y), .int .i64 0]) w) := by
  have HR := Lib.hid (right_any x y); rw [h] at HR
  have HN := Lib.hid (norm_any (rb_xy h).1 (rb_xy h).2); clear h
  generalize x * x + y * y = n at *
  go_enter Tryz.func101, Tryz.ntmps101
  go_wp2_with (fail)
  refine (HR.out _).mono ?_
  rintro e w1 ⟨rfl, hb⟩
  have HB := Lib.hid (Below.next (below1 w _) hb)
  have HD := Lib.hid ((Duo.made w 24 (.int .i64 x) (.int .i64 y)).next hb)
  clear hb
  obtain ⟨c0, c1, _, _⟩ := HD.out
  go_wp2_with (fail)
  refine (HN.out _).mono ?_
  rintro e w2 ⟨rfl, hb⟩
  have HB2 := Lib.hid (Below.next HB.out hb); clear hb c0 c1
  go_wp2_with (fail)
  go_ret2
  exact ⟨rfl, HB2.out⟩
theorem norm_no {x y : Int} (h : rb ⟨x, y⟩ = false) (w : World) : Calls Tryz.prog 101 #[.agg #[.int .i64 x, .int .i64 y]] w (Gives (.tuple #[.int .i64 0, .int .i64 14]) w) := by
  have HR := Lib.hid (right_any x y); rw [h] at HR; clear h
  go_enter Tryz.func101, Tryz.ntmps101
  go_wp2_with (fail)
  refine (HR.out _).mono ?_
  rintro e w1 ⟨rfl, hb⟩
  have HB := Lib.hid (Below.next (below1 w _) hb); clear hb
  go_wp2_with (fail)
  go_ret2
  exact ⟨rfl, HB.out⟩
theorem conj_yes {x y : Int} (h : rb ⟨x, y⟩ = true) (w : World) : Calls Tryz.prog 102 #[.agg #[.int .i64 x, .int .i64 y]] w (Gives (.tuple #[.agg #[.int .i64 x, .int .i64 (-y)], .int .i64 0]) w) := by
  have HR := Lib.hid (right_any x y); rw [h] at HR
  have HN := Lib.hid (mirror_any (x := x) (rb_xy h).2); clear h
  generalize -y = y' at *
  go_enter Tryz.func102, Tryz.ntmps102
  go_wp2_with (fail)
  refine (HR.out _).mono ?_
  rintro e w1 ⟨rfl, hb⟩
  obtain ⟨h2, d0, d1⟩ := boxes2 24 (.int .i64 x) (.int .i64 y) (.int .i64 0) (.int .i64 0) w
  have HB := Lib.hid (Below.next h2 hb)
  have HD := Lib.hid (d1.next hb)
  obtain ⟨c0, c1, _, _⟩ := d0.next hb
  clear hb h2 d0 d1
  go_wp2_with (fail)
  refine (HN.out _).mono ?_
  rintro e w2 ⟨rfl, hb⟩
  have HB2 := Lib.hid (Below.next HB.out hb)
  have hz := (HD.out.next hb).lt
  obtain ⟨e0, e1, g0, g1⟩ := HD.out.next hb
  clear hb c0 c1
  go_wp2_with (fail)
  refine bodyPost_ret (v := .tuple #[.agg #[.int .i64 x, .int .i64 y'], .int .i64 0]) (by simp [results, Tryz.results102, go_sem, e0, e1]) rfl ⟨rfl, ?_⟩
  exact below_put2 HB2.out (c := w.heap.size + 1) (by omega) _ _
theorem conj_no {x y : Int} (h : rb ⟨x, y⟩ = false) (w : World) : Calls Tryz.prog 102 #[.agg #[.int .i64 x, .int .i64 y]] w (Gives (.tuple #[.agg #[.int .i64 0, .int .i64 0], .int .i64 14]) w) := by
  have HR := Lib.hid (right_any x y); rw [h] at HR; clear h
  go_enter Tryz.func102, Tryz.ntmps102
  go_wp2_with (fail)
  refine (HR.out _).mono ?_
  rintro e w1 ⟨rfl, hb⟩
  obtain ⟨h2, d0, d1⟩ := boxes2 24 (.int .i64 x) (.int .i64 y) (.int .i64 0) (.int .i64 0) w
  have HB := Lib.hid (Below.next h2 hb)
  have hz := (d1.next hb).lt
  obtain ⟨e0, e1, g0, g1⟩ := d1.next hb
  clear hb h2 d0 d1
  go_wp2_with (fail)
  refine bodyPost_ret (v := .tuple #[.agg #[.int .i64 0, .int .i64 0], .int .i64 14]) (by simp [results, Tryz.results102, go_sem, e0, e1]) rfl ⟨rfl, ?_⟩
  exact below_put2 HB.out (c := w.heap.size + 1) (by omega) _ _
/-- What a loop of turns keeps. -/
def RelT (x y : Int) (N : Nat) (C I : Value) : Prop := ∃ (k re im : Nat), k ≤ N ∧ I = .int .i64 (k : Int) ∧ C = .complex .f64 re im ∧ Is re (Pt.turns k ⟨x, y⟩).x ∧ Is im (Pt.turns k ⟨x, y⟩).y
end Go.Proofs.YtcdjincaedpodaaGreatDoor.Ga
/-
  The first of four; Turn, Div.
-/
namespace Go.Proofs.YtcdjincaedpodaaGreatDoor.Ga
open Go.ChangeShapes Go.WideShapes Go.ChangeAt Go.RowKit Go.Proofs.YtcdjincaedpodaaGreatDoor.Ov

/-- So many turns are left. -/
def left (a : Pt) : Nat := if (0 < a.x ∧ 0 ≤ a.y) ∨ (a.x = 0 ∧ a.y = 0) then 0 else if a.y < 0 ∧ 0 ≤ a.x then 1 else if a.x < 0 ∧ a.y ≤ 0 then 2 else 3
theorem left_turn {a : Pt} (h : ¬ ((0 < a.x ∧ 0 ≤ a.y) ∨ (a.x = 0 ∧ a.y = 0))) : left a.turn < left a := by
  have tx : a.turn.x = -a.y := rfl
  have ty : a.turn.y = a.x := rfl
  unfold left
  rw [if_neg h, tx, ty]
  repeat' split
  all_goals omega
/-- What the loop keeps. -/
structure RelF (x y : Int) (w : World) (b c : Nat) (wr : World) (p q : Int) : Prop where
  right : rb ⟨p, q⟩ = true
  same : Pt.fs ⟨p, q⟩ = Pt.fs ⟨x, y⟩
  own : Duo wr b (.int .i64 p) (.int .i64 q)
  res : Duo wr c (.int .i64 0) (.int .i64 0)
  below : Below w.heap.size w wr
def cellInt (w : World) (b o : Nat) : Int := match w.cell? ⟨b, o, none⟩ with | some (.int _ n) => n | _ => 0
theorem cellInt_of {w : World} {b o : Nat} {k : IntKind} {n : Int} (h : w.cell? ⟨b, o, none⟩ = some (.int k n)) : cellInt w b o = n := by unfold cellInt; rw [h]
end Go.Proofs.YtcdjincaedpodaaGreatDoor.Ga
/-
  Turn, Div.
-/
namespace Go.Proofs.YtcdjincaedpodaaGreatDoor.Ga
open Go.ChangeShapes Go.WideShapes Go.ChangeAt Go.RowKit Go.Proofs.YtcdjincaedpodaaGreatDoor.Ov

theorem bits_and3 (n : Int) : bits .and .i64 n 3 = (((n % 4).toNat : Nat) : Int) := by
  show IntKind.i64.wrap ((BitVec.ofInt 64 n &&& BitVec.ofInt 64 3).toNat : Int) = _
  rw [BitVec.toNat_and, BitVec.toNat_ofInt, IntKind.wrap_i64]
  have e2 : (BitVec.ofInt 64 3).toNat = 3 := by decide
  rw [e2]
  have e3 : (n % ((2 ^ 64 : Nat) : Int)).toNat &&& 3 = (n % ((2 ^ 64 : Nat) : Int)).toNat % 4 := Nat.and_two_pow_sub_one_eq_mod _ 2
  rw [e3]; omega
/-- Two points and an error. -/
def two (p q r s e : Int) : Value := .tuple #[.agg #[.int .i64 p, .int .i64 q], .agg #[.int .i64 r, .int .i64 s], .int .i64 e]
theorem div_bad (x y u v : Int) (h : (rb ⟨x, y⟩ && rb ⟨u, v⟩) = false) (w : World) : Calls Tryz.prog 127 #[.agg #[.int .i64 x, .int .i64 y], .agg #[.int .i64 u, .int .i64 v]] w (Gives (two 0 0 0 0 14) w) := by
  have HR := Lib.hid (both_any x y u v); rw [h] at HR; clear h
  go_enter Tryz.func127, Tryz.ntmps127
  go_wp2_with (fail)
  refine (HR.out _).mono ?_
  rintro e w1 ⟨rfl, hb⟩
  obtain ⟨h4, d2, d3, d4, d5⟩ := boxes4 24 (.int .i64 x) (.int .i64 y) (.int .i64 u) (.int .i64 v) (.int .i64 0) (.int .i64 0) (.int .i64 0) (.int .i64 0) w
  have HB := Lib.hid (Below.next h4 hb)
  have hz := (d5.next hb).lt
  obtain ⟨e0, e1, g0, g1⟩ := d4.next hb
  obtain ⟨i0, i1, j0, j1⟩ := d5.next hb
  clear hb h4 d2 d3 d4 d5
  go_wp2_with (fail)
  refine bodyPost_ret (v := two 0 0 0 0 14) (by simp [results, Tryz.results127, go_sem, e0, e1, i0, i1]; rfl) rfl ⟨rfl, ?_⟩
  exact below_put2 (below_put2 HB.out (c := w.heap.size + 1 + 1) (by omega) _ _) (c := w.heap.size + 1 + 1 + 1) (by omega) _ _
theorem div_zero (x y : Int) (h : rb ⟨x, y⟩ = true) (w : World) : Calls Tryz.prog 127 #[.agg #[.int .i64 x, .int .i64 y], .agg #[.int .i64 0, .int .i64 0]] w (Gives (two 0 0 0 0 16) w) := by
  have HR := Lib.hid (both_any x y 0 0); rw [h, show rb ⟨0, 0⟩ = true from rfl, Bool.true_and] at HR; clear h
  go_enter Tryz.func127, Tryz.ntmps127
  go_wp2_with (fail)
  refine (HR.out _).mono ?_
  rintro e w1 ⟨rfl, hb⟩
  obtain ⟨h4, d2, d3, d4, d5⟩ := boxes4 24 (.int .i64 x) (.int .i64 y) (.int .i64 0) (.int .i64 0) (.int .i64 0) (.int .i64 0) (.int .i64 0) (.int .i64 0) w
  have HB := Lib.hid (Below.next h4 hb)
  have hz := (d5.next hb).lt
  obtain ⟨k0, k1, _, _⟩ := d3.next hb
  obtain ⟨e0, e1, g0, g1⟩ := d4.next hb
  obtain ⟨i0, i1, j0, j1⟩ := d5.next hb
  clear hb h4 d2 d3 d4 d5
  go_wp2_with (fail)
  refine bodyPost_ret (v := two 0 0 0 0 16) (by simp [results, Tryz.results127, go_sem, e0, e1, i0, i1]; rfl) rfl ⟨rfl, ?_⟩
  exact below_put2 (below_put2 HB.out (c := w.heap.size + 1 + 1) (by omega) _ _) (c := w.heap.size + 1 + 1 + 1) (by omega) _ _
end Go.Proofs.YtcdjincaedpodaaGreatDoor.Ga
/-
  Div, where there is a quotient.
-/
namespace Go.Proofs.YtcdjincaedpodaaGreatDoor.Ga
open Go.ChangeShapes Go.WideShapes Go.ChangeAt Go.RowKit Go.Proofs.YtcdjincaedpodaaGreatDoor.Ov

theorem not_zero {u v : Int} (h : (⟨u, v⟩ : Pt) ≠ Pt.zero) : (u == 0) = false ∨ ((u == 0) = true ∧ (v == 0) = false) := by
  by_cases hu : u = 0
  · exact .inr ⟨beq_iff_eq.2 hu, beq_eq_false_iff_ne.2 fun hv => h (Pt.ext hu hv)⟩
  · exact .inl (beq_eq_false_iff_ne.2 hu)
set_option maxHeartbeats 1000000 in
theorem div_yes {x y u v : Int} (ha : rb ⟨x, y⟩ = true) (hb : rb ⟨u, v⟩ = true) (h0 : (⟨u, v⟩ : Pt) ≠ Pt.zero) (w : World) :
    Calls Tryz.prog 127 #[.agg #[.int .i64 x, .int .i64 y], .agg #[.int .i64 u, .int .i64 v]] w
      (Gives (two (Pt.quo ⟨x, y⟩ ⟨u, v⟩).x (Pt.quo ⟨x, y⟩ ⟨u, v⟩).y (Pt.rest ⟨x, y⟩ ⟨u, v⟩).x (Pt.rest ⟨x, y⟩ ⟨u, v⟩).y 0) w) := by
  have HR := Lib.hid (both_any x y u v); rw [ha, hb] at HR
  have HD := Lib.hid (divide_any ha hb h0)
  have hne := not_zero h0
  clear ha hb h0
  generalize (Pt.quo ⟨x, y⟩ ⟨u, v⟩).x = p at *
  generalize (Pt.quo ⟨x, y⟩ ⟨u, v⟩).y = q at *
  generalize (Pt.rest ⟨x, y⟩ ⟨u, v⟩).x = r at *
  generalize (Pt.rest ⟨x, y⟩ ⟨u, v⟩).y = s at *
  rcases hne with hu | ⟨hu, hv⟩
  all_goals
    go_enter Tryz.func127, Tryz.ntmps127
    go_wp2_with (fail)
    refine (HR.out _).mono ?_
    rintro e w1 ⟨rfl, hb⟩
    obtain ⟨h4, d2, d3, d4, d5⟩ := boxes4 24 (.int .i64 x) (.int .i64 y) (.int .i64 u) (.int .i64 v) (.int .i64 0) (.int .i64 0) (.int .i64 0) (.int .i64 0) w
    have HB := Lib.hid (Below.next h4 hb)
    have D4 := Lib.hid (d4.next hb); have D5 := Lib.hid (d5.next hb)
    obtain ⟨a0, a1, _, _⟩ := d2.next hb
    obtain ⟨b0, b1, _, _⟩ := d3.next hb
    clear hb h4 d2 d3 d4 d5
    go_wp2_with (fail)
    refine (HD.out _).mono ?_
    rintro e w2 ⟨rfl, hb⟩
    obtain ⟨k2, o7, o8⟩ := boxes2 24 (.int .i64 p) (.int .i64 q) (.int .i64 r) (.int .i64 s) w2
    have HB2 := Lib.hid (Below.next (Below.next HB.out hb) k2)
    have F4 := Lib.hid ((D4.out.next hb).next k2)
    have F5 := Lib.hid ((D5.out.next hb).next k2)
    have O7 := Lib.hid o7; have O8 := Lib.hid o8
    have hg : w.heap.size + 1 + 1 + 1 < w2.heap.size := (D5.out.next hb).lt
    have hz := F5.out.lt
    clear hb a0 a1 b0 b1 k2 o7 o8
    go_wp2_with (fail)
    generalize (w2.alloc (.cells #[.int .i64 p, .int .i64 q] 24)).alloc (.cells #[.int .i64 r, .int .i64 s] 24) = w3 at *
    generalize w2.heap.size = g at *
    obtain ⟨a0, a1, _, _⟩ := O7.out
    obtain ⟨b0, b1, _, _⟩ := O8.out
    obtain ⟨e0, e1, g0, g1⟩ := F4.out
    obtain ⟨i0, i1, j0, j1⟩ := F5.out
    go_region
    go_wp2_with (fail)
    refine bodyPost_ret (v := two p q r s 0) (by simp [results, Tryz.results127, go_sem, e0, e1, i0, i1]; rfl) rfl ⟨rfl, ?_⟩
    exact (below_put2 (below_put2 HB2.out (c := w.heap.size + 1 + 1) (by omega) _ _) (c := w.heap.size + 1 + 1 + 1) (by omega) _ _).drew
end Go.Proofs.YtcdjincaedpodaaGreatDoor.Ga
/-
  What strings.Clone answers: the same text; of what was there nothing has turned.
-/
namespace Go.Proofs.YtcdjincaedpodaaGreatDoor.Ov
open Go.ChangeShapes Go.WideShapes Go.ChangeAt Go.RowKit Go.Shelf

def cloneRen : Ren := ⟨fun | 25 => 104 | n => n, fun | 0 => 0 | 3 => 3 | 4 => 4 | 5 => 5 | 9 => 9 | 37 => 141 | 47 => 142 | n => n, fun n => n⟩
theorem cloneLays : LaysPu.n25 Tryz.prog cloneRen :=
  { mixed := by kernel_rfl
    f25 := by kernel_rfl
    t0 := by kernel_rfl
    a0 := fun _ => by kernel_rfl
    z0 := fun _ => by kernel_rfl
    v0 := fun _ => by kernel_rfl
    i0 := by kernel_rfl
    t3 := by kernel_rfl
    a3 := fun _ => by kernel_rfl
    z3 := fun _ => by kernel_rfl
    v3 := fun _ => by kernel_rfl
    i3 := by kernel_rfl
    t4 := by kernel_rfl
    a4 := fun _ => by kernel_rfl
    z4 := fun _ => by kernel_rfl
    v4 := fun _ => by kernel_rfl
    i4 := by kernel_rfl
    t5 := by kernel_rfl
    a5 := fun _ => by kernel_rfl
    z5 := fun _ => by kernel_rfl
    v5 := fun _ => by kernel_rfl
    i5 := by kernel_rfl
    t9 := by kernel_rfl
    a9 := fun _ => by kernel_rfl
    z9 := fun _ => by kernel_rfl
    v9 := fun _ => by kernel_rfl
    i9 := by kernel_rfl
    t37 := by kernel_rfl
    a37 := fun _ => by kernel_rfl
    z37 := fun _ => by kernel_rfl
    v37 := fun _ => by kernel_rfl
    i37 := by kernel_rfl
    t47 := by kernel_rfl
    a47 := fun _ => by kernel_rfl
    z47 := fun _ => by kernel_rfl
    v47 := fun _ => by kernel_rfl
    i47 := by kernel_rfl }
theorem sclone_any (s : ByteArray) (w : World) (hs : s.size ≤ 281474976710656) :
    Calls Tryz.prog 104 #[.string s] w fun e w' => e = .returned (.string s) ∧ Below w.heap.size w w' := AnyPu.stringslite_Clone cloneLays s w hs
set_option maxHeartbeats 400000 in
theorem clone_any (s : ByteArray) (w : World) (hs : s.size ≤ 281474976710656) :
    Calls Tryz.prog 64 #[.string s] w fun e w' => e = .returned (.string s) ∧ Below w.heap.size w w' := by
  go_enter Tryz.func64, Tryz.ntmps64
  go_wp2_with fail
  refine (sclone_any s _ hs).mono ?_
  rintro e w1 ⟨rfl, hb⟩
  have HB := Lib.hid hb; clear hb
  go_wp2_with fail
  go_ret
  exact ⟨rfl, HB.out⟩
end Go.Proofs.YtcdjincaedpodaaGreatDoor.Ov
/-
  The small calls of package eval: values of numbers, texts and points; numbers' sums, products and quotients.
-/
namespace Go.Proofs.YtcdjincaedpodaaGreatDoor.Ev
open Go.ChangeShapes Go.WideShapes Go.ChangeAt Go.RowKit Go.Proofs.YtcdjincaedpodaaGreatDoor.Ov Go.Proofs.YtcdjincaedpodaaGreatDoor.Va Go.Proofs.YtcdjincaedpodaaGreatDoor.Ga

theorem enumber_any (n : Int) (w : World) : Calls Tryz.prog 92 #[.int .i64 n] w (Gives (.agg #[.int .i64 0, .int .i64 n, .string ⟨#[]⟩, .int .i64 0, .int .i64 0]) w) := by
  go_enter Tryz.func92, Tryz.ntmps92
  go_wp2_with (fail)
  refine bodyPost_ret (v := .agg #[.int .i64 0, .int .i64 n, .string ⟨#[]⟩, .int .i64 0, .int .i64 0]) (by simp [results, Tryz.results92, go_sem]) rfl ⟨rfl, ?_⟩
  exact box1 w _
theorem etext_any (s : ByteArray) (w : World) : Calls Tryz.prog 20 #[.string s] w (Gives (.agg #[.int .i64 1, .int .i64 0, .string s, .int .i64 0, .int .i64 0]) w) := by
  go_enter Tryz.func20, Tryz.ntmps20
  go_wp2_with (fail)
  refine bodyPost_ret (v := .agg #[.int .i64 1, .int .i64 0, .string s, .int .i64 0, .int .i64 0]) (by simp [results, Tryz.results20, go_sem]) rfl ⟨rfl, ?_⟩
  exact box1 w _
theorem epoint_any (x y : Int) (w : World) : Calls Tryz.prog 93 #[.agg #[.int .i64 x, .int .i64 y]] w (Gives (.agg #[.int .i64 2, .int .i64 0, .string ⟨#[]⟩, .int .i64 x, .int .i64 y]) w) := by
  go_enter Tryz.func93, Tryz.ntmps93
  go_wp2_with (fail)
  refine bodyPost_ret (v := .agg #[.int .i64 2, .int .i64 0, .string ⟨#[]⟩, .int .i64 x, .int .i64 y]) (by simp [results, Tryz.results93, go_sem]) rfl ⟨rfl, ?_⟩
  exact box2 w _ _
def tri (b : Bool) : Int := if b = true then 1 else 0
theorem etruth_any (b : Bool) (w : World) : Calls Tryz.prog 95 #[.bool b] w (Gives (.agg #[.int .i64 0, .int .i64 (tri b), .string ⟨#[]⟩, .int .i64 0, .int .i64 0]) w) := by
  have h1 := Blk.made w 26 (vcs 0 0 ⟨#[]⟩ 0 0) rfl
  have hb1 := box1 w (.cells (vcs 0 0 ⟨#[]⟩ 0 0).toArray 26)
  have H1 := Lib.hid h1; have HB1 := Lib.hid hb1
  clear h1 hb1
  cases b
  all_goals
    go_enter Tryz.func95, Tryz.ntmps95
    go_wp2_with (fail)
    refine (enumber_any _ _).mono ?_
    rintro e w2 ⟨rfl, hb⟩
    have H2 := Lib.hid (H1.out.next hb)
    have HB2 := Lib.hid (Below.next HB1.out hb)
    have c0 := H2.out.v0; have c1 := H2.out.v1; have c2 := H2.out.v2; have c3 := H2.out.v3; have c4 := H2.out.v4
    have z0 := H2.out.g0; have z1 := H2.out.g1; have z2 := H2.out.g2; have z3 := H2.out.g3; have z4 := H2.out.g4
    clear hb H1 HB1
    go_wp2_with (fail)
  · have h3 := H2.out.all5 (.int .i64 0) (.int .i64 0) (.string ⟨#[]⟩) (.int .i64 0) (.int .i64 0)
    have hb3 := below_all5 HB2.out (b := w.heap.size) (Nat.le_refl _) (.int .i64 0) (.int .i64 0) (.string ⟨#[]⟩) (.int .i64 0) (.int .i64 0)
    clear c0 c1 c2 c3 c4 z0 z1 z2 z3 z4
    generalize ((((w2.setCell ⟨w.heap.size, 0, none⟩ (.int .i64 0)).setCell ⟨w.heap.size, 1, none⟩ (.int .i64 0)).setCell ⟨w.heap.size, 2, none⟩ (.string ⟨#[]⟩)).setCell ⟨w.heap.size, 3, none⟩ (.int .i64 0)).setCell ⟨w.heap.size, 4, none⟩ (.int .i64 0) = w4 at *
    have c0 := h3.c 0 _ rfl; have c1 := h3.c 1 _ rfl; have c2 := h3.c 2 _ rfl; have c3 := h3.c 3 _ rfl; have c4 := h3.c 4 _ rfl
    refine bodyPost_ret (v := .agg #[.int .i64 0, .int .i64 0, .string ⟨#[]⟩, .int .i64 0, .int .i64 0]) (by simp [results, Tryz.results95, go_sem, c0, c1, c2, c3, c4]) rfl ⟨rfl, hb3⟩
  · have h3 := H2.out.all5 (.int .i64 0) (.int .i64 1) (.string ⟨#[]⟩) (.int .i64 0) (.int .i64 0)
    have hb3 := below_all5 HB2.out (b := w.heap.size) (Nat.le_refl _) (.int .i64 0) (.int .i64 1) (.string ⟨#[]⟩) (.int .i64 0) (.int .i64 0)
    clear c0 c1 c2 c3 c4 z0 z1 z2 z3 z4
    generalize ((((w2.setCell ⟨w.heap.size, 0, none⟩ (.int .i64 0)).setCell ⟨w.heap.size, 1, none⟩ (.int .i64 1)).setCell ⟨w.heap.size, 2, none⟩ (.string ⟨#[]⟩)).setCell ⟨w.heap.size, 3, none⟩ (.int .i64 0)).setCell ⟨w.heap.size, 4, none⟩ (.int .i64 0) = w4 at *
    have c0 := h3.c 0 _ rfl; have c1 := h3.c 1 _ rfl; have c2 := h3.c 2 _ rfl; have c3 := h3.c 3 _ rfl; have c4 := h3.c 4 _ rfl
    refine bodyPost_ret (v := .agg #[.int .i64 0, .int .i64 1, .string ⟨#[]⟩, .int .i64 0, .int .i64 0]) (by simp [results, Tryz.results95, go_sem, c0, c1, c2, c3, c4]) rfl ⟨rfl, hb3⟩
/-! ### Of numbers -/
theorem esum_any (a b : Int) (ha : -9007199254740992 ≤ a ∧ a ≤ 9007199254740992) (hb : -9007199254740992 ≤ b ∧ b ≤ 9007199254740992) (w : World) : Calls Tryz.prog 81 #[.int .i64 a, .int .i64 b] w (Gives (.tuple #[.int .i64 (a + b), .int .i64 0]) w) := by
  obtain ⟨ha1, ha2⟩ := ha; obtain ⟨hb1, hb2⟩ := hb
  go_enter Tryz.func81, Tryz.ntmps81
  go_wp2_with (fail)
  go_ret2
  exact ⟨rfl, Below.refl _ _⟩
theorem ediff_any (a b : Int) (ha : -9007199254740992 ≤ a ∧ a ≤ 9007199254740992) (hb : -9007199254740992 ≤ b ∧ b ≤ 9007199254740992) (w : World) : Calls Tryz.prog 83 #[.int .i64 a, .int .i64 b] w (Gives (.tuple #[.int .i64 (a - b), .int .i64 0]) w) := by
  obtain ⟨ha1, ha2⟩ := ha; obtain ⟨hb1, hb2⟩ := hb
  go_enter Tryz.func83, Tryz.ntmps83
  go_wp2_with (fail)
  go_ret2
  exact ⟨rfl, Below.refl _ _⟩
end Go.Proofs.YtcdjincaedpodaaGreatDoor.Ev
/-
  Products, quotients and rests of numbers; quotients and rests of points; what comes out only if it is right.
-/
namespace Go.Proofs.YtcdjincaedpodaaGreatDoor.Ev
open Go.ChangeShapes Go.WideShapes Go.ChangeAt Go.RowKit Go.Proofs.YtcdjincaedpodaaGreatDoor.Ov Go.Proofs.YtcdjincaedpodaaGreatDoor.Va Go.Proofs.YtcdjincaedpodaaGreatDoor.Ga Go.Proofs.YtcdjincaedpodaaGreatDoor.Ex

theorem wrap_in {n : Int} (h : -9223372036854775808 ≤ n ∧ n ≤ 9223372036854775807) : wrap64 n = n := by unfold wrap64; omega
theorem equo_zero (a : Int) (w : World) : Calls Tryz.prog 87 #[.int .i64 a, .int .i64 0] w (Gives (.tuple #[.int .i64 0, .int .i64 16]) w) := by
  go_enter Tryz.func87, Tryz.ntmps87
  go_wp2_with (fail)
  go_ret2
  exact ⟨rfl, Below.refl _ _⟩
theorem tdiv_in {a b : Int} (ha1 : -9007199254740992 ≤ a) (ha2 : a ≤ 9007199254740992) : -9007199254740992 ≤ a.tdiv b ∧ a.tdiv b ≤ 9007199254740992 := by
  have h := Int.natAbs_tdiv a b
  have h2 : (a.tdiv b).natAbs ≤ a.natAbs := by rw [h]; exact Nat.div_le_self _ _
  omega
theorem qf_in {a b : Int} (ha1 : -9007199254740992 ≤ a) (ha2 : a ≤ 9007199254740992) : -9007199254740993 ≤ qf a b ∧ qf a b ≤ 9007199254740992 := by
  have h := tdiv_in (a := a) (b := b) ha1 ha2
  unfold qf; split <;> omega
set_option maxRecDepth 100000 in
theorem equo_any (a b : Int) (ha : -9007199254740992 ≤ a ∧ a ≤ 9007199254740992) (h0 : b ≠ 0) (w : World) : Calls Tryz.prog 87 #[.int .i64 a, .int .i64 b] w (Gives (.tuple #[.int .i64 (qf a b), .int .i64 0]) w) := by
  obtain ⟨ha1, ha2⟩ := ha
  have hq := tdiv_in (a := a) (b := b) ha1 ha2
  have HW : Hid (wrap64 (a.tdiv b) = a.tdiv b) := wrap_in (by omega)
  have HW2 : Hid (wrap64 (a.tdiv b - 1) = a.tdiv b - 1) := wrap_in (by omega)
  clear hq
  have h1 : (b == 0) = false := by simpa using h0
  by_cases hr : a.tmod b = 0
  · have HQ : Hid (qf a b = a.tdiv b) := by show _ = _; unfold qf; rw [if_neg (fun h => h.1 hr)]
    have hr1 : (a.tmod b != 0) = false := by rw [hr]; rfl
    go_enter Tryz.func87, Tryz.ntmps87
    go_wp2_with (fail)
    rw [HW.out]
    go_ret2
    exact ⟨by rw [HQ.out]; rfl, Below.refl _ _⟩
  · have hr1 : (a.tmod b != 0) = true := by simpa using hr
    by_cases hs : ((a < 0) ≠ (b < 0))
    · have HQ : Hid (qf a b = a.tdiv b - 1) := by show _ = _; unfold qf; rw [if_pos ⟨hr, hs⟩]
      have hs1 : (!decide (a < 0) == decide (b < 0)) = true := by
        by_cases x : a < 0 <;> by_cases y : b < 0
        · exact absurd (by simp [x, y]) hs
        · simp [x, y]
        · simp [x, y]
        · exact absurd (by simp [x, y]) hs
      clear hs hr
      go_enter Tryz.func87, Tryz.ntmps87
      go_wp2_with (fail)
      rw [HW.out, HW2.out]
      go_ret2
      exact ⟨by rw [HQ.out]; rfl, Below.refl _ _⟩
    · have HQ : Hid (qf a b = a.tdiv b) := by show _ = _; unfold qf; rw [if_neg (fun h => hs h.2)]
      have hs1 : (!decide (a < 0) == decide (b < 0)) = false := by
        by_cases x : a < 0 <;> by_cases y : b < 0
        · simp [x, y]
        · exact absurd (by simp [x, y]) hs
        · exact absurd (by simp [x, y]) hs
        · simp [x, y]
      clear hs hr
      go_enter Tryz.func87, Tryz.ntmps87
      go_wp2_with (fail)
      rw [HW.out]
      go_ret2
      exact ⟨by rw [HQ.out]; rfl, Below.refl _ _⟩
theorem mul_abs (a b : Int) : max a (-a) * max b (-b) = max (a * b) (-(a * b)) := by
  rcases Int.le_total 0 a with h | h <;> rcases Int.le_total 0 b with g | g
  · rw [Int.max_eq_left (by omega), Int.max_eq_left (by omega), Int.max_eq_left (by have := Int.mul_nonneg h g; omega)]
  · rw [Int.max_eq_left (by omega), Int.max_eq_right (by omega), Int.max_eq_right (by have := Int.mul_nonneg h (show 0 ≤ -b by omega); rw [Int.mul_neg] at this; omega), Int.mul_neg]
  · rw [Int.max_eq_right (by omega), Int.max_eq_left (by omega), Int.max_eq_right (by have := Int.mul_nonneg (show 0 ≤ -a by omega) g; rw [Int.neg_mul] at this; omega), Int.neg_mul]
  · rw [Int.max_eq_right (by omega), Int.max_eq_right (by omega), Int.max_eq_left (by have := Int.mul_nonneg (show 0 ≤ -a by omega) (show 0 ≤ -b by omega); rw [Int.neg_mul_neg] at this; omega), Int.neg_mul_neg]
theorem prod_in {a b : Int} (h0 : b ≠ 0) : max a (-a) ≤ 9007199254740992 / max b (-b) ↔ (-9007199254740992 ≤ a * b ∧ a * b ≤ 9007199254740992) := by
  rw [Int.le_ediv_iff_mul_le (by omega), mul_abs]
  omega
/-- What product answers. -/
def epv (a b : Int) : Value := if -9007199254740992 ≤ a * b ∧ a * b ≤ 9007199254740992 then .tuple #[.int .i64 (a * b), .int .i64 0] else .tuple #[.int .i64 0, .int .i64 14]
theorem eprod_zero (a : Int) (w : World) : Calls Tryz.prog 85 #[.int .i64 a, .int .i64 0] w (Gives (epv a 0) w) := by
  have HE : Hid (epv a 0 = .tuple #[.int .i64 0, .int .i64 0]) := by show _ = _; unfold epv; rw [Int.mul_zero, if_pos (by decide)]
  go_enter Tryz.func85, Tryz.ntmps85
  go_wp2_with (fail)
  go_ret2
  exact ⟨by rw [HE.out]; simp, Below.refl _ _⟩
set_option maxRecDepth 100000 in
theorem eprod_any (a b : Int) (ha : -9007199254740992 ≤ a ∧ a ≤ 9007199254740992) (hb : -9007199254740992 ≤ b ∧ b ≤ 9007199254740992) (w : World) : Calls Tryz.prog 85 #[.int .i64 a, .int .i64 b] w (Gives (epv a b) w) := by
  by_cases h0 : b = 0
  · subst h0; exact eprod_zero a w
  obtain ⟨ha1, ha2⟩ := ha; obtain ⟨hb1, hb2⟩ := hb
  have h1 : (b != 0) = true := by simpa using h0
  by_cases hp : -9007199254740992 ≤ a * b ∧ a * b ≤ 9007199254740992
  · have hm := (prod_in h0).2 hp
    have HE : Hid (epv a b = .tuple #[.int .i64 (a * b), .int .i64 0]) := if_pos hp
    have HW : Hid (wrap64 (a * b) = a * b) := wrap_in (by omega)
    clear hp
    go_enter Tryz.func85, Tryz.ntmps85
    go_wp2_with (fail)
    rw [HW.out]
    go_ret2
    exact ⟨by rw [HE.out]; rfl, Below.refl _ _⟩
  · have hm : 9007199254740992 / max b (-b) < max a (-a) := by
      rcases Int.lt_or_le (9007199254740992 / max b (-b)) (max a (-a)) with h | h
      · exact h
      · exact absurd ((prod_in h0).1 h) hp
    have HE : Hid (epv a b = .tuple #[.int .i64 0, .int .i64 14]) := if_neg hp
    clear hp
    go_enter Tryz.func85, Tryz.ntmps85
    go_wp2_with (fail)
    go_ret2
    exact ⟨by rw [HE.out]; rfl, Below.refl _ _⟩
theorem erest_zero (a : Int) (ha : -9007199254740992 ≤ a ∧ a ≤ 9007199254740992) (w : World) : Calls Tryz.prog 89 #[.int .i64 a, .int .i64 0] w (Gives (.tuple #[.int .i64 a, .int .i64 16]) w) := by
  obtain ⟨ha1, ha2⟩ := ha
  go_enter Tryz.func89, Tryz.ntmps89
  go_wp2_with (fail)
  refine (equo_zero a _).mono ?_
  rintro e w1 ⟨rfl, hb⟩
  have HB := Lib.hid hb; clear hb
  go_wp2_with (fail)
  go_ret2
  exact ⟨by simp, HB.out⟩
set_option maxRecDepth 100000 in
theorem erest_any (a b : Int) (ha : -9007199254740992 ≤ a ∧ a ≤ 9007199254740992) (hb : -9007199254740992 ≤ b ∧ b ≤ 9007199254740992) (h0 : b ≠ 0) (w : World) : Calls Tryz.prog 89 #[.int .i64 a, .int .i64 b] w (Gives (.tuple #[.int .i64 (a - qf a b * b), .int .i64 0]) w) := by
  have HC := Lib.hid (equo_any a b ha h0)
  have hr := qf_rest (a := a) h0
  obtain ⟨q, hq⟩ : ∃ q, qf a b = q := ⟨_, rfl⟩
  rw [hq] at HC hr ⊢
  obtain ⟨ha1, ha2⟩ := ha; obtain ⟨hb1, hb2⟩ := hb
  have HW : Hid (wrap64 (q * b) = q * b) := wrap_in (by generalize q * b = p at *; omega)
  have HW2 : Hid (wrap64 (a - q * b) = a - q * b) := wrap_in (by generalize q * b = p at *; omega)
  clear hr hq
  go_enter Tryz.func89, Tryz.ntmps89
  go_wp2_with (fail)
  refine (HC.out _).mono ?_
  rintro e w1 ⟨rfl, hb⟩
  have HB := Lib.hid hb; clear hb
  go_wp2_with (fail)
  rw [HW.out, HW2.out]
  go_ret2
  exact ⟨rfl, HB.out⟩
end Go.Proofs.YtcdjincaedpodaaGreatDoor.Ev
/-
  Points' quotients and rests; what comes out only if it is right (written by gen_evsmall.py).
-/
namespace Go.Proofs.YtcdjincaedpodaaGreatDoor.Ev
open Go.ChangeShapes Go.WideShapes Go.ChangeAt Go.RowKit Go.Proofs.YtcdjincaedpodaaGreatDoor.Ov Go.Proofs.YtcdjincaedpodaaGreatDoor.Va Go.Proofs.YtcdjincaedpodaaGreatDoor.Ga Go.Proofs.YtcdjincaedpodaaGreatDoor.Ex

theorem esq_zero (x y : Int) (h : rb ⟨x, y⟩ = true) (w : World) : Calls Tryz.prog 88 #[.agg #[.int .i64 x, .int .i64 y], .agg #[.int .i64 0, .int .i64 0]] w (Gives (.tuple #[.agg #[.int .i64 0, .int .i64 0], .int .i64 16]) w) := by
  have HD := Lib.hid (fun w1 => div_zero x y h w1)
  clear h
  unfold two at HD
  go_enter Tryz.func88, Tryz.ntmps88
  go_wp2_with (fail)
  refine (HD.out _).mono ?_
  rintro e w1 ⟨rfl, hb⟩
  obtain ⟨h3, d2, d3, d4⟩ := boxes3 24 (.int .i64 x) (.int .i64 y) (.int .i64 0) (.int .i64 0) (.int .i64 0) (.int .i64 0) w
  have HB := Lib.hid (Below.next h3 hb)
  have hz := (d4.next hb).lt
  have hz2 : w.heap.size + 1 + 1 < w1.heap.size + 1 := by omega
  have H4 := Lib.hid (d4.next hb)
  obtain ⟨e0, e1, g0, g1⟩ := d4.next hb
  clear hb h3 d2 d3 d4
  go_wp2_with (fail)
  have d5 := ((H4.out.set (.int .i64 0) (.int .i64 0)).old (.cells #[.int .i64 0, .int .i64 0] 24)).old (.cells #[.int .i64 0, .int .i64 0] 24)
  have hb5 := ((below_put2 HB.out (c := w.heap.size + 1 + 1) (by omega) (.int .i64 0) (.int .i64 0)).alloc (by have := HB.out.size; simpa using this) (.cells #[.int .i64 0, .int .i64 0] 24)).alloc (by have := HB.out.size; simp; omega) (.cells #[.int .i64 0, .int .i64 0] 24)
  clear e0 e1 g0 g1 H4 HB hz hz2
  generalize (((w1.setCell ⟨w.heap.size + 1 + 1, 0, none⟩ (.int .i64 0)).setCell ⟨w.heap.size + 1 + 1, 1, none⟩ (.int .i64 0)).alloc (.cells #[.int .i64 0, .int .i64 0] 24)).alloc (.cells #[.int .i64 0, .int .i64 0] 24) = w5 at *
  obtain ⟨e0, e1, g0, g1⟩ := d5
  refine bodyPost_ret (v := .tuple #[.agg #[.int .i64 0, .int .i64 0], .int .i64 16]) (by simp [results, Tryz.results88, go_sem, e0, e1]) rfl ⟨rfl, hb5⟩
theorem esq_yes (x y u v : Int) (ha : rb ⟨x, y⟩ = true) (hb : rb ⟨u, v⟩ = true) (h0 : (⟨u, v⟩ : Pt) ≠ Pt.zero) (w : World) : Calls Tryz.prog 88 #[.agg #[.int .i64 x, .int .i64 y], .agg #[.int .i64 u, .int .i64 v]] w (Gives (.tuple #[.agg #[.int .i64 (Pt.quo ⟨x, y⟩ ⟨u, v⟩).x, .int .i64 (Pt.quo ⟨x, y⟩ ⟨u, v⟩).y], .int .i64 0]) w) := by
  have HD := Lib.hid (fun w1 => div_yes ha hb h0 w1)
  generalize (Pt.quo ⟨x, y⟩ ⟨u, v⟩).x = p at *
  generalize (Pt.quo ⟨x, y⟩ ⟨u, v⟩).y = q at *
  generalize (Pt.rest ⟨x, y⟩ ⟨u, v⟩).x = r at *
  generalize (Pt.rest ⟨x, y⟩ ⟨u, v⟩).y = s at *
  clear ha hb h0
  unfold two at HD
  go_enter Tryz.func88, Tryz.ntmps88
  go_wp2_with (fail)
  refine (HD.out _).mono ?_
  rintro e w1 ⟨rfl, hb⟩
  obtain ⟨h3, d2, d3, d4⟩ := boxes3 24 (.int .i64 x) (.int .i64 y) (.int .i64 u) (.int .i64 v) (.int .i64 0) (.int .i64 0) w
  have HB := Lib.hid (Below.next h3 hb)
  have hz := (d4.next hb).lt
  have hz2 : w.heap.size + 1 + 1 < w1.heap.size + 1 := by omega
  have H4 := Lib.hid (d4.next hb)
  obtain ⟨e0, e1, g0, g1⟩ := d4.next hb
  clear hb h3 d2 d3 d4
  go_wp2_with (fail)
  have d5 := ((H4.out.set (.int .i64 p) (.int .i64 q)).old (.cells #[.int .i64 p, .int .i64 q] 24)).old (.cells #[.int .i64 r, .int .i64 s] 24)
  have hb5 := ((below_put2 HB.out (c := w.heap.size + 1 + 1) (by omega) (.int .i64 p) (.int .i64 q)).alloc (by have := HB.out.size; simpa using this) (.cells #[.int .i64 p, .int .i64 q] 24)).alloc (by have := HB.out.size; simp; omega) (.cells #[.int .i64 r, .int .i64 s] 24)
  clear e0 e1 g0 g1 H4 HB hz hz2
  generalize (((w1.setCell ⟨w.heap.size + 1 + 1, 0, none⟩ (.int .i64 p)).setCell ⟨w.heap.size + 1 + 1, 1, none⟩ (.int .i64 q)).alloc (.cells #[.int .i64 p, .int .i64 q] 24)).alloc (.cells #[.int .i64 r, .int .i64 s] 24) = w5 at *
  obtain ⟨e0, e1, g0, g1⟩ := d5
  refine bodyPost_ret (v := .tuple #[.agg #[.int .i64 p, .int .i64 q], .int .i64 0]) (by simp [results, Tryz.results88, go_sem, e0, e1]) rfl ⟨rfl, hb5⟩
theorem esr_zero (x y : Int) (h : rb ⟨x, y⟩ = true) (w : World) : Calls Tryz.prog 90 #[.agg #[.int .i64 x, .int .i64 y], .agg #[.int .i64 0, .int .i64 0]] w (Gives (.tuple #[.agg #[.int .i64 0, .int .i64 0], .int .i64 16]) w) := by
  have HD := Lib.hid (fun w1 => div_zero x y h w1)
  clear h
  unfold two at HD
  go_enter Tryz.func90, Tryz.ntmps90
  go_wp2_with (fail)
  refine (HD.out _).mono ?_
  rintro e w1 ⟨rfl, hb⟩
  obtain ⟨h3, d2, d3, d4⟩ := boxes3 24 (.int .i64 x) (.int .i64 y) (.int .i64 0) (.int .i64 0) (.int .i64 0) (.int .i64 0) w
  have HB := Lib.hid (Below.next h3 hb)
  have hz := (d4.next hb).lt
  have hz2 : w.heap.size + 1 + 1 < w1.heap.size + 1 := by omega
  have H4 := Lib.hid (d4.next hb)
  obtain ⟨e0, e1, g0, g1⟩ := d4.next hb
  clear hb h3 d2 d3 d4
  go_wp2_with (fail)
  have d5 := ((H4.out.set (.int .i64 0) (.int .i64 0)).old (.cells #[.int .i64 0, .int .i64 0] 24)).old (.cells #[.int .i64 0, .int .i64 0] 24)
  have hb5 := ((below_put2 HB.out (c := w.heap.size + 1 + 1) (by omega) (.int .i64 0) (.int .i64 0)).alloc (by have := HB.out.size; simpa using this) (.cells #[.int .i64 0, .int .i64 0] 24)).alloc (by have := HB.out.size; simp; omega) (.cells #[.int .i64 0, .int .i64 0] 24)
  clear e0 e1 g0 g1 H4 HB hz hz2
  generalize (((w1.setCell ⟨w.heap.size + 1 + 1, 0, none⟩ (.int .i64 0)).setCell ⟨w.heap.size + 1 + 1, 1, none⟩ (.int .i64 0)).alloc (.cells #[.int .i64 0, .int .i64 0] 24)).alloc (.cells #[.int .i64 0, .int .i64 0] 24) = w5 at *
  obtain ⟨e0, e1, g0, g1⟩ := d5
  refine bodyPost_ret (v := .tuple #[.agg #[.int .i64 0, .int .i64 0], .int .i64 16]) (by simp [results, Tryz.results90, go_sem, e0, e1]) rfl ⟨rfl, hb5⟩
theorem esr_yes (x y u v : Int) (ha : rb ⟨x, y⟩ = true) (hb : rb ⟨u, v⟩ = true) (h0 : (⟨u, v⟩ : Pt) ≠ Pt.zero) (w : World) : Calls Tryz.prog 90 #[.agg #[.int .i64 x, .int .i64 y], .agg #[.int .i64 u, .int .i64 v]] w (Gives (.tuple #[.agg #[.int .i64 (Pt.rest ⟨x, y⟩ ⟨u, v⟩).x, .int .i64 (Pt.rest ⟨x, y⟩ ⟨u, v⟩).y], .int .i64 0]) w) := by
  have HD := Lib.hid (fun w1 => div_yes ha hb h0 w1)
  generalize (Pt.quo ⟨x, y⟩ ⟨u, v⟩).x = p at *
  generalize (Pt.quo ⟨x, y⟩ ⟨u, v⟩).y = q at *
  generalize (Pt.rest ⟨x, y⟩ ⟨u, v⟩).x = r at *
  generalize (Pt.rest ⟨x, y⟩ ⟨u, v⟩).y = s at *
  clear ha hb h0
  unfold two at HD
  go_enter Tryz.func90, Tryz.ntmps90
  go_wp2_with (fail)
  refine (HD.out _).mono ?_
  rintro e w1 ⟨rfl, hb⟩
  obtain ⟨h3, d2, d3, d4⟩ := boxes3 24 (.int .i64 x) (.int .i64 y) (.int .i64 u) (.int .i64 v) (.int .i64 0) (.int .i64 0) w
  have HB := Lib.hid (Below.next h3 hb)
  have hz := (d4.next hb).lt
  have hz2 : w.heap.size + 1 + 1 < w1.heap.size + 1 := by omega
  have H4 := Lib.hid (d4.next hb)
  obtain ⟨e0, e1, g0, g1⟩ := d4.next hb
  clear hb h3 d2 d3 d4
  go_wp2_with (fail)
  have d5 := ((H4.out.set (.int .i64 r) (.int .i64 s)).old (.cells #[.int .i64 p, .int .i64 q] 24)).old (.cells #[.int .i64 r, .int .i64 s] 24)
  have hb5 := ((below_put2 HB.out (c := w.heap.size + 1 + 1) (by omega) (.int .i64 r) (.int .i64 s)).alloc (by have := HB.out.size; simpa using this) (.cells #[.int .i64 p, .int .i64 q] 24)).alloc (by have := HB.out.size; simp; omega) (.cells #[.int .i64 r, .int .i64 s] 24)
  clear e0 e1 g0 g1 H4 HB hz hz2
  generalize (((w1.setCell ⟨w.heap.size + 1 + 1, 0, none⟩ (.int .i64 r)).setCell ⟨w.heap.size + 1 + 1, 1, none⟩ (.int .i64 s)).alloc (.cells #[.int .i64 p, .int .i64 q] 24)).alloc (.cells #[.int .i64 r, .int .i64 s] 24) = w5 at *
  obtain ⟨e0, e1, g0, g1⟩ := d5
  refine bodyPost_ret (v := .tuple #[.agg #[.int .i64 r, .int .i64 s], .int .i64 0]) (by simp [results, Tryz.results90, go_sem, e0, e1]) rfl ⟨rfl, hb5⟩
/-- What comes out only if it is right. -/
def ifv (k n : Int) (s : ByteArray) (x y e : Int) : Value := if e = 0 then (if rt ⟨k, n, s.data.toList, x, y⟩ = true then .tuple #[.agg #[.int .i64 k, .int .i64 n, .string s, .int .i64 x, .int .i64 y], .int .i64 0] else .tuple #[.agg #[.int .i64 0, .int .i64 0, .string ⟨#[]⟩, .int .i64 0, .int .i64 0], .int .i64 14]) else .tuple #[.agg #[.int .i64 0, .int .i64 0, .string ⟨#[]⟩, .int .i64 0, .int .i64 0], .int .i64 e]
set_option maxHeartbeats 1000000 in
theorem eif_any (k n x y e : Int) (s : ByteArray) (w : World) : Calls Tryz.prog 100 #[.agg #[.int .i64 k, .int .i64 n, .string s, .int .i64 x, .int .i64 y], .int .i64 e] w (Gives (ifv k n s x y e) w) := by
  have hbx : Blk ((w.alloc (.cells #[.int .i64 k, .int .i64 n, .string s, .int .i64 x, .int .i64 y] 26)).alloc (.cells #[.int .i64 0, .int .i64 0, .string ⟨#[]⟩, .int .i64 0, .int .i64 0] 26)) (w.heap.size + 1) (vcs 0 0 ⟨#[]⟩ 0 0) := Blk.made (w.alloc (.cells #[.int .i64 k, .int .i64 n, .string s, .int .i64 x, .int .i64 y] 26)) 26 (vcs 0 0 ⟨#[]⟩ 0 0) (by simp)
  have hby : Blk ((w.alloc (.cells #[.int .i64 k, .int .i64 n, .string s, .int .i64 x, .int .i64 y] 26)).alloc (.cells #[.int .i64 0, .int .i64 0, .string ⟨#[]⟩, .int .i64 0, .int .i64 0] 26)) w.heap.size (vcs k n s x y) := (Blk.made w 26 (vcs k n s x y) rfl).old _
  have hbb := box2 w (.cells #[.int .i64 k, .int .i64 n, .string s, .int .i64 x, .int .i64 y] 26) (.cells #[.int .i64 0, .int .i64 0, .string ⟨#[]⟩, .int .i64 0, .int .i64 0] 26)
  have HX := Lib.hid hbx; have HY := Lib.hid hby; have HB := Lib.hid hbb
  have HR := Lib.hid (right_val k n x y s)
  clear hbx hby hbb
  by_cases h0 : e = 0
  · subst h0
    rcases Bool.eq_false_or_eq_true (rt ⟨k, n, s.data.toList, x, y⟩) with hr | hr
    · have HE : Hid (ifv k n s x y 0 = .tuple #[.agg #[.int .i64 k, .int .i64 n, .string s, .int .i64 x, .int .i64 y], .int .i64 0]) := by show _ = _; unfold ifv; rw [if_pos rfl, if_pos hr]
      rw [hr] at HR; clear hr
      go_enter Tryz.func100, Tryz.ntmps100
      go_wp2_with (fail)
      refine (HR.out _).mono ?_
      rintro e w1 ⟨rfl, hb⟩
      have HX1 := Lib.hid (HX.out.next hb); have HY1 := Lib.hid (HY.out.next hb); have HB1 := Lib.hid (Below.next HB.out hb)
      clear hb HX HY HB HR
      have c0 := HX1.out.v0; have c1 := HX1.out.v1; have c2 := HX1.out.v2; have c3 := HX1.out.v3; have c4 := HX1.out.v4
      have z0 := HX1.out.g0; have z1 := HX1.out.g1; have z2 := HX1.out.g2; have z3 := HX1.out.g3; have z4 := HX1.out.g4
      have y0 := HY1.out.v0; have y1 := HY1.out.v1; have y2 := HY1.out.v2; have y3 := HY1.out.v3; have y4 := HY1.out.v4
      go_wp2_with (fail)
      have h3 := HX1.out.all5 (.int .i64 k) (.int .i64 n) (.string s) (.int .i64 x) (.int .i64 y)
      have hb3 := below_all5 HB1.out (b := w.heap.size + 1) (by omega) (.int .i64 k) (.int .i64 n) (.string s) (.int .i64 x) (.int .i64 y)
      clear c0 c1 c2 c3 c4 z0 z1 z2 z3 z4 y0 y1 y2 y3 y4
      generalize (((((w1.setCell ⟨w.heap.size + 1, 0, none⟩ (.int .i64 k)).setCell ⟨w.heap.size + 1, 1, none⟩ (.int .i64 n)).setCell ⟨w.heap.size + 1, 2, none⟩ (.string s)).setCell ⟨w.heap.size + 1, 3, none⟩ (.int .i64 x)).setCell ⟨w.heap.size + 1, 4, none⟩ (.int .i64 y)) = w4 at *
      have c0 := h3.c 0 _ rfl; have c1 := h3.c 1 _ rfl; have c2 := h3.c 2 _ rfl; have c3 := h3.c 3 _ rfl; have c4 := h3.c 4 _ rfl
      refine bodyPost_ret (v := .tuple #[.agg #[.int .i64 k, .int .i64 n, .string s, .int .i64 x, .int .i64 y], .int .i64 0]) (by simp [results, Tryz.results100, go_sem, c0, c1, c2, c3, c4]) rfl ⟨by rw [HE.out], hb3⟩
    · have HE : Hid (ifv k n s x y 0 = .tuple #[.agg #[.int .i64 0, .int .i64 0, .string ⟨#[]⟩, .int .i64 0, .int .i64 0], .int .i64 14]) := by show _ = _; unfold ifv; rw [if_pos rfl, if_neg (by rw [hr]; decide)]
      rw [hr] at HR; clear hr
      go_enter Tryz.func100, Tryz.ntmps100
      go_wp2_with (fail)
      refine (HR.out _).mono ?_
      rintro e w1 ⟨rfl, hb⟩
      have HX1 := Lib.hid (HX.out.next hb); have HB1 := Lib.hid (Below.next HB.out hb)
      clear hb HX HY HB HR
      have c0 := HX1.out.v0; have c1 := HX1.out.v1; have c2 := HX1.out.v2; have c3 := HX1.out.v3; have c4 := HX1.out.v4
      have z0 := HX1.out.g0; have z1 := HX1.out.g1; have z2 := HX1.out.g2; have z3 := HX1.out.g3; have z4 := HX1.out.g4
      go_wp2_with (fail)
      have h3 := HX1.out.all5 (.int .i64 0) (.int .i64 0) (.string ⟨#[]⟩) (.int .i64 0) (.int .i64 0)
      have hb3 := below_all5 HB1.out (b := w.heap.size + 1) (by omega) (.int .i64 0) (.int .i64 0) (.string ⟨#[]⟩) (.int .i64 0) (.int .i64 0)
      clear c0 c1 c2 c3 c4 z0 z1 z2 z3 z4
      generalize (((((w1.setCell ⟨w.heap.size + 1, 0, none⟩ (.int .i64 0)).setCell ⟨w.heap.size + 1, 1, none⟩ (.int .i64 0)).setCell ⟨w.heap.size + 1, 2, none⟩ (.string ⟨#[]⟩)).setCell ⟨w.heap.size + 1, 3, none⟩ (.int .i64 0)).setCell ⟨w.heap.size + 1, 4, none⟩ (.int .i64 0)) = w4 at *
      have c0 := h3.c 0 _ rfl; have c1 := h3.c 1 _ rfl; have c2 := h3.c 2 _ rfl; have c3 := h3.c 3 _ rfl; have c4 := h3.c 4 _ rfl
      refine bodyPost_ret (v := .tuple #[.agg #[.int .i64 0, .int .i64 0, .string ⟨#[]⟩, .int .i64 0, .int .i64 0], .int .i64 14]) (by simp [results, Tryz.results100, go_sem, c0, c1, c2, c3, c4]) rfl ⟨by rw [HE.out], hb3⟩
  · have HE : Hid (ifv k n s x y e = .tuple #[.agg #[.int .i64 0, .int .i64 0, .string ⟨#[]⟩, .int .i64 0, .int .i64 0], .int .i64 e]) := by show _ = _; unfold ifv; rw [if_neg h0]
    have h1 : (e == 0) = false := by simpa using h0
    have h2 : (e != 0) = true := by simpa using h0
    have HB2 : Hid (Below w.heap.size w _) := Lib.hid HB.out
    clear h0 HR HX HY HB
    go_enter Tryz.func100, Tryz.ntmps100
    go_wp2_with (fail)
    refine bodyPost_ret (v := .tuple #[.agg #[.int .i64 0, .int .i64 0, .string ⟨#[]⟩, .int .i64 0, .int .i64 0], .int .i64 e]) (by simp [results, Tryz.results100, go_sem]) rfl ⟨by rw [HE.out], HB2.out⟩
end Go.Proofs.YtcdjincaedpodaaGreatDoor.Ev
/-
  Of any seat that holds strings.Builder: what WriteString, WriteByte and String answer, by the shelf (laid in plain words; written by gen_lay.py).
-/
namespace Go.Proofs.YtcdjincaedpodaaGreatDoor.Ov
open Go.ChangeShapes Go.WideShapes Go.ChangeAt Go.RowKit Go.Shelf

/-- A builder of the call's own in block b, in which the bytes l lie. -/
def Bld (B b : Nat) (l : List UInt8) (w : World) : Prop := Lib.IsBuilder 159 5 B b (Lib.byteCells l) w
def bwbRen : Ren := ⟨fun | 167 => 152 | 240 => 163 | 276 => 166 | n => n, fun | 0 => 0 | 4 => 4 | 5 => 5 | 9 => 9 | 20 => 20 | 37 => 141 | 70 => 157 | 72 => 159 | 75 => 161 | 80 => 163 | 164 => 169 | n => n, fun n => n⟩
theorem bwbLays : Lays.n167 Tryz.prog bwbRen :=
  { mixed := by kernel_rfl
    f167 := by kernel_rfl
    f240 := by kernel_rfl
    f276 := by kernel_rfl
    t0 := by kernel_rfl
    a0 := fun _ => by kernel_rfl
    z0 := fun _ => by kernel_rfl
    v0 := fun _ => by kernel_rfl
    t4 := by kernel_rfl
    a4 := fun _ => by kernel_rfl
    z4 := fun _ => by kernel_rfl
    v4 := fun _ => by kernel_rfl
    t5 := by kernel_rfl
    a5 := fun _ => by kernel_rfl
    z5 := fun _ => by kernel_rfl
    v5 := fun _ => by kernel_rfl
    t9 := by kernel_rfl
    a9 := fun _ => by kernel_rfl
    z9 := fun _ => by kernel_rfl
    v9 := fun _ => by kernel_rfl
    t20 := by kernel_rfl
    a20 := fun _ => by kernel_rfl
    z20 := fun _ => by kernel_rfl
    v20 := fun _ => by kernel_rfl
    t37 := by kernel_rfl
    a37 := fun _ => by kernel_rfl
    z37 := fun _ => by kernel_rfl
    v37 := fun _ => by kernel_rfl
    t70 := by kernel_rfl
    a70 := fun _ => by kernel_rfl
    z70 := fun _ => by kernel_rfl
    v70 := fun _ => by kernel_rfl
    t72 := by kernel_rfl
    a72 := fun _ => by kernel_rfl
    z72 := fun _ => by kernel_rfl
    v72 := fun _ => by kernel_rfl
    t75 := by kernel_rfl
    a75 := fun _ => by kernel_rfl
    z75 := fun _ => by kernel_rfl
    v75 := fun _ => by kernel_rfl
    t164 := by kernel_rfl
    a164 := fun _ => by kernel_rfl
    z164 := fun _ => by kernel_rfl
    v164 := fun _ => by kernel_rfl }
theorem bwbExtra : Builder.Extra Tryz.prog bwbRen :=
  { sizeBuilder := by kernel_rfl
    liesBuilder := by kernel_rfl
    t5 := by kernel_rfl
    a5 := fun _ => by kernel_rfl
    z5 := fun _ => by kernel_rfl
    v5 := fun _ => by kernel_rfl
    infoByte := by kernel_rfl
    cellsByte := by kernel_rfl
    sizeByte := by kernel_rfl
    neB5 := by decide }
theorem byte_any (B b : Nat) (l : List UInt8) (c : UInt8) (w : World) (h : Bld B b l w) (hlen : l.length + 1 ≤ 140737488355328) (hB : B ≤ w.heap.size) :
    Calls Tryz.prog 152 #[.pointer (some ⟨b, 0, none⟩), .int .u8 (c.toNat : Int)] w fun e w' => e = .returned .nilIface ∧ Bld B b (l ++ [c]) w' ∧ Below B w w' :=
  (Any.Builder_WriteByte bwbLays bwbExtra B b (Lib.byteCells l) (c.toNat : Int) w h (by rw [Lib.byteCells_length]; exact hlen) hB).mono fun _ w' ⟨he, h1, hb⟩ =>
    ⟨he, by
      have e : Lib.byteCells (l ++ [c]) = Lib.byteCells l ++ [.int .u8 (c.toNat : Int)] := by simp [Lib.byteCells]
      rw [← e] at h1
      exact Or.inr h1, hb⟩
def bstRen : Ren := ⟨fun | 169 => 154 | n => n, fun | 0 => 0 | 3 => 3 | 5 => 5 | 9 => 9 | 37 => 141 | 70 => 157 | 72 => 159 | 127 => 142 | n => n, fun n => n⟩
theorem bstLays : Lays.n169 Tryz.prog bstRen :=
  { mixed := by kernel_rfl
    f169 := by kernel_rfl
    t0 := by kernel_rfl
    a0 := fun _ => by kernel_rfl
    z0 := fun _ => by kernel_rfl
    v0 := fun _ => by kernel_rfl
    t3 := by kernel_rfl
    a3 := fun _ => by kernel_rfl
    z3 := fun _ => by kernel_rfl
    v3 := fun _ => by kernel_rfl
    t9 := by kernel_rfl
    a9 := fun _ => by kernel_rfl
    z9 := fun _ => by kernel_rfl
    v9 := fun _ => by kernel_rfl
    t37 := by kernel_rfl
    a37 := fun _ => by kernel_rfl
    z37 := fun _ => by kernel_rfl
    v37 := fun _ => by kernel_rfl
    t70 := by kernel_rfl
    a70 := fun _ => by kernel_rfl
    z70 := fun _ => by kernel_rfl
    v70 := fun _ => by kernel_rfl
    t72 := by kernel_rfl
    a72 := fun _ => by kernel_rfl
    z72 := fun _ => by kernel_rfl
    v72 := fun _ => by kernel_rfl
    t127 := by kernel_rfl
    a127 := fun _ => by kernel_rfl
    z127 := fun _ => by kernel_rfl
    v127 := fun _ => by kernel_rfl }
theorem bstExtra : Builder.Extra Tryz.prog bstRen :=
  { sizeBuilder := by kernel_rfl
    liesBuilder := by kernel_rfl
    t5 := by kernel_rfl
    a5 := fun _ => by kernel_rfl
    z5 := fun _ => by kernel_rfl
    v5 := fun _ => by kernel_rfl
    infoByte := by kernel_rfl
    cellsByte := by kernel_rfl
    sizeByte := by kernel_rfl
    neB5 := by decide }
theorem string_any (B b : Nat) (l : List UInt8) (w : World) (h : Bld B b l w) (hB : B ≤ w.heap.size) :
    Calls Tryz.prog 154 #[.pointer (some ⟨b, 0, none⟩)] w fun e w' => e = .returned (.string (tx l)) ∧ Below B w w' :=
  Any.Builder_String_any bstLays bstExtra B b l w h hB
end Go.Proofs.YtcdjincaedpodaaGreatDoor.Ov
/-
  Of any seat that holds strings.Builder: a builder of the call's own, through calls that make memory.
-/
namespace Go.Proofs.YtcdjincaedpodaaGreatDoor.Ov
open Go.ChangeShapes Go.WideShapes Go.ChangeAt Go.RowKit

theorem Bld.fresh (w : World) : Bld w.heap.size w.heap.size [] (w.alloc (.cells #[.pointer none, .slice none 0 0] 159)) := Lib.fresh_isBuilder _ _ w
theorem Bld.old {B b : Nat} {l : List UInt8} {w w' : World} (h : Bld B b l w) (k : Below w.heap.size w w') : Bld B b l w' := by
  have key : ∀ p, Lib.BuilderAt 159 5 B b p (Lib.byteCells l) w → Lib.BuilderAt 159 5 B b p (Lib.byteCells l) w' := fun p h => by
    have hlt := h.lt
    obtain ⟨hB, v, hb, hown, hne⟩ := h
    refine ⟨hB, v, by rw [k.block b hlt]; exact hb, hown.kept (row := none) ⟨k.os, k.tape, k.output, k.size, fun i hi _ => k.block i hi⟩ ?_, hne⟩
    cases hv : v.ownBlock with
    | none => exact Or.inl rfl
    | some g => exact Or.inr (by simp)
  exact h.elim (fun h => Or.inl (key _ h)) (fun h => Or.inr (key _ h))
theorem Bld.cast {B b : Nat} {l l' : List UInt8} {w : World} (h : Bld B b l w) (e : l = l') : Bld B b l' w := e ▸ h
end Go.Proofs.YtcdjincaedpodaaGreatDoor.Ov
/-
  How a text is written between quotes.
-/
namespace Go.Proofs.YtcdjincaedpodaaGreatDoor.Va
open Go.ChangeShapes Go.WideShapes Go.ChangeAt Go.RowKit Go.Proofs.YtcdjincaedpodaaGreatDoor.Ov

/-- The digits of sixteen. -/
def six : ByteArray := ⟨#[48, 49, 50, 51, 52, 53, 54, 55, 56, 57, 97, 98, 99, 100, 101, 102]⟩
theorem six_at : ∀ i : Fin 16, six.data[i.val]? = some (hx i.val) := by decide
theorem run_six {z : Int} (n : Nat) (h : n < 16) (hz : z = (n : Int)) (w : World) : (Instr.index 9 (.string ⟨#[48, 49, 50, 51, 52, 53, 54, 55, 56, 57, 97, 98, 99, 100, 101, 102]⟩) (.int .u8 z)).run Tryz.prog w = .ok (.int .u8 ((hx n).toNat : Int)) w := by
  subst hz
  have hs : (n : Int) < ((six.size : Nat) : Int) := by show (n : Int) < 16; omega
  refine (run_index_string w 9 six .u8 (n : Int) Tryz.underlying9).trans ?_
  rw [dif_pos ⟨by omega, hs⟩]
  have e : six[((n : Int)).toNat]'(by omega) = hx n := by
    have := six_at ⟨n, h⟩
    rw [Array.getElem?_eq_some_iff] at this
    obtain ⟨hlt, he⟩ := this
    rw [← he]
    simp only [Int.toNat_natCast]
    rfl
  rw [e]
theorem esc_take (s : ByteArray) (k : Nat) (h : k < s.size) : esc (s.data.toList.take (k + 1)) = esc (s.data.toList.take k) ++ e1 s[k] := by
  rw [take_snoc s k h, esc_append]; unfold esc; simp
set_option maxRecDepth 100000 in
set_option maxHeartbeats 1000000 in
theorem writeText_any (s : ByteArray) (w : World) (hs : s.size ≤ 4096) :
    Calls Tryz.prog 132 #[.string s] w (Gives (.string (tx (34 :: (esc s.data.toList ++ [34])))) w) := by
  go_enter Tryz.func132, Tryz.ntmps132
  go_wp2_with (fail)
  have D0 := Lib.hid (Bld.fresh w)
  have HB0 := Lib.hid (box1 w (.cells #[.pointer none, .slice none 0 0] 159))
  generalize w.alloc (.cells #[.pointer none, .slice none 0 0] 159) = w0 at *
  refine (byte_any w.heap.size w.heap.size [] 34 _ D0.out (by simp) HB0.out.size).mono ?_
  rintro e w1 ⟨rfl, hd, hb⟩
  have D1 := Lib.hid hd
  have HB1 := Lib.hid (HB0.out.trans hb)
  clear hd hb D0 HB0
  go_wp2_with (fail)
  go_loopw [8] (fun i wr => ∃ k : Nat, k ≤ s.size ∧ i = .int .i64 (k : Int) ∧ Bld w.heap.size w.heap.size (34 :: esc (s.data.toList.take k)) wr ∧ Below w.heap.size w wr) (fun i _ => s.size - (intOf i).toNat)
  case atStart => exact ⟨0, Nat.zero_le _, rfl, D1.out, HB1.out⟩
  case round =>
    obtain ⟨k, hk, rfl, hd, hb⟩ := hrel
    have D1 := Lib.hid hd; have HB1 := Lib.hid hb; clear hd hb
    have hlen : (esc (s.data.toList.take k)).length ≤ 12288 := by
      have h1 := esc_le (s.data.toList.take k)
      have h2 : (s.data.toList.take k).length ≤ k := List.length_take_le _ _
      omega
    by_cases hlt : k < s.size
    · have HS := Lib.hid (esc_take s k hlt)
      obtain ⟨c, hc⟩ : ∃ c : UInt8, s[k] = c := ⟨_, rfl⟩
      rw [hc] at HS
      have HP := Lib.hid (plain_any c)
      have hcl := c.toNat_lt
      by_cases hp : pl c = true
      · have HE : Hid (e1 c = [c]) := if_pos hp
        rw [hp] at HP; clear hp
        generalize esc (s.data.toList.take k) = l at *
        go_wp2_with (fail)
        refine (HP.out _).mono ?_
        rintro e w' ⟨rfl, rfl⟩
        go_wp2_with (fail)
        refine (byte_any w.heap.size w.heap.size _ c _ D1.out (by simp; omega) HB1.out.size).mono ?_
        rintro e w2 ⟨rfl, hd, hb⟩
        have D2 := Lib.hid hd
        have HB2 := Lib.hid (HB1.out.trans hb)
        clear hd hb D1 HB1
        go_wp2_with (fail)
        go_roundw
        case rel => exact ⟨k + 1, by omega, by go_num, D2.out.cast (by rw [HS.out, HE.out]; rfl), HB2.out⟩
        case measure => simp [intOf]; omega
      · have hp' : pl c = false := by simpa using hp
        have HE : Hid (e1 c = [92, hx (c.toNat / 16), hx (c.toNat % 16)]) := if_neg hp
        rw [hp'] at HP; clear hp hp'
        have hx1 := run_six (z := (c.toNat : Int) / 16) (c.toNat / 16) (by omega) (by omega)
        have hx2 := run_six (z := (c.toNat : Int) % 16) (c.toNat % 16) (by omega) (by omega)
        generalize esc (s.data.toList.take k) = l at *
        go_wp2_with (fail)
        refine (HP.out _).mono ?_
        rintro e w' ⟨rfl, rfl⟩
        go_wp2_with (fail)
        refine (byte_any w.heap.size w.heap.size _ 92 _ D1.out (by simp; omega) HB1.out.size).mono ?_
        rintro e w2 ⟨rfl, hd, hb⟩
        have D2 := Lib.hid hd
        have HB2 := Lib.hid (HB1.out.trans hb)
        clear hd hb D1 HB1
        go_wp2_with (fail)
        refine (byte_any w.heap.size w.heap.size _ (hx (c.toNat / 16)) _ D2.out (by simp; omega) HB2.out.size).mono ?_
        rintro e w3 ⟨rfl, hd, hb⟩
        have D3 := Lib.hid hd
        have HB3 := Lib.hid (HB2.out.trans hb)
        clear hd hb D2 HB2
        go_wp2_with (fail)
        refine (byte_any w.heap.size w.heap.size _ (hx (c.toNat % 16)) _ D3.out (by simp; omega) HB3.out.size).mono ?_
        rintro e w4 ⟨rfl, hd, hb⟩
        have D4 := Lib.hid hd
        have HB4 := Lib.hid (HB3.out.trans hb)
        clear hd hb D3 HB3
        go_wp2_with (fail)
        go_roundw
        case rel => exact ⟨k + 1, by omega, by go_num, D4.out.cast (by rw [HS.out, HE.out]; simp), HB4.out⟩
        case measure => simp [intOf]; omega
    · have HT : Hid (s.data.toList.take k = s.data.toList) := List.take_of_length_le (by simp; omega)
      rw [HT.out] at D1 hlen
      generalize esc s.data.toList = l at *
      go_wp2_with (fail)
      refine (byte_any w.heap.size w.heap.size _ 34 _ D1.out (by simp; omega) HB1.out.size).mono ?_
      rintro e w2 ⟨rfl, hd, hb⟩
      have D2 := Lib.hid hd
      have HB2 := Lib.hid (HB1.out.trans hb)
      clear hd hb D1 HB1
      go_wp2_with (fail)
      refine (string_any _ _ _ _ D2.out HB2.out.size).mono ?_
      rintro e w3 ⟨rfl, hb⟩
      have HB3 := Lib.hid (HB2.out.trans hb)
      clear hb
      go_wp2_with (fail)
      go_ret
      exact ⟨rfl, HB3.out⟩
end Go.Proofs.YtcdjincaedpodaaGreatDoor.Va
/-
  How a value is written.
-/
namespace Go.Proofs.YtcdjincaedpodaaGreatDoor.Va
open Go.ChangeShapes Go.WideShapes Go.ChangeAt Go.RowKit Go.Proofs.YtcdjincaedpodaaGreatDoor.Ov Go.Proofs.YtcdjincaedpodaaGreatDoor.Ga Go.Proofs.YtcdjincaedpodaaGreatDoor.Tp

set_option maxHeartbeats 1000000 in
theorem write_no {k n x y : Int} {s : ByteArray} (h : rt ⟨k, n, s.data.toList, x, y⟩ = false) (w : World) : Calls Tryz.prog 99 #[.agg #[.int .i64 k, .int .i64 n, .string s, .int .i64 x, .int .i64 y]] w (Gives (.string ⟨#[]⟩) w) := by
  have HR := Lib.hid (right_val k n x y s); rw [h] at HR; clear h
  go_enter Tryz.func99, Tryz.ntmps99
  go_wp2_with (fail)
  have kb := box1 w (.cells #[.int .i64 k, .int .i64 n, .string s, .int .i64 x, .int .i64 y] 26)
  have D := Blk.made w 26 (vcs k n s x y) rfl
  change Blk (w.alloc (.cells #[.int .i64 k, .int .i64 n, .string s, .int .i64 x, .int .i64 y] 26)) w.heap.size _ at D
  generalize w.alloc (.cells #[.int .i64 k, .int .i64 n, .string s, .int .i64 x, .int .i64 y] 26) = v at *
  refine (HR.out _).mono ?_
  rintro e w1 ⟨rfl, hb⟩
  have HB := Lib.hid (Below.next kb hb)
  have D1 := Lib.hid (D.next hb)
  clear hb kb D
  have c0 := D1.out.v0; have c1 := D1.out.v1; have c2 := D1.out.v2; have c3 := D1.out.v3; have c4 := D1.out.v4
  go_wp2_with (fail)
  go_ret
  exact ⟨rfl, HB.out⟩
set_option maxHeartbeats 1000000 in
theorem write_text {n x y : Int} {s : ByteArray} (h : rt ⟨1, n, s.data.toList, x, y⟩ = true) (w : World) : Calls Tryz.prog 99 #[.agg #[.int .i64 1, .int .i64 n, .string s, .int .i64 x, .int .i64 y]] w (Gives (.string (tx (wr ⟨1, n, s.data.toList, x, y⟩))) w) := by
  have hs : s.size ≤ 4096 := by
    have := rt_yes h
    simp at this; exact this.2.1
  have HR := Lib.hid (right_val 1 n x y s); rw [h] at HR; clear h
  have HT := Lib.hid (fun w => writeText_any s w hs)
  rw [wr_text]
  generalize tx (34 :: (esc s.data.toList ++ [34])) = t at *
  go_enter Tryz.func99, Tryz.ntmps99
  go_wp2_with (fail)
  have kb := box1 w (.cells #[.int .i64 1, .int .i64 n, .string s, .int .i64 x, .int .i64 y] 26)
  have D := Blk.made w 26 (vcs 1 n s x y) rfl
  change Blk (w.alloc (.cells #[.int .i64 1, .int .i64 n, .string s, .int .i64 x, .int .i64 y] 26)) w.heap.size _ at D
  generalize w.alloc (.cells #[.int .i64 1, .int .i64 n, .string s, .int .i64 x, .int .i64 y] 26) = v at *
  refine (HR.out _).mono ?_
  rintro e w1 ⟨rfl, hb⟩
  have HB := Lib.hid (Below.next kb hb)
  have D1 := Lib.hid (D.next hb)
  clear hb kb D
  have c0 := D1.out.v0; have c1 := D1.out.v1; have c2 := D1.out.v2; have c3 := D1.out.v3; have c4 := D1.out.v4
  go_wp2_with (fail)
  clear c0 c1 c2 c3 c4
  refine (HT.out _).mono ?_
  rintro e w2 ⟨rfl, hb⟩
  have HB2 := Lib.hid (Below.next HB.out hb)
  clear hb
  go_wp2_with (fail)
  go_ret
  exact ⟨rfl, HB2.out⟩
theorem itoa_le (n : Int) (h : -9007199254740992 ≤ n ∧ n ≤ 9007199254740992) : (tx (Lib.itoa n)).size ≤ 21 := by
  rw [tx_size]; exact Lib.itoa_length_le n (by omega) (by omega)
set_option maxHeartbeats 1000000 in
theorem write_int {n x y : Int} {s : ByteArray} (h : rt ⟨0, n, s.data.toList, x, y⟩ = true) (w : World) (ht : Tab w) : Calls Tryz.prog 99 #[.agg #[.int .i64 0, .int .i64 n, .string s, .int .i64 x, .int .i64 y]] w (Gives (.string (tx (wr ⟨0, n, s.data.toList, x, y⟩))) w) := by
  have hr : -9007199254740992 ≤ n ∧ n ≤ 9007199254740992 := by
    rw [rt_int, Bool.and_eq_true, Bool.and_eq_true, decide_eq_true_eq, decide_eq_true_eq] at h; exact h.2
  have HR := Lib.hid (right_val 0 n x y s); rw [h] at HR; clear h
  have HT := Lib.hid ht; clear ht
  have HI := Lib.hid (itoa_any n (by omega) (by omega))
  clear hr
  rw [wr_int]
  generalize tx (Lib.itoa n) = t at *
  go_enter Tryz.func99, Tryz.ntmps99
  go_wp2_with (fail)
  have kb := box1 w (.cells #[.int .i64 0, .int .i64 n, .string s, .int .i64 x, .int .i64 y] 26)
  have D := Blk.made w 26 (vcs 0 n s x y) rfl
  change Blk (w.alloc (.cells #[.int .i64 0, .int .i64 n, .string s, .int .i64 x, .int .i64 y] 26)) w.heap.size _ at D
  generalize w.alloc (.cells #[.int .i64 0, .int .i64 n, .string s, .int .i64 x, .int .i64 y] 26) = v at *
  refine (HR.out _).mono ?_
  rintro e w1 ⟨rfl, hb⟩
  have HB := Lib.hid (Below.next kb hb)
  have D1 := Lib.hid (D.next hb)
  clear hb kb D
  have c0 := D1.out.v0; have c1 := D1.out.v1; have c2 := D1.out.v2; have c3 := D1.out.v3; have c4 := D1.out.v4
  go_wp2_with (fail)
  clear c0 c1 c2 c3 c4
  refine (HI.out _ (HT.out.next HB.out)).mono ?_
  rintro e w2 ⟨rfl, hb⟩
  have HB2 := Lib.hid (Below.next HB.out hb)
  clear hb
  go_wp2_with (fail)
  go_ret
  exact ⟨rfl, HB2.out⟩
set_option maxHeartbeats 1000000 in
theorem write_point {n x y : Int} {s : ByteArray} (h : rt ⟨2, n, s.data.toList, x, y⟩ = true) (w : World) (ht : Tab w) : Calls Tryz.prog 99 #[.agg #[.int .i64 2, .int .i64 n, .string s, .int .i64 x, .int .i64 y]] w (Gives (.string (tx (wr ⟨2, n, s.data.toList, x, y⟩))) w) := by
  have hr := rb_xy (by rw [rt_point, Bool.and_eq_true] at h; exact h.2 : rb ⟨x, y⟩ = true)
  have HR := Lib.hid (right_val 2 n x y s); rw [h] at HR; clear h
  have HT := Lib.hid ht; clear ht
  have HA := Lib.hid (itoa_any x (by omega) (by omega))
  have HC := Lib.hid (itoa_any y (by omega) (by omega))
  have z2 := itoa_le x (by omega)
  have z3 := itoa_le y (by omega)
  clear hr
  have HE : Hid (tx (Lib.itoa x) ++ ⟨#[58]⟩ ++ tx (Lib.itoa y) = tx (wr ⟨2, n, s.data.toList, x, y⟩)) := by
    show _ = _
    rw [wr_point, show (⟨#[58]⟩ : ByteArray) = tx [58] from rfl, tx_append, tx_append]
  generalize tx (Lib.itoa x) = a at *
  generalize tx (Lib.itoa y) = b at *
  have g1 : ¬ a.size + 1 > 9223372036854775807 := by omega
  have g2 : ¬ a.size + 1 + b.size > 9223372036854775807 := by omega
  clear z2 z3
  go_enter Tryz.func99, Tryz.ntmps99
  go_wp2_with (fail)
  have kb := box1 w (.cells #[.int .i64 2, .int .i64 n, .string s, .int .i64 x, .int .i64 y] 26)
  have D := Blk.made w 26 (vcs 2 n s x y) rfl
  change Blk (w.alloc (.cells #[.int .i64 2, .int .i64 n, .string s, .int .i64 x, .int .i64 y] 26)) w.heap.size _ at D
  generalize w.alloc (.cells #[.int .i64 2, .int .i64 n, .string s, .int .i64 x, .int .i64 y] 26) = v at *
  refine (HR.out _).mono ?_
  rintro e w1 ⟨rfl, hb⟩
  have HB := Lib.hid (Below.next kb hb)
  have D1 := Lib.hid (D.next hb)
  clear hb kb D
  have c0 := D1.out.v0; have c1 := D1.out.v1; have c2 := D1.out.v2; have c3 := D1.out.v3; have c4 := D1.out.v4
  go_wp2_with (fail)
  clear c0 c1 c2 c3 c4
  have KA := Lib.hid (fun q : Over w1 => HA.out q.val ((HT.out.next HB.out).next q.property))
  have KC := Lib.hid (fun q : Over w1 => HC.out q.val ((HT.out.next HB.out).next q.property))
  have D2 := D1.out
  have k3 := fun r : Over w1 => (D2.over r).v3
  have k4 := fun r : Over w1 => (D2.over r).v4
  clear D2
  refine wp_over (by kernel_rfl) (by kernel_rfl) ?_
  repeat (go_big_quiet_step (first | fail | with_reducible exact over_gives _ (KA.out _) | with_reducible exact over_gives _ (KC.out _)))
  refine wpQuiet_nil ?_
  rintro w3 ⟨⟨w3, hb⟩, rfl⟩
  have HB3 := Lib.hid (Below.next HB.out hb)
  clear hb k3 k4
  go_wp2_with (fail)
  go_ret
  exact ⟨ret_str HE.out, HB3.out⟩
theorem write_yes {k n x y : Int} {s : ByteArray} (h : rt ⟨k, n, s.data.toList, x, y⟩ = true) (w : World) (ht : Tab w) : Calls Tryz.prog 99 #[.agg #[.int .i64 k, .int .i64 n, .string s, .int .i64 x, .int .i64 y]] w (Gives (.string (tx (wr ⟨k, n, s.data.toList, x, y⟩))) w) := by
  by_cases h0 : k = 0
  · subst h0; exact write_int h w ht
  by_cases h1 : k = 1
  · subst h1; exact write_text h w
  by_cases h2 : k = 2
  · subst h2; exact write_point h w ht
  rw [rt_kind n x y _ h0 h1 h2] at h; cases h
end Go.Proofs.YtcdjincaedpodaaGreatDoor.Va

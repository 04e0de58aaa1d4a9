/-
  Small texts of this claim, together: OvBase, OvStrs, OvTurn, OvBlk, OvKp, DkArg, OvText, OvRowB, DkMath, DkMem, DkRoom, DkRead, DkSpoil, OvClone, OvSorted, OvOwn, OvJump, OvStep, OvTail, OvHead.
-/
import Derived.Test.YtchmepalhldpcaaRows
import Derived.WalkKit
import Derived.ProofKit
import Derived.OpenShut
import Derived.WalkMore
import Derived.ScopeJumps
import Derived.Deep.QuietTactic
import Derived.BigQuiet
import Derived.Lib.Hide
import Derived.Deep.LoopGhost
import Derived.Deep.OwnRows
import Derived.Laws.CopyOwn
import Derived.Carry
import Derived.Lib.SlBytesRow
import Derived.Deep.Strs
import Derived.Deep.Slices
import Derived.DataReads
import Derived.Lib.SmallJoins
import Derived.Lib.ConvBytes
import Derived.Sort.KeysCollected
import Derived.Maps.RangeWalk
import Derived.WideMake
import Derived.Laws.BytesArg
import Derived.Shelf.Pu.Clone
import Derived.Shelf.SlIter.Nil
import Derived.Shelf.SortM.Plain
import Derived.Shelf.SortM.SortNone
import Derived.Deep.RegionLaw
import Derived.Maps.AppendAt
import Derived.ControlIn
import Derived.StillTail
import Derived.Deep.RegionHeld
namespace Go.Proofs.Ytchmepalhldpcaa.Ov
open Go.ChangeShapes Go.WideShapes Go.ChangeAt Go.RowKit
theorem below_drewN {B : Nat} {w w' : World} (h : Below B w w') (m : Nat) : Below B w (w'.drewN m) := ⟨h.os, h.tape, h.output, h.size, h.block⟩
theorem Below.next {w w1 w2 : World} (h : Below w.heap.size w w1) (k : Below w1.heap.size w1 w2) : Below w.heap.size w w2 := h.trans (k.mono h.size)
def Over (w : World) : Type := { x : World // Below w.heap.size w x }
instance (w : World) : Nonempty (Over w) := ⟨⟨w, Below.refl _ _⟩⟩
section
variable {w : World}
theorem over_cell (q : Over w) {p : Addr} {v : Value} (h : w.cell? p = some v) : q.val.cell? p = some v := by
 rw [q.property.cell (p := p) (block_lt_of_cell h)]; exact h
theorem over_make {P : Program} {f : FuncId} {args : Array Value} {v : Value} (q : Over w) (h : Calls P f args q.val fun e w' => e = .returned v ∧ Below q.val.heap.size q.val w') :
 Calls P f args q.val fun e w' => e = .returned v ∧ ∃ q' : Over w, w' = q'.val :=
 h.mono fun _ w' ⟨he, hb⟩ => ⟨he, ⟨w', Below.next q.property hb⟩, rfl⟩
end
def Gives (v : Value) (w : World) (e : Ending) (w' : World) : Prop := e = .returned v ∧ Below w.heap.size w w'
theorem over_gives {P : Program} {f : FuncId} {args : Array Value} {v : Value} {w : World} (q : Over w) (h : Calls P f args q.val (Gives v q.val)) :
 Calls P f args q.val fun e w' => e = .returned v ∧ ∃ q' : Over w, w' = q'.val := over_make q h
def tx (l : List UInt8) : ByteArray := ⟨l.toArray⟩
theorem tx_list (l : List UInt8) : (tx l).data.toList = l := by simp [tx]
theorem tx_size (l : List UInt8) : (tx l).size = l.length := by simp [tx, ByteArray.size]
theorem tx_of (s : ByteArray) : tx s.data.toList = s := by simp [tx]
section
variable {w w0 wr wr' : World} {B : Nat} {ty : TypeId} {n : Nat} {f : Nat → Value} {z : Value} {k : Nat}
end
theorem bits_xor_u8 (a b : Nat) (ha : a < 256) (hb : b < 256) : bits .xor .u8 (a : Int) (b : Int) = ((a ^^^ b : Nat) : Int) := by
 have hx : a ^^^ b < 2 ^ 8 := Nat.xor_lt_two_pow (by omega) (by omega)
 show IntKind.u8.wrap ((BitVec.ofInt 8 (a : Int) ^^^ BitVec.ofInt 8 (b : Int)).toNat : Int) = _
 rw [BitVec.toNat_xor, BitVec.toNat_ofInt, BitVec.toNat_ofInt, IntKind.wrap_u8]
 have e1 : ((a : Int) % ((2 ^ 8 : Nat) : Int)).toNat = a := by omega
 have e2 : ((b : Int) % ((2 ^ 8 : Nat) : Int)).toNat = b := by omega
 rw [e1, e2]; omega
def Strs (w : World) (p : Option Addr) (n : Nat) (t : Nat → ByteArray) : Prop :=
 0 < n → ∃ B O, p = some ⟨B, O, none⟩ ∧ ∀ i, i < n → w.cell? ⟨B, O + i, none⟩ = some (.string (t i))
section
variable {w w' : World} {p : Option Addr} {n : Nat} {t t' : Nat → ByteArray}
theorem Strs.below {B : Nat} (h : Strs w p n t) (hB : ∀ b, b < w.heap.size → b < B) (k : Below B w w') : Strs w' p n t := fun hn => by
 obtain ⟨b, O, e, hc⟩ := h hn
 exact ⟨b, O, e, fun i hi => by rw [k.cell (p := ⟨b, O + i, none⟩) (hB _ (block_lt_of_cell (hc i hi)))]; exact hc i hi⟩
theorem Strs.old (h : Strs w p n t) (k : Below w.heap.size w w') : Strs w' p n t := h.below (fun _ hb => hb) k
end
theorem at_plain {w : World} {a : Addr} {v : Value} (h : w.cell? a = some v) : a = ⟨a.block, a.off, none⟩ := by
 obtain ⟨b, off, spot⟩ := a
 have hspot : spot = none := World.cell?_spot h
 subst hspot; rfl
section
variable {w w' w'' : World} {b : Nat}
variable {t : TypeId} {v u : Value}
end
structure Blk (w : World) (b : Nat) (vs : List Value) : Prop where
 c : ∀ (i : Nat) (v : Value), vs[i]? = some v → w.cell? ⟨b, i, none⟩ = some v
 f : ∀ (i : Nat) (v : Value), vs[i]? = some v → w.frozen? ⟨b, i, none⟩ = false
 lt : b < w.heap.size
section
variable {w w' : World} {b : Nat} {vs : List Value}
theorem Blk.next (h : Blk w b vs) (k : Below w.heap.size w w') : Blk w' b vs :=
 ⟨fun i v e => (k.cell (p := ⟨b, i, none⟩) h.lt).trans (h.c i v e), fun i v e => (k.frozen (p := ⟨b, i, none⟩) h.lt).trans (h.f i v e), Nat.lt_of_lt_of_le h.lt k.size⟩
theorem Blk.old (h : Blk w b vs) (o : Obj) : Blk (w.alloc o) b vs := h.next ((Below.refl _ _).alloc (Nat.le_refl _) _)
theorem Blk.drew (h : Blk w b vs) : Blk w.drew b vs := ⟨h.c, h.f, h.lt⟩
theorem Blk.put (h : Blk w b vs) {c : Nat} (hc : c ≠ b) (o : Nat) (z : Value) : Blk (w.setCell ⟨c, o, none⟩ z) b vs :=
 ⟨fun i v e => by rw [World.cell?_setCell_other _ _ _ _ (fun e => hc (congrArg Addr.block e))]; exact h.c i v e,
  fun i v e => by rw [World.frozen?_setCell]; exact h.f i v e, by simpa using h.lt⟩
theorem Blk.set (h : Blk w b vs) (o : Nat) (z : Value) : Blk (w.setCell ⟨b, o, none⟩ z) b (vs.set o z) := by
 refine ⟨fun i v e => ?_, fun i v e => ?_, by simpa using h.lt⟩
 · by_cases ho : o = i
   · subst ho
     have hlt : o < vs.length := by
      have := (List.getElem?_eq_some_iff.1 e).1
      simpa using this
     rw [List.getElem?_set_self hlt] at e
     obtain rfl := Option.some.inj e
     exact World.cell?_setCell_same _ _ _ (h.c o vs[o] (List.getElem?_eq_getElem hlt))
   · rw [List.getElem?_set_ne ho] at e
     rw [World.cell?_setCell_other _ _ _ _ (fun e => ho (by injection e))]
     exact h.c i v e
 · rw [World.frozen?_setCell]
   by_cases ho : o = i
   · subst ho
     have hlt : o < vs.length := by
      have := (List.getElem?_eq_some_iff.1 e).1
      simpa using this
     exact h.f o vs[o] (List.getElem?_eq_getElem hlt)
   · rw [List.getElem?_set_ne ho] at e
     exact h.f i v e
theorem Blk.made (w : World) (t : TypeId) (vs : List Value) {n : Nat} (hn : w.heap.size = n) : Blk (w.alloc (.cells vs.toArray t)) n vs := by
 subst hn
 exact ⟨fun i v e => by simpa [World.cell?_alloc_new] using e, fun i v _ => by simp [World.frozen?_alloc_new], by simp⟩
theorem Blk.cast {us : List Value} (h : Blk w b vs) (e : vs = us) : Blk w b us := e ▸ h
end
theorem box1 (w : World) (a : Obj) : Below w.heap.size w (w.alloc a) := (Below.refl _ _).alloc (Nat.le_refl _) _
theorem box2 (w : World) (a b : Obj) : Below w.heap.size w ((w.alloc a).alloc b) := (box1 w a).alloc (by simp) _
theorem box3 (w : World) (a b c : Obj) : Below w.heap.size w (((w.alloc a).alloc b).alloc c) := (box2 w a b).alloc (by simp; omega) _
end Go.Proofs.Ytchmepalhldpcaa.Ov
namespace Go.Proofs.Ytchmepalhldpcaa
open Go
theorem ck5 {w : World} {b : Nat} {x0 x1 x2 x3 x4 : Value} {t : List Value} (h : Ov.Blk w b (x0 :: x1 :: x2 :: x3 :: x4 :: t)) : w.cell? ⟨b, 0, none⟩ = some x0 ∧ w.cell? ⟨b, 1, none⟩ = some x1 ∧ w.cell? ⟨b, 2, none⟩ = some x2 ∧ w.cell? ⟨b, 3, none⟩ = some x3 ∧ w.cell? ⟨b, 4, none⟩ = some x4 :=
 ⟨h.c 0 _ rfl, h.c 1 _ rfl, h.c 2 _ rfl, h.c 3 _ rfl, h.c 4 _ rfl⟩
theorem ck6 {w : World} {b : Nat} {x0 x1 x2 x3 x4 x5 : Value} {t : List Value} (h : Ov.Blk w b (x0 :: x1 :: x2 :: x3 :: x4 :: x5 :: t)) : w.cell? ⟨b, 0, none⟩ = some x0 ∧ w.cell? ⟨b, 1, none⟩ = some x1 ∧ w.cell? ⟨b, 2, none⟩ = some x2 ∧ w.cell? ⟨b, 3, none⟩ = some x3 ∧ w.cell? ⟨b, 4, none⟩ = some x4 ∧ w.cell? ⟨b, 5, none⟩ = some x5 :=
 ⟨h.c 0 _ rfl, h.c 1 _ rfl, h.c 2 _ rfl, h.c 3 _ rfl, h.c 4 _ rfl, h.c 5 _ rfl⟩
theorem ck7 {w : World} {b : Nat} {x0 x1 x2 x3 x4 x5 x6 : Value} {t : List Value} (h : Ov.Blk w b (x0 :: x1 :: x2 :: x3 :: x4 :: x5 :: x6 :: t)) : w.cell? ⟨b, 0, none⟩ = some x0 ∧ w.cell? ⟨b, 1, none⟩ = some x1 ∧ w.cell? ⟨b, 2, none⟩ = some x2 ∧ w.cell? ⟨b, 3, none⟩ = some x3 ∧ w.cell? ⟨b, 4, none⟩ = some x4 ∧ w.cell? ⟨b, 5, none⟩ = some x5 ∧ w.cell? ⟨b, 6, none⟩ = some x6 :=
 ⟨h.c 0 _ rfl, h.c 1 _ rfl, h.c 2 _ rfl, h.c 3 _ rfl, h.c 4 _ rfl, h.c 5 _ rfl, h.c 6 _ rfl⟩
theorem ck11 {w : World} {b : Nat} {x0 x1 x2 x3 x4 x5 x6 x7 x8 x9 x10 : Value} {t : List Value} (h : Ov.Blk w b (x0 :: x1 :: x2 :: x3 :: x4 :: x5 :: x6 :: x7 :: x8 :: x9 :: x10 :: t)) : w.cell? ⟨b, 0, none⟩ = some x0 ∧ w.cell? ⟨b, 1, none⟩ = some x1 ∧ w.cell? ⟨b, 2, none⟩ = some x2 ∧ w.cell? ⟨b, 3, none⟩ = some x3 ∧ w.cell? ⟨b, 4, none⟩ = some x4 ∧ w.cell? ⟨b, 5, none⟩ = some x5 ∧ w.cell? ⟨b, 6, none⟩ = some x6 ∧ w.cell? ⟨b, 7, none⟩ = some x7 ∧ w.cell? ⟨b, 8, none⟩ = some x8 ∧ w.cell? ⟨b, 9, none⟩ = some x9 ∧ w.cell? ⟨b, 10, none⟩ = some x10 :=
 ⟨h.c 0 _ rfl, h.c 1 _ rfl, h.c 2 _ rfl, h.c 3 _ rfl, h.c 4 _ rfl, h.c 5 _ rfl, h.c 6 _ rfl, h.c 7 _ rfl, h.c 8 _ rfl, h.c 9 _ rfl, h.c 10 _ rfl⟩
end Go.Proofs.Ytchmepalhldpcaa
namespace Go.Proofs.Ytchmepalhldpcaa.Ov
open Go.ChangeShapes Go.WideShapes Go.ChangeAt Go.RowKit
structure Kp (O : Nat → Prop) (w w' : World) : Prop where
 os : w'.os = w.os
 tape : w'.tape = w.tape
 output : w'.output = w.output
 size : w.heap.size ≤ w'.heap.size
 block : ∀ k, k < w.heap.size → ¬ O k → w'.heap[k]? = w.heap[k]?
section
variable {O O' : Nat → Prop} {w w' w'' : World}
theorem Kp.refl (O : Nat → Prop) (w : World) : Kp O w w := ⟨rfl, rfl, rfl, Nat.le_refl _, fun _ _ _ => rfl⟩
theorem Kp.trans (h : Kp O w w') (k : Kp O' w' w'') (hO : ∀ b, O' b → O b ∨ w.heap.size ≤ b) : Kp O w w'' :=
 ⟨k.os.trans h.os, k.tape.trans h.tape, k.output.trans h.output, Nat.le_trans h.size k.size, fun b hb hn =>
  (k.block b (Nat.lt_of_lt_of_le hb h.size) fun e => (hO b e).elim hn fun e => by omega).trans (h.block b hb hn)⟩
theorem Below.kp (O : Nat → Prop) (h : Below w.heap.size w w') : Kp O w w' := ⟨h.os, h.tape, h.output, h.size, fun k hk _ => h.block k hk⟩
theorem Kp.below {lo : Nat} (h : Kp O w w') (hO : ∀ b, O b → lo ≤ b) (hl : lo ≤ w.heap.size) : Below lo w w' :=
 ⟨h.os, h.tape, h.output, h.size, fun k hk => h.block k (by omega) fun e => by have := hO k e; omega⟩
theorem Kp.setCell (h : Kp O w w') {b : Nat} (hb : O b) (j : Nat) (v : Value) : Kp O w (w'.setCell ⟨b, j, none⟩ v) :=
 h.trans (O' := fun k => k = b) ⟨rfl, rfl, rfl, by simp [World.setCell], fun k _ hk => Below.heap_setCell _ _ _ _ hk⟩ fun k e => .inl (by subst e; exact hb)
theorem Kp.cell (h : Kp O w w') {p : Addr} (hp : ¬ O p.block) (hl : p.block < w.heap.size) : w'.cell? p = w.cell? p := World.cell?_of_block (w := w) (h.block _ hl hp)
theorem Kp.frozen (h : Kp O w w') {p : Addr} (hp : ¬ O p.block) (hl : p.block < w.heap.size) : w'.frozen? p = w.frozen? p := by
 unfold World.frozen?; rw [h.block _ hl hp]
theorem Blk.kp {b : Nat} {vs : List Value} (h : Blk w b vs) (k : Kp O w w') (hb : ¬ O b) : Blk w' b vs :=
 ⟨fun i v e => (k.cell (p := ⟨b, i, none⟩) hb h.lt).trans (h.c i v e), fun i v e => (k.frozen (p := ⟨b, i, none⟩) hb h.lt).trans (h.f i v e), Nat.lt_of_lt_of_le h.lt k.size⟩
theorem own_kp {base size n : Nat} {e : TypeId} {v : Value} {xs : List Value} (h : w.ownsRow base e size v n xs) (k : Kp O w w') (hv : ∀ g, v.ownBlock = some g → ¬ O g) : w'.ownsRow base e size v n xs := by
 refine ⟨h.1, ?_⟩
 rcases h.2 with h1 | ⟨g, cap, cur, rfl, hg, hc, rest⟩
 · exact .inl h1
 · exact .inr ⟨g, cap, cur, rfl, hg, (k.block g (Array.getElem?_eq_some_iff.1 hc).1 (hv g rfl)).trans hc, rest⟩
end
end Go.Proofs.Ytchmepalhldpcaa.Ov
namespace Go.Proofs.Ytchmepalhldpcaa.Dk
open Go.ChangeShapes Go.WideShapes Go.ChangeAt Go.RowKit Ov
structure Ac where
 o : UInt8
 n : ByteArray
 s : ByteArray
 i : Int
 b : UInt8
instance : Inhabited Ac := ⟨⟨0, ⟨#[]⟩, ⟨#[]⟩, 0, 0⟩⟩
def acl (x : Ac) : List Value := [.int .u8 (x.o.toNat : Int), .string x.n, .string x.s, .int .i64 x.i, .int .u8 (x.b.toNat : Int)]
def ad (l : List Ac) (i : Nat) : Ac := l.getD i ⟨0, ⟨#[]⟩, ⟨#[]⟩, 0, 0⟩
def Acs (w : World) (p : Option Addr) (l : List Ac) : Prop :=
 0 < l.length → ∃ B O, p = some ⟨B, O, none⟩ ∧ ∀ i j v, i < l.length → (acl (ad l i))[j]? = some v → w.cell? ⟨B, O + i * 5 + j, none⟩ = some v
section
variable {w w' : World} {p : Option Addr} {l : List Ac}
theorem Acs.kp {O : Nat → Prop} (h : Acs w p l) (k : Kp O w w') (hO : ∀ b, b < w.heap.size → O b → ∀ B o, p = some ⟨B, o, none⟩ → b ≠ B) : Acs w' p l := fun hn => by
 obtain ⟨B, q, e, hc⟩ := h hn
 exact ⟨B, q, e, fun i j v hi hv => (k.cell (p := ⟨B, q + i * 5 + j, none⟩) (fun hb => hO B (block_lt_of_cell (hc i j v hi hv)) hb B q e rfl) (block_lt_of_cell (hc i j v hi hv))).trans (hc i j v hi hv)⟩
theorem Acs.cell {G O : Nat} (h : Acs w (some ⟨G, O, none⟩) l) {i : Nat} (hi : i < l.length) (j : Nat) (v : Value) (hv : (acl (ad l i))[j]? = some v) : w.cell? ⟨G, O + i * 5 + j, none⟩ = some v := by
 obtain ⟨B', O', e, hc⟩ := h (by omega)
 simp only [Option.some.injEq, Addr.mk.injEq, and_true] at e
 obtain ⟨rfl, rfl⟩ := e
 exact hc i j v hi hv
theorem Acs.shape (h : Acs w p l) (hl : 0 < l.length) : ∃ G O, p = some ⟨G, O, none⟩ := by
 obtain ⟨G, O, e, _⟩ := h hl
 exact ⟨G, O, e⟩
end
theorem u8_of {k : Int} (h : (Lit.int .u8 k).wf = true) : ∃ b : UInt8, k = (b.toNat : Int) := by
 have h1 := bounds_u8 h
 exact ⟨UInt8.ofNat k.toNat, by rw [UInt8.toNat_ofNat']; omega⟩
section
variable {H : Type} {enc : TypeId × Value → H} {w : World} {base : Nat} {spare : Nat → Bool} {held : Bool}
theorem trod_struct5 {P : Program} {t : TypeId} {f0 f1 f2 f3 f4 : Field} {fuel : Nat} {cs : List Value} {x : DataW H × List MemPlace} (ht : P.underlying t = some (.struct #[f0, f1, f2, f3, f4])) (h : DataW.trod enc P w base spare held fuel t cs = some x) :
 ∃ y0 y1 y2 y3 y4 n, cs.length = P.cellsOf t ∧ DataW.trod enc P w base spare held n f0.type ((cs.drop f0.offset).take (P.cellsOf f0.type)) = some y0 ∧ DataW.trod enc P w base spare held n f1.type ((cs.drop f1.offset).take (P.cellsOf f1.type)) = some y1 ∧ DataW.trod enc P w base spare held n f2.type ((cs.drop f2.offset).take (P.cellsOf f2.type)) = some y2 ∧ DataW.trod enc P w base spare held n f3.type ((cs.drop f3.offset).take (P.cellsOf f3.type)) = some y3 ∧ DataW.trod enc P w base spare held n f4.type ((cs.drop f4.offset).take (P.cellsOf f4.type)) = some y4 := by
 obtain ⟨xs, n, _, rfl, hl, hlen, hf⟩ := DataW.trod_struct ht h
 match xs, hlen with
 | [y0, y1, y2, y3, y4], _ => exact ⟨y0, y1, y2, y3, y4, n, hl, by simpa using hf 0 f0 rfl, by simpa using hf 1 f1 rfl, by simpa using hf 2 f2 rfl, by simpa using hf 3 f3 rfl, by simpa using hf 4 f4 rfl⟩
theorem five_of {α : Type} {l : List α} (h : l.length = 5) : ∃ a0 a1 a2 a3 a4, l = [a0, a1, a2, a3, a4] := by
 match l, h with
 | [a0, a1, a2, a3, a4], _ => exact ⟨a0, a1, a2, a3, a4, rfl⟩
set_option maxRecDepth 100000 in
theorem act_cells {fuel : Nat} {cs : List Value} {z : DataW H × List MemPlace} (h : DataW.trod enc Try.prog w base spare held fuel 35 cs = some z) :
 ∃ x : Ac, cs = acl x ∧ x.n.size ≤ maxLen ∧ x.s.size ≤ maxLen := by
 have c0 : Try.prog.cellsOf 5 = 1 := by kernel_rfl
 have c1 : Try.prog.cellsOf 3 = 1 := by kernel_rfl
 have c2 : Try.prog.cellsOf 9 = 1 := by kernel_rfl
 have c5 : Try.prog.cellsOf 35 = 5 := by kernel_rfl
 obtain ⟨y0, y1, y2, y3, y4, n, hl, g0, g1, g2, g3, g4⟩ := trod_struct5 Try.underlying35 h
 obtain ⟨a0, a1, a2, a3, a4, rfl⟩ := five_of (hl.trans c5)
 simp only [c0, c1, c2] at g0 g1 g2 g3 g4
 obtain ⟨k, e0, _, w0⟩ := DataW.trod_int Try.underlying5 g0
 obtain ⟨t, e1, _, w1⟩ := DataW.trod_string Try.underlying9 g1
 obtain ⟨s, e2, _, w2⟩ := DataW.trod_string Try.underlying9 g2
 obtain ⟨i, e3, _, _⟩ := DataW.trod_int Try.underlying3 g3
 obtain ⟨y, e4, _, w4⟩ := DataW.trod_int Try.underlying5 g4
 obtain ⟨b0, rfl⟩ := u8_of w0
 obtain ⟨b4, rfl⟩ := u8_of w4
 obtain rfl : a0 = .int .u8 (b0.toNat : Int) := by simpa using e0
 obtain rfl : a1 = .string t := by simpa using e1
 obtain rfl : a2 = .string s := by simpa using e2
 obtain rfl : a3 = .int .i64 i := by simpa using e3
 obtain rfl : a4 = .int .u8 (b4.toNat : Int) := by simpa using e4
 exact ⟨⟨b0, t, s, i, b4⟩, rfl, w1, w2⟩
end
def AcIn (w : World) (p : Option Addr) (n c : Nat) (l : List Ac) : Prop := l.length = n ∧ Acs w p l ∧ n ≤ maxLen ∧ n ≤ c ∧ ∀ x ∈ l, x.n.size ≤ maxLen ∧ x.s.size ≤ maxLen
set_option maxRecDepth 100000 in
theorem acts_of {H : Type} {enc : TypeId × Value → H} {W : World} {p : Option Addr} {n c : Nat} {d : DataW H} {ps : List MemPlace} (h : DataW.Trod enc Try.prog W 0 (fun _ => true) true 22 (.slice p n c) d ps) : ∃ l : List Ac, AcIn W p n c l := by
 have c5 : Try.prog.cellsOf 35 = 5 := by kernel_rfl
 obtain ⟨fuel, hf⟩ := h
 rcases Go.Deep.open_slice Try.underlying22 hf with ⟨hcs, _⟩ | ⟨a, len, cap, m, f, D, Pl, hcs, _, hlc, hcm, hm, _, hall⟩
 · simp [Value.cells] at hcs
   obtain ⟨rfl, rfl, rfl⟩ := hcs
   exact ⟨[], rfl, fun h => absurd h (Nat.lt_irrefl 0), Nat.zero_le _, Nat.zero_le _, fun x hx => by cases hx⟩
 · simp [Value.cells] at hcs
   obtain ⟨rfl, rfl, rfl⟩ := hcs
   simp at hm
   subst hm
   have hz : ∀ i, i < m → ∃ q : Ac, (∀ j v, (acl q)[j]? = some v → W.cell? ((a.add (i * 5)).add j) = some v) ∧ q.n.size ≤ maxLen ∧ q.s.size ≤ maxLen := fun i hi => by
    obtain ⟨cs', hc, ht⟩ := hall i hi
    rw [c5] at hc
    obtain ⟨x, rfl, h1, h2⟩ := act_cells ht
    obtain ⟨_, _, hat⟩ := World.cells?_some hc
    exact ⟨x, fun j v hv => by rw [hat j (List.getElem?_eq_some_iff.1 hv).1]; exact hv, h1, h2⟩
   obtain ⟨q, hq⟩ := Go.Deep.choose_lt hz
   have hget : ∀ i, i < n → ad ((List.range n).map q) i = q i := fun i hi => by unfold ad; simp [hi]
   refine ⟨(List.range n).map q, by simp, fun hn => ?_, Nat.le_trans hlc hcm, hlc, fun x hx => ?_⟩
   · have hn' : 0 < n := by simpa using hn
     have h0 := (hq 0 (by omega)).1 0 _ rfl
     have ha := at_plain (show W.cell? a = _ by simpa [Addr.add] using h0)
     refine ⟨a.block, a.off, congrArg some ha, fun i j v hi hv => ?_⟩
     have hi' : i < n := by simpa using hi
     rw [hget i hi'] at hv
     have := (hq i (by omega)).1 j v hv
     rw [ha, Go.WideShapes.add_plain, Go.WideShapes.add_plain] at this
     exact this
   · obtain ⟨i, hi, rfl⟩ := List.mem_map.1 hx
     have hi' : i < n := by simpa using hi
     exact (hq i (by omega)).2
theorem ad_at {l : List Ac} {i : Nat} (h : i < l.length) : ad l i = l[i] := by unfold ad; simp [h]
theorem ad_mem {l : List Ac} {i : Nat} (h : i < l.length) : ad l i ∈ l := by rw [ad_at h]; exact List.getElem_mem h
end Go.Proofs.Ytchmepalhldpcaa.Dk
namespace Go.Proofs.Ytchmepalhldpcaa.Ov
open Go.ChangeShapes Go.WideShapes Go.ChangeAt Go.RowKit
theorem run_text {w : World} {b o c : Nat} {l : List UInt8} {m : Nat} (hm : m = l.length) (h : ∀ j (hj : j < l.length), w.cell? ⟨b, o + j, none⟩ = some (.int .u8 (l[j].toNat : Int))) :
 (convert 52 9 (.slice (some ⟨b, o, none⟩) m c)).run Try.prog w = .ok (.string (tx l)) w := by
 have := Lib.run_convert_whole (P := Try.prog) w 52 5 9 Try.underlying52 Try.underlying5 Try.underlying9 b o (tx l) (fun i hi => by
  rw [h i (by rwa [tx_size] at hi)]; rfl) c
 rw [tx_size, ← hm] at this
 exact this
structure RowB (w : World) (g : Nat) (l : List UInt8) : Prop where
 cell : ∀ j (hj : j < l.length), w.cell? ⟨g, j, none⟩ = some (.int .u8 (l[j].toNat : Int))
 thaw : ∀ j, j < l.length → w.frozen? ⟨g, j, none⟩ = false
section
variable {w w' : World} {g : Nat} {l : List UInt8}
theorem RowB.set (h : RowB w g l) (p : Nat) (v : UInt8) : RowB (w.setCell ⟨g, p, none⟩ (.int .u8 (v.toNat : Int))) g (l.set p v) := by
 refine ⟨fun j hj => ?_, fun j hj => ?_⟩
 · have hj' : j < l.length := by simpa using hj
   by_cases e : j = p
   · subst e
     rw [World.cell?_setCell_same _ _ _ (h.cell j hj')]; simp
   · rw [World.cell?_setCell_other _ _ _ _ (by intro q; injection q with _ q2; exact e q2.symm), h.cell j hj', List.getElem_set_ne (fun q => e q.symm)]
 · rw [World.frozen?_setCell]; exact h.thaw j (by simpa using hj)
theorem RowB.lt (h : RowB w g l) (hl : l ≠ []) : g < w.heap.size := block_lt_of_cell (h.cell 0 (List.length_pos_iff.2 hl))
theorem RowB.kp {O : Nat → Prop} (h : RowB w g l) (k : Kp O w w') (hO : l ≠ [] → ¬ O g) : RowB w' g l :=
 ⟨fun j hj => (k.cell (p := ⟨g, j, none⟩) (hO fun e => by rw [e] at hj; cases hj) (block_lt_of_cell (h.cell j hj))).trans (h.cell j hj),
  fun j hj => (k.frozen (p := ⟨g, j, none⟩) (hO fun e => by rw [e] at hj; cases hj) (block_lt_of_cell (h.cell j hj))).trans (h.thaw j hj)⟩
theorem RowB.next (h : RowB w g l) (k : Below w.heap.size w w') : RowB w' g l := h.kp (Below.kp (fun _ => False) k) fun _ h => h
theorem RowB.text {m c : Nat} (h : RowB w g l) (hm : m = l.length) : (convert 52 9 (.slice (some ⟨g, 0, none⟩) m c)).run Try.prog w = .ok (.string (tx l)) w :=
 run_text hm fun j hj => by rw [Nat.zero_add]; exact h.cell j hj
end
theorem bytes_made (s : ByteArray) (w : World) : ∃ cap w', (convert 9 52 (.string s)).run Try.prog w = .ok (.slice (some ⟨w.heap.size, 0, none⟩) s.size cap) w' ∧ s.size ≤ cap ∧ RowB w' w.heap.size s.data.toList ∧ Below w.heap.size w w' ∧ w'.heap.size = w.heap.size + 1 := by
 have hl : s.data.toList.length = s.size := by simp
 refine ⟨_, _, Lib.run_convert_string_bytes w 9 52 5 s Try.underlying9 Try.underlying52 Try.underlying5, ?_, ⟨fun j hj => ?_, fun j hj => ?_⟩,
  ⟨rfl, rfl, rfl, by rw [Lib.bytesWorld_size]; omega, Lib.bytesWorld_at_old w _ s⟩, Lib.bytesWorld_size w _ s⟩
 · exact grownCap_ge w s.size 0 _
 · rw [Lib.bytesWorld_cell w _ s j (by rwa [hl] at hj)]
   congr 3
   have e : s.data[j]? = some s.data[j] := Array.getElem?_eq_getElem (by simpa using hj)
   simp [List.getD, e]
 · have hz : j < (Lib.bytesCells w 5 s).size := by
    rw [hl] at hj
    simp [Lib.bytesCells]; omega
   simp [World.frozen?, Lib.bytesWorld_at_new]; omega
end Go.Proofs.Ytchmepalhldpcaa.Ov
namespace Go.Proofs.Ytchmepalhldpcaa.Dk
open Go.ChangeShapes Go.WideShapes Go.ChangeAt Go.RowKit Go.ChangeMaps Go.Maps Ov
def bf (a b : List UInt8) : Bool := (Lit.string a).before (.string b)
theorem bf_irrefl (a : List UInt8) : bf a a = false := before_irrefl _
theorem bf_trans {a b c : List UInt8} (h : bf a b = true) (k : bf b c = true) : bf a c = true := before_trans h k
theorem bf_total {a b : List UInt8} (h : a ≠ b) : bf a b = true ∨ bf b a = true := before_total ⟨a, rfl⟩ ⟨b, rfl⟩ fun e => h (by injection e)
theorem bf_le : ∀ {a b : List UInt8}, bf a b = true → a ≤ b
 | [], _, _ => List.nil_le _
 | _ :: _, [], h => by simp [bf, Lit.before, bytesBefore] at h
 | a :: r, b :: s, h => by
   have h' : (a < b || (a == b && bytesBefore r s)) = true := h
   simp only [Bool.or_eq_true, decide_eq_true_eq, Bool.and_eq_true, beq_iff_eq] at h'
   rcases h' with h' | ⟨rfl, h'⟩
   · exact List.cons_le_cons_iff.2 (.inl h')
   · exact List.cons_le_cons_iff.2 (.inr ⟨rfl, bf_le h'⟩)
section
variable {α β : Type}
def Srt (l : List (List UInt8 × α)) : Prop := l.Pairwise fun x y => bf x.1 y.1 = true
def rm (n : List UInt8) (l : List (List UInt8 × α)) : List (List UInt8 × α) := l.filter fun x => x.1 != n
def ins (n : List UInt8) (a : α) : List (List UInt8 × α) → List (List UInt8 × α)
 | [] => [(n, a)]
 | y :: r => if bf n y.1 then (n, a) :: y :: r else y :: ins n a r
def pt (n : List UInt8) (a : α) (l : List (List UInt8 × α)) : List (List UInt8 × α) := ins n a (rm n l)
def gt (n : List UInt8) (l : List (List UInt8 × α)) : Option α := (l.find? fun x => x.1 == n).map (·.2)
theorem srt_ne {l : List (List UInt8 × α)} (h : Srt l) : l.Pairwise fun x y => x.1 ≠ y.1 := h.imp fun {x y} hb e => by rw [e, bf_irrefl] at hb; cases hb
theorem srt_rm {l : List (List UInt8 × α)} (h : Srt l) (n : List UInt8) : Srt (rm n l) := h.filter _
theorem mem_rm {l : List (List UInt8 × α)} {n : List UInt8} {x : List UInt8 × α} : x ∈ rm n l ↔ x ∈ l ∧ x.1 ≠ n := by simp [rm, List.mem_filter]
theorem ins_perm (n : List UInt8) (a : α) : ∀ l : List (List UInt8 × α), (ins n a l).Perm ((n, a) :: l)
 | [] => .refl _
 | y :: r => by
   unfold ins
   split
   · exact .refl _
   · exact ((ins_perm n a r).cons y).trans (.swap _ _ _)
theorem mem_ins {n : List UInt8} {a : α} {l : List (List UInt8 × α)} {x : List UInt8 × α} : x ∈ ins n a l ↔ x = (n, a) ∨ x ∈ l := by rw [(ins_perm n a l).mem_iff, List.mem_cons]
theorem mem_pt {n : List UInt8} {a : α} {l : List (List UInt8 × α)} {x : List UInt8 × α} : x ∈ pt n a l ↔ x = (n, a) ∨ (x ∈ l ∧ x.1 ≠ n) := by unfold pt; rw [mem_ins, mem_rm]
theorem srt_ins {n : List UInt8} (a : α) : ∀ {l : List (List UInt8 × α)}, Srt l → (∀ x ∈ l, x.1 ≠ n) → Srt (ins n a l)
 | [], _, _ => List.pairwise_singleton _ _
 | y :: r, h, hn => by
   obtain ⟨h1, h2⟩ := List.pairwise_cons.1 h
   unfold ins
   split
   · rename_i hb
     refine List.pairwise_cons.2 ⟨fun x hx => ?_, h⟩
     rcases List.mem_cons.1 hx with rfl | hx
     · exact hb
     · exact bf_trans hb (h1 x hx)
   · rename_i hb
     refine List.pairwise_cons.2 ⟨fun x hx => ?_, srt_ins a h2 fun x hx => hn x (List.mem_cons_of_mem _ hx)⟩
     rcases mem_ins.1 hx with rfl | hx
     · rcases bf_total (hn y List.mem_cons_self) with h3 | h3
       · exact h3
       · exact absurd h3 hb
     · exact h1 x hx
theorem srt_pt {l : List (List UInt8 × α)} (h : Srt l) (n : List UInt8) (a : α) : Srt (pt n a l) := srt_ins a (srt_rm h n) fun _ hx => (mem_rm.1 hx).2
theorem gt_none {n : List UInt8} {l : List (List UInt8 × α)} (h : gt n l = none) : ∀ x ∈ l, x.1 ≠ n := by
 intro x hx e
 unfold gt at h
 have := List.find?_eq_none.1 (Option.map_eq_none_iff.1 h) x hx
 simp [e] at this
theorem gt_some {n : List UInt8} {l : List (List UInt8 × α)} {a : α} (h : gt n l = some a) : (n, a) ∈ l := by
 unfold gt at h
 obtain ⟨x, hx, rfl⟩ := Option.map_eq_some_iff.1 h
 have h1 := List.find?_some hx
 have : x.1 = n := by simpa using h1
 subst this
 exact List.mem_of_find?_eq_some hx
theorem ne_one {l : List (List UInt8 × α)} (hp : l.Pairwise fun x y => x.1 ≠ y.1) {x y : List UInt8 × α} (hx : x ∈ l) (hy : y ∈ l) (e : x.1 = y.1) : x = y := by
 induction l with
 | nil => cases hx
 | cons z r ih =>
   obtain ⟨h1, h2⟩ := List.pairwise_cons.1 hp
   rcases List.mem_cons.1 hx with hx' | hx' <;> rcases List.mem_cons.1 hy with hy' | hy'
   · rw [hx', hy']
   · exact absurd (hx' ▸ e) (h1 y hy')
   · exact absurd (hy' ▸ e.symm) (h1 x hx')
   · exact ih h2 hx' hy'
theorem gt_mem {n : List UInt8} {l : List (List UInt8 × α)} {a : α} (hs : Srt l) (h : (n, a) ∈ l) : gt n l = some a := by
 cases e : gt n l with
 | none => exact absurd rfl (gt_none e _ h)
 | some b =>
   have h3 := ne_one (srt_ne hs) h (gt_some e) rfl
   injection h3 with _ h3
   rw [h3]
theorem gt_of {n : List UInt8} {l : List (List UInt8 × α)} (h : ∀ x ∈ l, x.1 ≠ n) : gt n l = none := by
 cases e : gt n l with
 | none => rfl
 | some b => exact absurd rfl (h _ (gt_some e))
theorem rm_none {n : List UInt8} {l : List (List UInt8 × α)} (h : gt n l = none) : rm n l = l := by
 unfold rm
 exact List.filter_eq_self.2 fun x hx => by simpa using gt_none h x hx
def mp (f : α → β) (l : List (List UInt8 × α)) : List (List UInt8 × β) := l.map fun x => (x.1, f x.2)
theorem srt_mp {f : α → β} {l : List (List UInt8 × α)} : Srt (mp f l) ↔ Srt l := by unfold Srt mp; rw [List.pairwise_map]
theorem mp_rm (f : α → β) (n : List UInt8) (l : List (List UInt8 × α)) : rm n (mp f l) = mp f (rm n l) := by unfold rm mp; rw [List.filter_map]; rfl
theorem mp_ins (f : α → β) (n : List UInt8) (a : α) : ∀ l : List (List UInt8 × α), ins n (f a) (mp f l) = mp f (ins n a l)
 | [] => rfl
 | y :: r => by
   show (if bf n y.1 then (n, f a) :: (y.1, f y.2) :: mp f r else (y.1, f y.2) :: ins n (f a) (mp f r)) = mp f (if bf n y.1 then (n, a) :: y :: r else y :: ins n a r)
   split
   · rfl
   · rw [mp_ins f n a r]; rfl
theorem mp_pt (f : α → β) (n : List UInt8) (a : α) (l : List (List UInt8 × α)) : pt n (f a) (mp f l) = mp f (pt n a l) := by unfold pt; rw [mp_rm, mp_ins]
theorem mp_gt (f : α → β) (n : List UInt8) (l : List (List UInt8 × α)) : gt n (mp f l) = (gt n l).map f := by
 unfold gt mp
 rw [List.find?_map]
 cases h : l.find? ((fun x => x.1 == n) ∘ fun x : List UInt8 × α => (x.1, f x.2)) with
 | none =>
   have : l.find? (fun x => x.1 == n) = none := h
   rw [this]; rfl
 | some y =>
   have : l.find? (fun x => x.1 == n) = some y := h
   rw [this]; rfl
def dm (l : List (List UInt8 × Value)) : DataW Value := .map (l.map fun x => (.string x.1, .held x.2))
theorem dm_size (l : List (List UInt8 × Value)) : size (dm l) = l.length := by simp [dm, Maps.size]
theorem dm_keys (l : List (List UInt8 × Value)) : strKeys (dm l) = l.map (·.1) := by
 show (l.map fun x => ((.string x.1, .held x.2) : Lit × DataW Value)).map (fun p => strOf p.1) = _
 rw [List.map_map]; rfl
theorem dm_has (n : List UInt8) (l : List (List UInt8 × Value)) : has (dm l) (.string n) = (gt n l).isSome := by
 show (l.map fun x => ((.string x.1, .held x.2) : Lit × DataW Value)).any (fun p => p.1.sameKey (.string n)) = _
 rw [List.any_map]
 cases h : gt n l with
 | none => exact List.any_eq_false.2 fun x hx => by simpa [Lit.sameKey] using gt_none h x hx
 | some a => exact List.any_eq_true.2 ⟨_, gt_some h, by simp [Lit.sameKey]⟩
theorem dm_at (n : List UInt8) (l : List (List UInt8 × Value)) (z : DataW Value) : (dm l).atKey (.string n) z = match gt n l with | some v => .held v | none => z := by
 unfold dm DataW.atKey gt
 simp only []
 rw [List.find?_map]
 have e : (fun p : Lit × DataW Value => p.1.sameKey (.string n)) ∘ (fun x : List UInt8 × Value => (.string x.1, .held x.2)) = fun x => x.1 == n := by funext x; rfl
 rw [e]
 cases l.find? (fun x => x.1 == n) <;> rfl
theorem nk_dm (n : List UInt8) : (notKey (.string n) ∘ fun x : List UInt8 × Value => ((.string x.1, .held x.2) : Lit × DataW Value)) = fun x => x.1 != n := by funext x; rfl
theorem dm_del (n : List UInt8) (l : List (List UInt8 × Value)) : (dm l).del (.string n) = dm (rm n l) := by
 unfold dm
 rw [DataW.del_eq]
 unfold delKey rm
 rw [List.filter_map, nk_dm]
theorem dm_ins (n : List UInt8) (v : Value) : ∀ l : List (List UInt8 × Value), DataW.insert ((.string n, .held v) : Lit × DataW Value) (l.map fun x => (.string x.1, .held x.2)) = (ins n v l).map fun x => (.string x.1, .held x.2)
 | [] => rfl
 | y :: r => by
   show (if bf n y.1 then _ else _) = _
   unfold ins
   split
   · rfl
   · rw [List.map_cons, ← dm_ins n v r]
theorem dm_put (n : List UInt8) (v : Value) (l : List (List UInt8 × Value)) : (dm l).put (.string n) (.held v) = dm (pt n v l) := by
 unfold dm
 rw [DataW.put_eq]
 unfold putKey pt rm
 rw [List.filter_map, nk_dm, dm_ins]
end
def tk (x : List UInt8 × List UInt8) : Nat := x.1.length + x.2.length + 16
def us (l : List (List UInt8 × List UInt8)) : Nat := (l.map tk).sum
theorem us_perm {l l' : List (List UInt8 × List UInt8)} (h : l.Perm l') : us l = us l' := (h.map tk).sum_nat
theorem us_ins (n s : List UInt8) (l : List (List UInt8 × List UInt8)) : us (ins n s l) = n.length + s.length + 16 + us l := by rw [us_perm (ins_perm n s l)]; rfl
theorem us_pt (n s : List UInt8) (l : List (List UInt8 × List UInt8)) : us (pt n s l) = n.length + s.length + 16 + us (rm n l) := us_ins n s _
theorem us_rm (n : List UInt8) : ∀ {l : List (List UInt8 × List UInt8)}, Srt l → us l = us (rm n l) + match gt n l with | some s => n.length + s.length + 16 | none => 0
 | [], _ => rfl
 | y :: r, h => by
   obtain ⟨h1, h2⟩ := List.pairwise_cons.1 (srt_ne h)
   have ih := us_rm n (l := r) (List.pairwise_cons.1 h).2
   by_cases e : y.1 = n
   · have hg : gt n r = none := gt_of fun x hx => fun q => h1 x hx (e.trans q.symm)
     have e1 : rm n (y :: r) = rm n r := by simp [rm, e]
     have e2 : gt n (y :: r) = some y.2 := by simp [gt, e]
     rw [hg] at ih
     rw [e1, e2]
     have ih' : us r = us (rm n r) + 0 := ih
     show tk y + us r = us (rm n r) + (n.length + y.2.length + 16)
     unfold tk
     rw [e]; omega
   · have e1 : rm n (y :: r) = y :: rm n r := by simp [rm, e]
     have e2 : gt n (y :: r) = gt n r := by simp [gt, e]
     rw [e1, e2]
     show tk y + us r = tk y + us (rm n r) + _
     omega
theorem us_len : ∀ l : List (List UInt8 × List UInt8), l.length * 16 ≤ us l
 | [] => Nat.le_refl _
 | y :: r => by
   have := us_len r
   show (r.length + 1) * 16 ≤ tk y + us r
   unfold tk; omega
theorem us_mem {l : List (List UInt8 × List UInt8)} {x : List UInt8 × List UInt8} (h : x ∈ l) : tk x ≤ us l := by
 induction l with
 | nil => cases h
 | cons y r ih =>
   show tk x ≤ tk y + us r
   rcases List.mem_cons.1 h with rfl | h
   · omega
   · have := ih h; omega
theorem us_sublist {α : Type} {E E' : List (List UInt8 × (List UInt8 × α))} (h : E'.Sublist E) : us (mp (·.1) E') ≤ us (mp (·.1) E) := by
 induction h with
 | slnil => exact Nat.le_refl _
 | @cons l l' a _ ih =>
   show us (mp (·.1) l) ≤ tk (a.1, a.2.1) + us (mp (·.1) l')
   omega
 | @cons_cons l l' a _ ih =>
   show tk (a.1, a.2.1) + us (mp (·.1) l) ≤ tk (a.1, a.2.1) + us (mp (·.1) l')
   omega
end Go.Proofs.Ytchmepalhldpcaa.Dk
namespace Go.Proofs.Ytchmepalhldpcaa.Dk
open Go.ChangeShapes Go.WideShapes Go.ChangeAt Go.RowKit Go.ChangeMaps Go.Maps Go.MapKept Ov
def RV (v : Value) : Option (DataW Value × List MemPlace) := some (.held v, [])
theorem lawS : Keyed Try.prog 9 := string_keyed Try.underlying9
def Hd (w : World) (v : Value) (s : List UInt8) : Prop := ∃ p c, v = .slice p s.length c ∧ s.length ≤ c ∧ (s ≠ [] → ∃ b, p = some ⟨b, 0, none⟩ ∧ RowB w b s)
def lies (v : Value) (b : Nat) : Prop := ∃ n c, v = .slice (some ⟨b, 0, none⟩) (n + 1) c
theorem Hd.lies {w : World} {v : Value} {s : List UInt8} {b : Nat} (h : Hd w v s) (k : lies v b) : RowB w b s ∧ s ≠ [] := by
 obtain ⟨p, c, rfl, _, h⟩ := h
 obtain ⟨n, c', e⟩ := k
 injection e with e1 e2 e3
 have hs : s ≠ [] := fun e => by rw [e] at e2; cases e2
 obtain ⟨b', e4, hr⟩ := h hs
 rw [e4] at e1
 injection e1 with e1; injection e1 with e1
 subst e1
 exact ⟨hr, hs⟩
theorem Hd.of_ne {w : World} {v : Value} {s : List UInt8} (h : Hd w v s) (hs : s ≠ []) : ∃ b c, v = .slice (some ⟨b, 0, none⟩) s.length c ∧ s.length ≤ c ∧ RowB w b s ∧ Dk.lies v b := by
 obtain ⟨p, c, rfl, hc, h⟩ := h
 obtain ⟨b, rfl, hr⟩ := h hs
 have := List.length_pos_iff.2 hs
 exact ⟨b, c, rfl, hc, hr, s.length - 1, c, by rw [show s.length - 1 + 1 = s.length by omega]⟩
theorem Hd.kp {w w' : World} {O : Nat → Prop} {v : Value} {s : List UInt8} (h : Hd w v s) (k : Kp O w w') (hO : ∀ b, Dk.lies v b → ¬ O b) : Hd w' v s := by
 by_cases hs : s = []
 · obtain ⟨p, c, e, hc, _⟩ := h
   exact ⟨p, c, e, hc, fun q => absurd hs q⟩
 · obtain ⟨b, c, rfl, hc, hr, hl⟩ := h.of_ne hs
   exact ⟨_, c, rfl, hc, fun _ => ⟨b, rfl, hr.kp k fun _ => hO b hl⟩⟩
theorem Hd.lt {w : World} {v : Value} {s : List UInt8} {b : Nat} (h : Hd w v s) (k : Dk.lies v b) : b < w.heap.size := (h.lies k).1.lt (h.lies k).2
abbrev Et : Type := List UInt8 × (List UInt8 × Value)
structure Dk (w : World) (O : Nat → Prop) (d m sz : Nat) (E : List Et) : Prop where
 h : Blk w d [.int .i64 (sz : Int), .map (some m)]
 o : w.ownsMap Try.prog 9 RV m E.length (dm (mp (·.2) E))
 e : ∀ x ∈ E, Hd w x.2.2 x.2.1
 od : O d
 om : O m
 oe : ∀ x ∈ E, ∀ b, lies x.2.2 b → O b
 p : E.Pairwise fun x y => ∀ b, lies x.2.2 b → ¬ lies y.2.2 b
 s : Srt E
 u : us (mp (·.1) E) ≤ sz
 z : sz ≤ 4194304
 n : ∀ x ∈ E, x.1 ≠ [] ∧ x.1.length ≤ 64
 lt : ∀ b, O b → b < w.heap.size
section
variable {w w' : World} {O O' : Nat → Prop} {d m sz : Nat} {E : List Et}
theorem owns_kp {P : Program} {k : TypeId} {R : Value → Option (DataW Value × List MemPlace)} {n : Nat} {D : DataW Value} (h : w.ownsMap P k R m n D) (k' : Kp O w w') (hO : ¬ O m) : w'.ownsMap P k R m n D := by
 have hlt := h.lt
 obtain ⟨es, clock, hb, r⟩ := h
 exact ⟨es, clock, (k'.block m hlt hO).trans hb, r⟩
theorem Dk.kp (h : Dk w O d m sz E) (k : Kp O' w w') (hO : ∀ b, O b → ¬ O' b) : Dk w' O d m sz E :=
 ⟨h.h.kp k (hO d h.od), owns_kp h.o k (hO m h.om), fun x hx => (h.e x hx).kp k fun b hb => hO b (h.oe x hx b hb), h.od, h.om, h.oe, h.p, h.s, h.u, h.z, h.n, fun b hb => Nat.lt_of_lt_of_le (h.lt b hb) k.size⟩
theorem Dk.next (h : Dk w O d m sz E) (k : Below w.heap.size w w') : Dk w' O d m sz E := h.kp (Below.kp (fun _ => False) k) fun _ _ h => h
theorem Dk.len (h : Dk w O d m sz E) : E.length ≤ 262144 := by
 have h1 := us_len (mp (·.1) E)
 have h2 := h.u; have h3 := h.z
 rw [show (mp (·.1) E).length = E.length by simp [mp]] at h1
 omega
theorem Dk.sL (h : Dk w O d m sz E) : Srt (mp (·.1) E) := srt_mp.2 h.s
theorem look_of {n : List UInt8} {v : Value} {ps : List MemPlace} (hv : RV v = some ((dm (mp (·.2) E)).atKey (.string n) (.held (.slice none 0 0)), ps)) :
 (gt n E = none ∧ v = .slice none 0 0) ∨ ∃ s, gt n E = some (s, v) := by
 rw [dm_at, mp_gt] at hv
 unfold RV at hv
 injection hv with hv; injection hv with hv
 cases e : gt n E with
 | none => rw [e] at hv; injection hv with hv; exact .inl ⟨rfl, hv⟩
 | some y => rw [e] at hv; injection hv with hv; exact .inr ⟨y.1, by rw [hv]⟩
theorem gt_L {n : List UInt8} : gt n (mp (·.1) E) = (gt n E).map (·.1) := mp_gt _ _ _
end
theorem key_s (s : ByteArray) (h : s.size ≤ maxLen) : keyOf Try.prog 9 (.string s) = some (.string s.data.toList) := WideMaps.keyOf_string_mk Try.underlying9 h
theorem run_zeroB (w : World) : (zeroValue 52).run Try.prog w = .ok (.slice none 0 0) w := by kernel_rfl
def IsD (w : World) (O : Nat → Prop) (d sz : Nat) (L : List (List UInt8 × List UInt8)) : Prop := ∃ m E, Dk w O d m sz E ∧ mp (·.1) E = L
theorem IsD.kp {w w' : World} {O O' : Nat → Prop} {d sz : Nat} {L : List (List UInt8 × List UInt8)} (h : IsD w O d sz L) (k : Kp O' w w') (hO : ∀ b, O b → ¬ O' b) : IsD w' O d sz L := by
 obtain ⟨m, E, h, e⟩ := h; exact ⟨m, E, h.kp k hO, e⟩
theorem IsD.next {w w' : World} {O : Nat → Prop} {d sz : Nat} {L : List (List UInt8 × List UInt8)} (h : IsD w O d sz L) (k : Below w.heap.size w w') : IsD w' O d sz L := by
 obtain ⟨m, E, h, e⟩ := h; exact ⟨m, E, h.next k, e⟩
theorem IsD.lt {w : World} {O : Nat → Prop} {d sz : Nat} {L : List (List UInt8 × List UInt8)} (h : IsD w O d sz L) : ∀ b, O b → b < w.heap.size := by
 obtain ⟨m, E, h, e⟩ := h; exact h.lt
def TurnsTo (O : Nat → Prop) (d sz : Nat) (L : List (List UInt8 × List UInt8)) (w w' : World) : Prop := ∃ O', IsD w' O' d sz L ∧ Kp O w w' ∧ ∀ b, O' b → O b ∨ w.heap.size ≤ b
theorem IsD.stays {w w' : World} {O : Nat → Prop} {d sz : Nat} {L : List (List UInt8 × List UInt8)} (h : IsD w O d sz L) (k : Below w.heap.size w w') : TurnsTo O d sz L w w' := ⟨O, h.next k, Below.kp O k, fun _ => .inl⟩
end Go.Proofs.Ytchmepalhldpcaa.Dk
namespace Go.Proofs.Ytchmepalhldpcaa.Dk
open Go.ChangeShapes Go.WideShapes Go.ChangeAt Go.RowKit Go.Maps Ov
theorem new_no (size : Int) (h : ¬ (0 ≤ size ∧ size ≤ 4194304)) (w : World) : Calls Try.prog 6 #[.int .i64 size] w (Gives (.tuple #[.pointer none, .int .i64 1]) w) := by
 by_cases h1 : size < 0
 · have t1 : decide (size < 0) = true := decide_eq_true h1
   go_enter Try.func6, Try.ntmps6
   go_wp2_with (fail)
   go_ret2
   exact ⟨rfl, Below.refl _ _⟩
 · have t1 : decide (size < 0) = false := decide_eq_false h1
   have t2 : decide (4194304 < size) = true := decide_eq_true (by omega)
   go_enter Try.func6, Try.ntmps6
   go_wp2_with (fail)
   go_ret2
   exact ⟨rfl, Below.refl _ _⟩
def nO (w : World) (b : Nat) : Prop := b = w.heap.size ∨ b = w.heap.size + 1
theorem made_disk (w : World) (sz : Nat) (hz : sz ≤ 4194304) : IsD ((w.alloc (.map #[] 0)).alloc (.cells #[.int .i64 (sz : Int), .map (some w.heap.size)] 45)) (nO w) (w.heap.size + 1) sz [] := by
 have hm := ((World.ownsMap_made w Try.prog 9 RV).alloc (.cells #[.int .i64 (sz : Int), .map (some w.heap.size)] 45))
 exact ⟨w.heap.size, [], ⟨Blk.made (w.alloc (.map #[] 0)) 45 [.int .i64 (sz : Int), .map (some w.heap.size)] (by simp), hm, (fun x hx => by cases hx), .inr rfl, .inl rfl, (fun x hx => by cases hx), .nil, .nil, Nat.zero_le _, hz, (fun x hx => by cases hx), fun b hb => by
  rcases hb with rfl | rfl <;> simp <;> omega⟩, rfl⟩
set_option maxHeartbeats 1000000 in
theorem new_yes (sz : Nat) (hz : sz ≤ 4194304) (w : World) : Calls Try.prog 6 #[.int .i64 (sz : Int)] w fun e w' => e = .returned (.tuple #[.pointer (some ⟨w.heap.size + 1, 0, none⟩), .int .i64 0]) ∧ IsD w' (nO w) (w.heap.size + 1) sz [] ∧ Below w.heap.size w w' := by
 have HD := Lib.hid (made_disk w sz hz)
 have HB := Lib.hid (box2 w (.map #[] 0) (.cells #[.int .i64 (sz : Int), .map (some w.heap.size)] 45))
 have hmm := @run_makeMap Try.prog
 have t1 : decide ((sz : Int) < 0) = false := decide_eq_false (by omega)
 have t2 : decide ((4194304 : Int) < (sz : Int)) = false := decide_eq_false (by omega)
 go_enter Try.func6, Try.ntmps6
 go_wp2_with (fail)
 go_ret2
 exact ⟨rfl, HD.out, HB.out⟩
set_option maxHeartbeats 1000000 in
theorem takes_any (n : ByteArray) (k : Nat) (w : World) (hn : n.size ≤ 4611686018427387904) (hk : k ≤ 2305843009213693952) : Calls Try.prog 21 #[.string n, .int .i64 (k : Int)] w fun e w' => e = .returned (.int .i64 ((n.size + k + 16 : Nat) : Int)) ∧ w' = w := by
 go_enter Try.func21, Try.ntmps21
 go_wp2_with (fail)
 go_ret
 refine ⟨?_, rfl⟩
 first | rfl | (refine ret_int ?_; omega)
def lft (left : Lit → Bool) (E : List Et) : List Et := E.filter fun x => left (.string x.1)
theorem lft_all {D : DataW Value} {E : List Et} (h : D = dm (mp (·.2) E)) : lft (has D) E = E := by
 subst h
 unfold lft
 refine List.filter_eq_self.2 fun x hx => ?_
 rw [dm_has, mp_gt]
 cases e : gt x.1 E with
 | none => exact absurd rfl (gt_none e x hx)
 | some y => rfl
theorem lft_none {left : Lit → Bool} (h : ∀ kl, left kl = false) (E : List Et) : lft left E = [] := by
 unfold lft; exact List.filter_eq_nil_iff.2 fun x _ => by rw [h]; exact Bool.false_ne_true
theorem lft_cut (left : Lit → Bool) (n : List UInt8) (E : List Et) : lft (fun z => left z && !z.sameKey (.string n)) E = rm n (lft left E) := by
 unfold lft rm
 rw [List.filter_filter]
 refine List.filter_congr fun x _ => ?_
 show (left (.string x.1) && !(x.1 == n)) = (x.1 != n && left (.string x.1))
 rw [Bool.and_comm]; rfl
theorem srt_lft {left : Lit → Bool} {E : List Et} (h : Srt E) : Srt (lft left E) := h.filter _
theorem lft_at {left : Lit → Bool} {E : List Et} {n : List UInt8} {y : List UInt8 × Value} (h : Srt E) (hl : left (.string n) = true) (hg : gt n E = some y) : gt n (lft left E) = some y :=
 gt_mem (srt_lft h) (List.mem_filter.2 ⟨gt_some hg, hl⟩)
theorem us_lft {left : Lit → Bool} {E : List Et} {n : List UInt8} {y : List UInt8 × Value} (h : Srt E) (hl : left (.string n) = true) (hg : gt n E = some y) :
 us (mp (·.1) (lft left E)) = us (mp (·.1) (lft (fun z => left z && !z.sameKey (.string n)) E)) + (n.length + y.1.length + 16) := by
 rw [lft_cut, us_rm n (srt_mp.2 (srt_lft h) : Srt (mp (·.1) (lft left E))), mp_rm, mp_gt, lft_at h hl hg]
 rfl
theorem us_sub (left : Lit → Bool) : ∀ E : List Et, ∃ q, us (mp (·.1) E) = q + us (mp (·.1) (lft left E))
 | [] => ⟨0, rfl⟩
 | y :: E => by
   obtain ⟨q, hq⟩ := us_sub left E
   by_cases h : left (.string y.1) = true
   · exact ⟨q, by
      rw [show lft left (y :: E) = y :: lft left E from List.filter_cons_of_pos h]
      show tk (y.1, y.2.1) + us (mp (·.1) E) = q + (tk (y.1, y.2.1) + us (mp (·.1) (lft left E)))
      rw [hq]; omega⟩
   · exact ⟨tk (y.1, y.2.1) + q, by
      rw [show lft left (y :: E) = lft left E from List.filter_cons_of_neg h]
      show tk (y.1, y.2.1) + us (mp (·.1) E) = _
      rw [hq]; omega⟩
theorem met_of {E : List Et} {n : List UInt8} {v : Value} {y : DataW Value × List MemPlace} (hv : RV v = some y) (hat : ∀ zd, (dm (mp (·.2) E)).atKey (.string n) zd = y.1) : ∃ s, gt n E = some (s, v) := by
 unfold RV at hv
 injection hv with hv; subst hv
 have h := hat (.lit (.bool true))
 rw [dm_at, mp_gt] at h
 cases e : gt n E with
 | none => rw [e] at h; cases h
 | some z => rw [e] at h; injection h with h; exact ⟨z.1, by rw [← h]⟩
set_option maxHeartbeats 4000000 in
set_option maxRecDepth 100000 in
theorem room_dk {O : Nat → Prop} {d m sz : Nat} {E : List Et} (w : World) (h : Dk w O d m sz E) :
 Calls Try.prog 9 #[.pointer (some ⟨d, 0, none⟩)] w (Gives (.int .i64 ((sz - us (mp (·.1) E) : Nat) : Int)) w) := by
 have c0 := h.h.c 0 _ rfl
 have c1 := h.h.c 1 _ rfl
 have ho := h.o
 have H := Lib.hid h
 clear h
 go_enter Try.func9, Try.ntmps9
 go_wp2_with (first
  | (at_range; refine wpList_range_own _ rfl _ 43 rfl 9 52 lawS Try.underlying43 RV m _ _ rfl ho ?_; intro w0 hrg0 hg0 hs0)
  | fail)
 go_frame
 have hB0 : Below w.heap.size w w0 := ⟨hg0.os, hg0.tape, hg0.output, hg0.size, fun k hk => hg0.block k hk (by simp)⟩
 have HB0 := Lib.hid hB0; have HRG0 := Lib.hid hrg0
 clear hB0 hrg0 hg0 hs0 c0 c1 ho
 obtain ⟨r, hr⟩ : ∃ r, w.heap.size = r := ⟨_, rfl⟩
 have HR := Lib.hid hr
 rw [hr] at HRG0 ⊢
 clear hr
 obtain ⟨n, hn⟩ : ∃ n, E.length = n := ⟨_, rfl⟩
 rw [hn] at HRG0
 clear hn
 go_loopw [3] (fun A wr => ∃ (left : Lit → Bool) (cnt a : Nat), wr.ranges Try.prog 9 RV m r n (dm (mp (·.2) E)) left cnt ∧ A = .int .i64 (a : Int) ∧ a + us (mp (·.1) E) = sz + us (mp (·.1) (lft left E)) ∧ Below w.heap.size w wr) (fun _ wr => wr.rangeLeft m r)
 case atStart =>
  exact ⟨_, _, sz, HRG0.out, rfl, by rw [lft_all rfl], HB0.out⟩
 case round =>
  obtain ⟨left, cnt, a, hrg, rfl, ha, hB⟩ := hrel
  have HRG := Lib.hid hrg; have HB := Lib.hid hB; have HA := Lib.hid ha
  clear hB ha
  go_wp2_with (first
   | (at_next; refine wpList_next_ranges _ rfl _ rfl 9 lawS RV encStr id (fun key kl hk => by obtain ⟨x, hx, _⟩ := Maps.keyOf_str Try.underlying9 hk; exact ⟨x, hx⟩) (fun v _ _ => ⟨v, rfl⟩) m r n _ _ _ rfl hrg ?_ ?_)
   | fail)
  · intro hc0 hl0
    have HE : Hid (a = sz - us (mp (·.1) E)) := Lib.hid (by
     have := HA.out
     rw [lft_none hl0] at this
     have h0 : us (mp (·.1) ([] : List Et)) = 0 := rfl
     rw [h0] at this
     omega)
    clear hrg hc0 hl0
    go_wp2_with (fail)
    go_ret
    exact ⟨by rw [HE.out]; rfl, HB.out⟩
  · intro x c kl yd yp w2 cnt2 hkey hlk hv hat hrg2 hlt hg2 hs2 hen
    obtain ⟨x', ex, rfl, _⟩ := Maps.keyOf_str Try.underlying9 hkey
    obtain rfl : x = x' := encStr_inj ex
    obtain ⟨s, hg⟩ := met_of hv hat
    have hE : Hd w c s := H.out.e _ (gt_some hg)
    obtain ⟨p, c', rfl, hsc, _⟩ := hE
    have hU := us_lft H.out.s hlk hg
    dsimp only at hU
    have hz := H.out.z; have hu := H.out.u
    have ha := HA.out
    have hmL : us (mp (·.1) (lft left E)) ≤ us (mp (·.1) E) := by
     obtain ⟨q, hq⟩ : ∃ q, us (mp (·.1) E) = q + us (mp (·.1) (lft left E)) := us_sub left E
     omega
    have HRG2 := Lib.hid hrg2
    have HB2 : Hid (Below w.heap.size w w2) := Lib.hid (HB.out.grown hg2 (by have := HB.out.size; omega) (fun k e => by cases e; rw [HR.out]; exact Nat.le_refl _))
    have HLT : Hid (cnt2 < wr.rangeLeft m r) := Lib.hid (by rw [HRG.out.left_eq]; exact hlt)
    obtain ⟨K, hK⟩ : ∃ K, (tx x).size + s.length + 16 = K := ⟨_, rfl⟩
    have hK2 : K = x.length + s.length + 16 := by rw [← hK, tx_size]
    obtain ⟨a', hA'⟩ : ∃ a', a = a' + K := ⟨a - K, by omega⟩
    subst hA'
    have hA1 : a' + K ≤ 4194304 := by omega
    have hs : s.length ≤ 4194304 := by omega
    have HA' : Hid (a' + us (mp (·.1) E) = sz + us (mp (·.1) (lft (fun z => left z && !z.sameKey (.string x)) E))) := Lib.hid (by omega)
    have ex2 : encStr x = .string (tx x) := rfl
    rw [ex2] at hen ⊢
    have hcall := takes_any (tx x) s.length w2 (by omega) (by omega)
    rw [hK] at hcall
    have HC := Lib.hid hcall
    change (Instr.entry (.pointer (some ⟨r, 0, none⟩))).run Try.prog w2 = .ok (.tuple #[.string (tx x), .slice p s.length c']) w2 at hen
    clear hcall hrg hkey hlk hv hat hg hU hz hu hmL hlt hg2 hs2 hrg2 hK hK2 hsc ex ex2 ha HRG HB HB0 HRG0 HA
    go_wp2_with (fail)
    refine HC.out.mono ?_
    rintro e w3 ⟨rfl, hw⟩
    obtain rfl : w2 = w3 := hw.symm
    clear hw
    go_wp2_with (fail)
    go_roundw
    case rel => exact ⟨_, cnt2, a', HRG2.out, by go_num, HA'.out, HB2.out⟩
    case measure => rw [HRG2.out.left_eq]; exact HLT.out
theorem room_any {O : Nat → Prop} {d sz : Nat} {L : List (List UInt8 × List UInt8)} (w : World) (h : IsD w O d sz L) :
 Calls Try.prog 9 #[.pointer (some ⟨d, 0, none⟩)] w (Gives (.int .i64 ((sz - us L : Nat) : Int)) w) := by
 obtain ⟨m, E, h, rfl⟩ := h
 exact room_dk w h
end Go.Proofs.Ytchmepalhldpcaa.Dk
namespace Go.Proofs.Ytchmepalhldpcaa.Dk
open Go.ChangeShapes Go.WideShapes Go.ChangeAt Go.RowKit Go.ChangeMaps Go.Maps Go.MapKept Ov
theorem run_convert_zero (w : World) (p : Option Addr) (c : Nat) : (convert 52 9 (.slice p 0 c)).run Try.prog w = .ok (.string ⟨#[]⟩) w := by
 rw [run_convert_bytes_string w 52 9 5 _ 0 c Try.underlying52 Try.underlying5 Try.underlying9]
 cases p <;> simp [Conv.bytesToString, loadCells]
 all_goals rfl
theorem Hd.run {w : World} {v : Value} {s : List UInt8} (h : Hd w v s) : (convert 52 9 v).run Try.prog w = .ok (.string (tx s)) w := by
 obtain ⟨p, c, rfl, hc, hr⟩ := h
 by_cases hs : s = []
 · subst hs
   exact run_convert_zero w p c
 · obtain ⟨b, rfl, hb⟩ := hr hs
   exact hb.text rfl
section
variable {w : World} {O : Nat → Prop} {d m sz : Nat} {E : List Et} {t : ByteArray}
theorem Dk.look_no (h : Dk w O d m sz E) (ht : t.size ≤ maxLen) (hg : gt t.data.toList E = none) : (Instr.lookup 43 (.map (some m)) (.string t) true).run Try.prog w = .ok (.tuple #[.slice none 0 0, .bool false]) w := by
 obtain ⟨v, ps, hrun, hv⟩ := h.o.look_ok lawS Try.underlying43 (run_zeroB w) (zd := .held (.slice none 0 0)) (zp := []) rfl (key_s t ht)
 rcases look_of hv with ⟨_, rfl⟩ | ⟨s, e⟩
 · rw [dm_has, mp_gt, hg] at hrun; exact hrun
 · rw [hg] at e; cases e
theorem Dk.look_yes (h : Dk w O d m sz E) (ht : t.size ≤ maxLen) {s : List UInt8} {v : Value} (hg : gt t.data.toList E = some (s, v)) : (Instr.lookup 43 (.map (some m)) (.string t) true).run Try.prog w = .ok (.tuple #[v, .bool true]) w := by
 obtain ⟨v', ps, hrun, hv⟩ := h.o.look_ok lawS Try.underlying43 (run_zeroB w) (zd := .held (.slice none 0 0)) (zp := []) rfl (key_s t ht)
 rcases look_of hv with ⟨e, _⟩ | ⟨s', e⟩
 · rw [hg] at e; cases e
 · rw [hg] at e; injection e with e; injection e with _ e; subst e
   rw [dm_has, mp_gt, hg] at hrun; exact hrun
theorem Dk.val (h : Dk w O d m sz E) (ht : t.size ≤ maxLen) : ∃ v, (Instr.lookup 43 (.map (some m)) (.string t) false).run Try.prog w = .ok v w ∧ ((gt t.data.toList E = none ∧ v = .slice none 0 0) ∨ ∃ s, gt t.data.toList E = some (s, v)) := by
 obtain ⟨v, ps, hrun, hv⟩ := h.o.lookup lawS Try.underlying43 (run_zeroB w) (zd := .held (.slice none 0 0)) (zp := []) rfl (key_s t ht)
 exact ⟨v, hrun, look_of hv⟩
end
def rdv (o : Option (List UInt8)) : Value := match o with | some s => .tuple #[.string (tx s), .int .i64 0] | none => .tuple #[.string ⟨#[]⟩, .int .i64 8]
set_option maxHeartbeats 2000000 in
theorem read_dk {O : Nat → Prop} {d m sz : Nat} {E : List Et} (t : ByteArray) (ht : t.size ≤ maxLen) (w : World) (h : Dk w O d m sz E) :
 Calls Try.prog 14 #[.pointer (some ⟨d, 0, none⟩), .string t] w (Gives (rdv (gt t.data.toList (mp (·.1) E))) w) := by
 have c1 := h.h.c 1 _ rfl
 rw [gt_L]
 cases hg : gt t.data.toList E with
 | none =>
   have hl := h.look_no ht hg
   clear h hg
   go_enter Try.func14, Try.ntmps14
   go_wp2_with (fail)
   go_ret2
   exact ⟨rfl, Below.refl _ _⟩
 | some y =>
   obtain ⟨s, v⟩ := y
   have hl := h.look_yes ht hg
   have hE : Hd w v s := h.e _ (gt_some hg)
   have hr := hE.run
   clear h hg hE
   show Calls _ _ _ _ (Gives (.tuple #[.string (tx s), .int .i64 0]) w)
   go_enter Try.func14, Try.ntmps14
   go_wp2_with (fail)
   go_ret2
   exact ⟨rfl, Below.refl _ _⟩
theorem read_any {O : Nat → Prop} {d sz : Nat} {L : List (List UInt8 × List UInt8)} (t : ByteArray) (ht : t.size ≤ maxLen) (w : World) (h : IsD w O d sz L) :
 Calls Try.prog 14 #[.pointer (some ⟨d, 0, none⟩), .string t] w (Gives (rdv (gt t.data.toList L)) w) := by
 obtain ⟨m, E, h, rfl⟩ := h
 exact read_dk t ht w h
theorem Kp.turned {w w' : World} {m : Nat} {O : Nat → Prop} (hO : O m) (h : w.mapTurned w' m) : Kp O w w' := by
 have g := h.grown
 exact ⟨g.os, g.tape, g.output, g.size, fun k hk hn => g.block k hk fun e => hn (by injection e with e; subst e; exact hO)⟩
theorem Dk.turned {w w' : World} {O : Nat → Prop} {d m sz : Nat} {E E' : List Et} (h : Dk w O d m sz E) (hk : Kp (fun b => b = m) w w') (ho : w'.ownsMap Try.prog 9 RV m E'.length (dm (mp (·.2) E'))) (hsub : E'.Sublist E) : Dk w' O d m sz E' := by
 have hdm : d ≠ m := fun e => by
  obtain ⟨es, clock, hb, _⟩ := h.o
  have := h.h.c 0 _ rfl
  rw [e] at this
  unfold World.cell? at this
  rw [hb] at this
  cases this
 have hm : ∀ v s b, Hd w v s → lies v b → b ≠ m := fun v s b hv hl e => by
  obtain ⟨es, clock, hb, _⟩ := h.o
  obtain ⟨x, h0⟩ : ∃ x, w.cell? ⟨b, 0, none⟩ = some (.int .u8 x) := ⟨_, (hv.lies hl).1.cell 0 (List.length_pos_iff.2 (hv.lies hl).2)⟩
  rw [e] at h0
  unfold World.cell? at h0
  rw [hb] at h0
  cases h0
 refine ⟨h.h.kp hk hdm, ho, fun x hx => (h.e x (hsub.subset hx)).kp hk fun b hb => hm _ _ b (h.e x (hsub.subset hx)) hb, h.od, h.om, fun x hx => h.oe x (hsub.subset hx), h.p.sublist hsub, h.s.sublist hsub, Nat.le_trans (us_sublist hsub) h.u, h.z, fun x hx => h.n x (hsub.subset hx), fun b hb => Nat.lt_of_lt_of_le (h.lt b hb) hk.size⟩
theorem owns_len {w : World} {m n : Nat} {E : List Et} (h : w.ownsMap Try.prog 9 RV m n (dm (mp (·.2) E))) : w.ownsMap Try.prog 9 RV m E.length (dm (mp (·.2) E)) := by
 obtain ⟨es, clock, hb, F, hs, hD⟩ := h
 refine ⟨es, clock, hb, F, ?_, hD⟩
 have h1 : size (dm (mp (·.2) E)) = E.length := by rw [dm_size]; simp [mp]
 rw [hD] at h1
 have h2 : size (DataW.map ((es.toList.map (WideElems.rg Try.prog 9 RV)).foldr DataW.insert [])) = es.size := by simp [Maps.size, length_sorted]
 omega
set_option maxHeartbeats 2000000 in
theorem delete_any {O : Nat → Prop} {d sz : Nat} {L : List (List UInt8 × List UInt8)} (t : ByteArray) (ht : t.size ≤ maxLen) (w : World) (h : IsD w O d sz L) :
 Calls Try.prog 15 #[.pointer (some ⟨d, 0, none⟩), .string t] w fun e w' => e = .returned (.int .i64 (if (gt t.data.toList L).isSome then 0 else 8)) ∧ TurnsTo O d sz (rm t.data.toList L) w w' := by
 have HI := Lib.hid h
 obtain ⟨m, E, h, rfl⟩ := h
 have c1 := h.h.c 1 _ rfl
 rw [gt_L]
 cases hg : gt t.data.toList E with
 | none =>
   have hl := h.look_no ht hg
   have hr : rm t.data.toList (mp (·.1) E) = mp (·.1) E := rm_none (by rw [gt_L, hg]; rfl)
   rw [hr]
   clear h hg hr
   go_enter Try.func15, Try.ntmps15
   go_wp2_with (fail)
   go_ret
   exact ⟨rfl, HI.out.stays (Below.refl _ _)⟩
 | some y =>
   obtain ⟨s, v⟩ := y
   have hl := h.look_yes ht hg
   have ho := h.o
   have hkey := key_s t ht
   have H := Lib.hid h
   clear h hg ht
   go_enter Try.func15, Try.ntmps15
   go_wp2_with (first
    | (at_delete; refine wpList_delete_own _ rfl _ _ 43 9 rfl 52 lawS Try.underlying43 RV m _ _ rfl ho _ _ rfl hkey ?_; intro w1 hown1 hturn1)
    | fail)
   have HT := Lib.hid hturn1; have HO := Lib.hid hown1
   clear hturn1 hown1 ho hl c1
   go_wp2_with (fail)
   go_ret
   refine ⟨rfl, O, ⟨m, rm t.data.toList E, H.out.turned (Kp.turned rfl HT.out) ?_ List.filter_sublist, by rw [mp_rm]⟩, Kp.turned H.out.om HT.out, fun _ => .inl⟩
   have := HO.out
   rw [dm_del, mp_rm] at this
   exact owns_len this
theorem run_clear {w : World} {m n : Nat} {D : DataW Value} (h : w.ownsMap Try.prog 9 RV m n D) (ty : TypeId) : ∃ w', (Builtin.clear_ #[43] ty #[.map (some m)]).run Try.prog w = .ok (.tuple #[]) w' ∧ w'.ownsMap Try.prog 9 RV m 0 (.map []) ∧ w.mapTurned w' m := by
 obtain ⟨es, clock, hb, F, hs, hD⟩ := h
 refine ⟨setBlock w m (.map #[] clock), ?_, ⟨#[], clock, heap_setBlock_same hb _, ⟨by simp, stamped_empty clock, by simp⟩, Nat.le_refl _, rfl⟩, ⟨es, clock, #[], clock, hb, rfl⟩⟩
 simp [Builtin.clear_, run_underlying Try.underlying43, MapKept.run_getObj_map hb, MapKept.run_setObj_map _ hb, Result.andThen, setBlock]
set_option maxHeartbeats 2000000 in
theorem lose_any {O : Nat → Prop} {d sz : Nat} {L : List (List UInt8 × List UInt8)} (w : World) (h : IsD w O d sz L) :
 Calls Try.prog 17 #[.pointer (some ⟨d, 0, none⟩)] w fun e w' => e = .returned (.int .i64 (L.length : Int)) ∧ TurnsTo O d sz [] w w' := by
 obtain ⟨m, E, h, rfl⟩ := h
 have c1 := h.h.c 1 _ rfl
 have ho := h.o
 have hlen : ∀ ty, (Builtin.len_ #[43] ty #[.map (some m)]).run Try.prog w = .ok (.int .i64 (E.length : Int)) w := fun ty => by
  have := ho.len Try.underlying43 ty
  rw [dm_size, show (mp (·.2) E).length = E.length by simp [mp]] at this
  exact this
 have hel : (mp (·.1) E).length = E.length := by simp [mp]
 rw [hel]
 have H := Lib.hid h
 obtain ⟨w1, hrun, hown, hturn⟩ := run_clear ho 0
 have HT := Lib.hid hturn; have HO := Lib.hid hown
 clear h hown hturn ho hel
 go_enter Try.func17, Try.ntmps17
 go_wp2_with (fail)
 go_ret
 exact ⟨rfl, O, ⟨m, [], H.out.turned (Kp.turned rfl HT.out) HO.out (List.nil_sublist _), rfl⟩, Kp.turned H.out.om HT.out, fun _ => .inl⟩
def rd (i : Int) (k : Nat) : Nat := (i % (k : Int)).toNat
theorem rd_lt (i : Int) {k : Nat} (hk : 0 < k) : rd i k < k := by
 have := Int.emod_nonneg i (show (k : Int) ≠ 0 by omega)
 have := Int.emod_lt_of_pos i (show (0 : Int) < k by omega)
 unfold rd; omega
theorem rd_eq (i : Int) {k : Nat} (hk : 0 < k) : ((rd i k : Nat) : Int) = if i.tmod k < 0 then i.tmod k + k else i.tmod k := by
 have h1 := Int.emod_nonneg i (show (k : Int) ≠ 0 by omega)
 unfold rd
 rw [Int.toNat_of_nonneg h1]
 rw [Int.tmod_eq_emod]
 have h2 := Int.emod_lt_of_pos i (show (0 : Int) < k by omega)
 by_cases h : 0 ≤ i ∨ (k : Int) ∣ i
 · rw [if_pos h]; split <;> omega
 · rw [if_neg h]; split <;> omega
def sp (i : Int) (y : UInt8) (s : List UInt8) : List UInt8 := s.set (rd i s.length) (s.getD (rd i s.length) 0 ^^^ y)
def spo (n : List UInt8) (i : Int) (y : UInt8) (L : List (List UInt8 × List UInt8)) : Option (List (List UInt8 × List UInt8)) :=
 match gt n L with
 | some s => if s = [] ∨ y = 0 then none else some (L.map fun x => (x.1, if x.1 = n then sp i y s else x.2))
 | none => none
theorem sp_length (i : Int) (y : UInt8) (s : List UInt8) : (sp i y s).length = s.length := by simp [sp]
theorem pair_ne {E : List Et} {R : Et → Et → Prop} (h : E.Pairwise R) {x y : Et} (hx : x ∈ E) (hy : y ∈ E) (hne : x ≠ y) : R x y ∨ R y x := by
 induction E with
 | nil => cases hx
 | cons z r ih =>
   obtain ⟨h1, h2⟩ := List.pairwise_cons.1 h
   rcases List.mem_cons.1 hx with hx' | hx' <;> rcases List.mem_cons.1 hy with hy' | hy'
   · exact absurd (hx'.trans hy'.symm) hne
   · exact .inl (hx' ▸ h1 y hy')
   · exact .inr (hy' ▸ h1 x hx')
   · exact ih h2 hx' hy'
def Esp (n s' : List UInt8) (E : List Et) : List Et := E.map fun x => (x.1, (if x.1 = n then s' else x.2.1, x.2.2))
theorem esp_mem {n s s' : List UInt8} {v : Value} {E : List Et} (hs : Srt E) (hg : gt n E = some (s, v)) {x : Et} (hx : x ∈ Esp n s' E) : x = (n, (s', v)) ∨ (x.1 ≠ n ∧ x ∈ E) := by
 obtain ⟨z, hz, rfl⟩ := List.mem_map.1 hx
 by_cases e : z.1 = n
 · have := ne_one (srt_ne hs) hz (gt_some hg) e
   subst this
   left; simp
 · right
   refine ⟨e, ?_⟩
   show (z.1, (if z.1 = n then s' else z.2.1, z.2.2)) ∈ E
   rw [if_neg e]; exact hz
theorem esp_V (n s' : List UInt8) (E : List Et) : mp (·.2) (Esp n s' E) = mp (·.2) E := by unfold mp Esp; rw [List.map_map]; rfl
theorem esp_L (n s' : List UInt8) (E : List Et) : mp (·.1) (Esp n s' E) = (mp (·.1) E).map fun x => (x.1, if x.1 = n then s' else x.2) := by unfold mp Esp; rw [List.map_map, List.map_map]; rfl
theorem esp_us {n s s' : List UInt8} {v : Value} {E : List Et} (hs : Srt E) (hg : gt n E = some (s, v)) (hl : s'.length = s.length) : us (mp (·.1) (Esp n s' E)) = us (mp (·.1) E) := by
 unfold us mp Esp
 rw [List.map_map, List.map_map, List.map_map]
 congr 1
 refine List.map_congr_left fun x hx => ?_
 show tk (x.1, if x.1 = n then s' else x.2.1) = tk (x.1, x.2.1)
 by_cases e : x.1 = n
 · have := ne_one (srt_ne hs) hx (gt_some hg) e
   subst this
   rw [if_pos rfl]; unfold tk; dsimp only; rw [hl]
 · rw [if_neg e]
theorem Dk.spoilt {w : World} {O : Nat → Prop} {d m sz : Nat} {E : List Et} (h : Dk w O d m sz E) {n s : List UInt8} {v : Value} (hg : gt n E = some (s, v)) {b : Nat} (hb : lies v b) (r : Nat) (y : UInt8) :
 Dk (w.setCell ⟨b, r, none⟩ (.int .u8 (y.toNat : Int))) O d m sz (Esp n (s.set r y) E) := by
 have hm := gt_some hg
 have hk : Kp (fun k => k = b) w (w.setCell ⟨b, r, none⟩ (.int .u8 (y.toNat : Int))) := (Kp.refl (fun k => k = b) w).setCell rfl _ _
 have hv : Hd w v s := h.e _ hm
 have hr := hv.lies hb
 have h0 : ∃ x, w.cell? ⟨b, 0, none⟩ = some (.int .u8 x) := ⟨_, hr.1.cell 0 (List.length_pos_iff.2 hr.2)⟩
 have hdb : d ≠ b := fun e => by
  obtain ⟨x, h0⟩ := h0
  rw [← e, h.h.c 0 _ rfl] at h0; cases h0
 have hmb : m ≠ b := fun e => by
  obtain ⟨es, clock, hb', _⟩ := h.o
  obtain ⟨x, h0⟩ := h0
  rw [← e] at h0
  unfold World.cell? at h0
  rw [hb'] at h0
  cases h0
 refine ⟨h.h.kp hk hdb, ?_, fun x hx => ?_, h.od, h.om, fun x hx => ?_, ?_, ?_, ?_, h.z, fun x hx => ?_, fun k hk' => Nat.lt_of_lt_of_le (h.lt k hk') hk.size⟩
 · rw [esp_V, show (Esp n (s.set r y) E).length = E.length by simp [Esp]]
   exact owns_kp h.o hk hmb
 · rcases esp_mem h.s hg hx with rfl | ⟨hne, hx⟩
   · obtain ⟨p, c, rfl, hc, hp⟩ := hv
     refine ⟨p, c, by simp, by simpa using hc, fun _ => ?_⟩
     obtain ⟨b', e1, hp2⟩ := hp hr.2
     obtain ⟨q, c', e⟩ := hb
     rw [e1] at e
     injection e with e; injection e with e; injection e with e
     subst e
     exact ⟨b', e1, RowB.set hp2 r y⟩
   · refine (h.e x hx).kp hk fun k hk' e => ?_
     subst e
     have := pair_ne h.p hx hm (fun e => hne (by rw [e]))
     rcases this with this | this
     · exact this k hk' hb
     · exact this k hb hk'
 · rcases esp_mem h.s hg hx with rfl | ⟨_, hx⟩
   · exact fun k hk' => h.oe _ hm k hk'
   · exact h.oe x hx
 · unfold Esp; rw [List.pairwise_map]; exact h.p
 · unfold Srt Esp; rw [List.pairwise_map]; exact h.s
 · rw [esp_us h.s hg (by simp)]; exact h.u
 · rcases esp_mem h.s hg hx with rfl | ⟨_, hx⟩
   · exact h.n (n, (s, v)) hm
   · exact h.n x hx
theorem xor_u8 (a y : UInt8) : bits .xor .u8 (a.toNat : Int) (y.toNat : Int) = (((a ^^^ y).toNat : Nat) : Int) := by
 rw [UInt8.toNat_xor]
 exact bits_xor_u8 a.toNat y.toNat a.toNat_lt y.toNat_lt
def SpoilQ (O : Nat → Prop) (d sz : Nat) (L : List (List UInt8 × List UInt8)) (o : Option (List (List UInt8 × List UInt8))) (w : World) (e : Ending) (w' : World) : Prop :=
 e = .returned (.bool o.isSome) ∧ TurnsTo O d sz (o.getD L) w w'
set_option maxHeartbeats 4000000 in
set_option maxRecDepth 100000 in
theorem spoil_any {O : Nat → Prop} {d sz : Nat} {L : List (List UInt8 × List UInt8)} (t : ByteArray) (ht : t.size ≤ maxLen) (i : Int) (y : UInt8) (w : World) (h : IsD w O d sz L) :
 Calls Try.prog 16 #[.pointer (some ⟨d, 0, none⟩), .string t, .int .i64 i, .int .u8 (y.toNat : Int)] w (SpoilQ O d sz L (spo t.data.toList i y L) w) := by
 have HI := Lib.hid h
 obtain ⟨m, E, h, rfl⟩ := h
 have c1 := h.h.c 1 _ rfl
 by_cases hy : y = 0
 · have hn : spo t.data.toList i y (mp (·.1) E) = none := by
    unfold spo; rw [gt_L]; cases gt t.data.toList E with
    | none => rfl
    | some z => exact if_pos (.inr hy)
   rw [hn]
   have t0 : ((y.toNat : Int) == 0) = true := by rw [hy]; rfl
   clear h hn hy c1
   go_enter Try.func16, Try.ntmps16
   go_wp2_with (fail)
   go_ret
   exact ⟨rfl, HI.out.stays (Below.refl _ _)⟩
 have t0 : ((y.toNat : Int) == 0) = false := beq_eq_false_iff_ne.2 fun e => hy (UInt8.toNat_inj.1 (by simpa using e))
 obtain ⟨v, hl, hv⟩ := h.val ht
 rcases hv with ⟨hg, rfl⟩ | ⟨s, hg⟩
 · have hn : spo t.data.toList i y (mp (·.1) E) = none := by unfold spo; rw [gt_L, hg]; rfl
   rw [hn]
   clear h hn hy hg
   go_enter Try.func16, Try.ntmps16
   go_wp2_with (fail)
   go_ret
   exact ⟨rfl, HI.out.stays (Below.refl _ _)⟩
 · have hE : Hd w v s := h.e _ (gt_some hg)
   by_cases hs : s = []
   · have hn : spo t.data.toList i y (mp (·.1) E) = none := by unfold spo; rw [gt_L, hg]; exact if_pos (.inl hs)
     rw [hn]
     obtain ⟨p, c, rfl, _, _⟩ := hE
     subst hs
     clear h hn hy hg
     go_enter Try.func16, Try.ntmps16
     go_wp2_with (fail)
     go_ret
     exact ⟨rfl, HI.out.stays (Below.refl _ _)⟩
   · have hn : spo t.data.toList i y (mp (·.1) E) = some (mp (·.1) (Esp t.data.toList (sp i y s) E)) := by
      unfold spo; rw [gt_L, hg, esp_L]; exact if_neg (fun e => e.elim hs hy)
     rw [hn]
     have hln : 0 < s.length := List.length_pos_iff.2 hs
     have hz : s.length ≤ 4194304 := by
      have h1 : t.data.toList.length + s.length + 16 ≤ us (mp (·.1) E) := us_mem (List.mem_map.2 ⟨_, gt_some hg, rfl⟩ : (t.data.toList, s) ∈ mp (·.1) E)
      have h2 := h.u; have h3 := h.z; omega
     obtain ⟨b, c, rfl, hc, hr, hb⟩ := hE.of_ne hs
     have hd := h.spoilt hg hb (rd i s.length) (s.getD (rd i s.length) 0 ^^^ y)
     have hrl := rd_lt i hln
     have hg2 : s.getD (rd i s.length) 0 = s[rd i s.length] := by simp [List.getD, hrl]
     have hx := xor_u8 (s[rd i s.length]) y
     rw [hg2] at hd
     rw [show s.set (rd i s.length) (s[rd i s.length] ^^^ y) = sp i y s from by unfold sp; rw [hg2]] at hd
     have HD := Lib.hid hd
     have HK : Hid (Kp O w (w.setCell ⟨b, rd i s.length, none⟩ (.int .u8 ((s[rd i s.length] ^^^ y).toNat : Int)))) := Lib.hid ((Kp.refl O w).setCell (h.oe _ (gt_some hg) b hb) _ _)
     have hcc := hr.cell _ hrl
     have hff := hr.thaw _ hrl
     have hre := rd_eq i hln
     clear hd hn hy hg hg2 hr hb hs ht h
     generalize s[rd i s.length] ^^^ y = z at *
     generalize s[rd i s.length] = z0 at *
     generalize rd i s.length = r at *
     generalize sp i y s = s' at *
     generalize s.length = k at *
     obtain ⟨q, hq⟩ : ∃ q, i.tmod (k : Int) = q := ⟨_, rfl⟩
     rw [hq] at hre
     by_cases hq0 : q < 0
     · have t1 : decide (q < 0) = true := decide_eq_true hq0
       rw [if_pos hq0] at hre
       have hre2 : q + (k : Int) = (r : Int) := hre.symm
       clear hre
       go_enter Try.func16, Try.ntmps16
       go_wp2_with (fail)
       go_ret
       exact ⟨rfl, O, ⟨m, _, HD.out, rfl⟩, HK.out, fun _ => .inl⟩
     · have t1 : decide (q < 0) = false := decide_eq_false hq0
       rw [if_neg hq0] at hre
       subst hre
       go_enter Try.func16, Try.ntmps16
       go_wp2_with (fail)
       go_ret
       exact ⟨rfl, O, ⟨m, _, HD.out, rfl⟩, HK.out, fun _ => .inl⟩
end Go.Proofs.Ytchmepalhldpcaa.Dk
namespace Go.Proofs.Ytchmepalhldpcaa.Ov
open Go.ChangeShapes Go.WideShapes Go.ChangeAt Go.RowKit Go.Shelf
def cloneRen : Ren := ⟨fun | 25 => 28 | n => n, fun | 0 => 0 | 3 => 3 | 4 => 4 | 5 => 5 | 9 => 9 | 37 => 52 | 47 => 68 | n => n, fun n => n⟩
theorem cloneLays : LaysPu.n25 Try.prog cloneRen :=
 { mixed := by kernel_rfl
   f25 := by kernel_rfl
   t0 := by kernel_rfl
   a0 := fun _ => by kernel_rfl
   z0 := fun _ => by kernel_rfl
   v0 := fun _ => by kernel_rfl
   i0 := by kernel_rfl
   t3 := by kernel_rfl
   a3 := fun _ => by kernel_rfl
   z3 := fun _ => by kernel_rfl
   v3 := fun _ => by kernel_rfl
   i3 := by kernel_rfl
   t4 := by kernel_rfl
   a4 := fun _ => by kernel_rfl
   z4 := fun _ => by kernel_rfl
   v4 := fun _ => by kernel_rfl
   i4 := by kernel_rfl
   t5 := by kernel_rfl
   a5 := fun _ => by kernel_rfl
   z5 := fun _ => by kernel_rfl
   v5 := fun _ => by kernel_rfl
   i5 := by kernel_rfl
   t9 := by kernel_rfl
   a9 := fun _ => by kernel_rfl
   z9 := fun _ => by kernel_rfl
   v9 := fun _ => by kernel_rfl
   i9 := by kernel_rfl
   t37 := by kernel_rfl
   a37 := fun _ => by kernel_rfl
   z37 := fun _ => by kernel_rfl
   v37 := fun _ => by kernel_rfl
   i37 := by kernel_rfl
   t47 := by kernel_rfl
   a47 := fun _ => by kernel_rfl
   z47 := fun _ => by kernel_rfl
   v47 := fun _ => by kernel_rfl
   i47 := by kernel_rfl }
theorem sclone_any (s : ByteArray) (w : World) (hs : s.size ≤ 281474976710656) :
 Calls Try.prog 28 #[.string s] w fun e w' => e = .returned (.string s) ∧ Below w.heap.size w w' := AnyPu.stringslite_Clone cloneLays s w hs
set_option maxHeartbeats 400000 in
theorem clone_any (s : ByteArray) (w : World) (hs : s.size ≤ 281474976710656) :
 Calls Try.prog 24 #[.string s] w fun e w' => e = .returned (.string s) ∧ Below w.heap.size w w' := by
 go_enter Try.func24, Try.ntmps24
 go_wp2_with fail
 refine (sclone_any s _ hs).mono ?_
 rintro e w1 ⟨rfl, hb⟩
 have HB := Lib.hid hb; clear hb
 go_wp2_with fail
 go_ret
 exact ⟨rfl, HB.out⟩
end Go.Proofs.Ytchmepalhldpcaa.Ov
namespace Go.Proofs.Ytchmepalhldpcaa.Ov
open Go.RowKit Go.Maps Go.Sort Go.Shelf Go.Proofs
def keysRen : Ren := ⟨fun | 7 => 23 | 10 => 27 | n => n, fun | 23 => 43 | 26 => 9 | 3 => 52 | 28 => 58 | 0 => 0 | 27 => 57 | 33 => 63 | 4 => 4 | n => n, fun n => n⟩
theorem keysLays : SlLaysZ.n7 Try.prog keysRen :=
 { mixed := by kernel_rfl
   f7 := ⟨Try.f23.name, by decide, Try.func23.trans (congrArg some (by kernel_rfl))⟩
   f10 := ⟨Try.f27.name, by decide, Try.func27.trans (congrArg some (by kernel_rfl))⟩
   t0 := by kernel_rfl
   a0 := fun _ => by kernel_rfl
   z0 := fun _ => by kernel_rfl
   v0 := fun _ => by kernel_rfl
   t4 := by kernel_rfl
   a4 := fun _ => by kernel_rfl
   z4 := fun _ => by kernel_rfl
   v4 := fun _ => by kernel_rfl
   t23 := by kernel_rfl
   a23 := fun _ => by kernel_rfl
   z23 := fun _ => by kernel_rfl
   v23 := fun _ => by kernel_rfl
   t26 := by kernel_rfl
   a26 := fun _ => by kernel_rfl
   z26 := fun _ => by kernel_rfl
   v26 := fun _ => by kernel_rfl
   t27 := by kernel_rfl
   a27 := fun _ => by kernel_rfl
   z27 := fun _ => by kernel_rfl
   v27 := fun _ => by kernel_rfl
   t28 := by kernel_rfl
   a28 := fun _ => by kernel_rfl
   z28 := fun _ => by kernel_rfl
   v28 := fun _ => by kernel_rfl
   t33 := by kernel_rfl
   a33 := fun _ => by kernel_rfl
   z33 := fun _ => by kernel_rfl
   v33 := fun _ => by kernel_rfl }
def sortedRen : Ren := ⟨fun | 6 => 22 | 8 => 25 | 9 => 26 | 11 => 29 | n => n, fun | 26 => 9 | 28 => 58 | 24 => 29 | 0 => 0 | 33 => 63 | n => n, fun n => n⟩
theorem sortedLays : SlLaysZ.n6 Try.prog sortedRen :=
 { mixed := by kernel_rfl
   f6 := ⟨Try.f22.name, by decide, Try.func22.trans (congrArg some (by kernel_rfl))⟩
   f8 := ⟨Try.f25.name, by decide, Try.func25.trans (congrArg some (by kernel_rfl))⟩
   f11 := ⟨Try.f29.name, by decide, Try.func29.trans (congrArg some (by kernel_rfl))⟩
   t0 := by kernel_rfl
   a0 := fun _ => by kernel_rfl
   z0 := fun _ => by kernel_rfl
   v0 := fun _ => by kernel_rfl
   t24 := by kernel_rfl
   a24 := fun _ => by kernel_rfl
   z24 := fun _ => by kernel_rfl
   v24 := fun _ => by kernel_rfl
   t26 := by kernel_rfl
   a26 := fun _ => by kernel_rfl
   z26 := fun _ => by kernel_rfl
   v26 := fun _ => by kernel_rfl
   t28 := by kernel_rfl
   a28 := fun _ => by kernel_rfl
   z28 := fun _ => by kernel_rfl
   v28 := fun _ => by kernel_rfl
   i26 := by kernel_rfl }
def sortRen : Ren := ⟨fun | 6 => 26 | 8 => 31 | 9 => 30 | 19 => 41 | 20 => 42 | 21 => 32 | 22 => 33 | 23 => 34 | 24 => 35 | 25 => 36 | 26 => 37 | 27 => 38 | 28 => 39 | 29 => 40 | 36 => 43 | 31 => 44 | 32 => 45 | 37 => 46 | 38 => 47 | 39 => 48 | 41 => 49 | n => n, fun | 27 => 29 | 29 => 9 | 3 => 3 | 32 => 67 | 26 => 29 | 0 => 0 | 44 => 79 | 46 => 81 | 4 => 4 | 36 => 71 | 35 => 70 | 41 => 76 | 5 => 5 | 9 => 9 | 53 => 82 | 57 => 86 | 63 => 88 | 64 => 89 | n => n, fun n => n⟩
theorem sortLays : SlLaysM.n6 Try.prog sortRen :=
 { mixed := by kernel_rfl
   f6 := ⟨Try.f26.name, by decide, Try.func26.trans (congrArg some (by kernel_rfl))⟩
   f8 := Try.func31.trans (congrArg some (by kernel_rfl))
   f9 := ⟨Try.f30.name, by decide, Try.func30.trans (congrArg some (by kernel_rfl))⟩
   f19 := Try.func41.trans (congrArg some (by kernel_rfl))
   f20 := Try.func42.trans (congrArg some (by kernel_rfl))
   f21 := ⟨Try.f32.name, by decide, Try.func32.trans (congrArg some (by kernel_rfl))⟩
   f22 := ⟨Try.f33.name, by decide, Try.func33.trans (congrArg some (by kernel_rfl))⟩
   f23 := ⟨Try.f34.name, by decide, Try.func34.trans (congrArg some (by kernel_rfl))⟩
   f24 := ⟨Try.f35.name, by decide, Try.func35.trans (congrArg some (by kernel_rfl))⟩
   f25 := ⟨Try.f36.name, by decide, Try.func36.trans (congrArg some (by kernel_rfl))⟩
   f26 := ⟨Try.f37.name, by decide, Try.func37.trans (congrArg some (by kernel_rfl))⟩
   f27 := ⟨Try.f38.name, by decide, Try.func38.trans (congrArg some (by kernel_rfl))⟩
   f28 := ⟨Try.f39.name, by decide, Try.func39.trans (congrArg some (by kernel_rfl))⟩
   f29 := ⟨Try.f40.name, by decide, Try.func40.trans (congrArg some (by kernel_rfl))⟩
   f31 := Try.func44.trans (congrArg some (by kernel_rfl))
   f32 := Try.func45.trans (congrArg some (by kernel_rfl))
   f36 := ⟨Try.f43.name, by decide, Try.func43.trans (congrArg some (by kernel_rfl))⟩
   f37 := ⟨Try.f46.name, by decide, Try.func46.trans (congrArg some (by kernel_rfl))⟩
   f38 := ⟨Try.f47.name, by decide, Try.func47.trans (congrArg some (by kernel_rfl))⟩
   f39 := ⟨Try.f48.name, by decide, Try.func48.trans (congrArg some (by kernel_rfl))⟩
   f41 := ⟨Try.f49.name, by decide, Try.func49.trans (congrArg some (by kernel_rfl))⟩
   t0 := by kernel_rfl
   a0 := fun _ => by kernel_rfl
   z0 := fun _ => by kernel_rfl
   v0 := fun _ => by kernel_rfl
   t3 := by kernel_rfl
   a3 := fun _ => by kernel_rfl
   z3 := fun _ => by kernel_rfl
   v3 := fun _ => by kernel_rfl
   t4 := by kernel_rfl
   a4 := fun _ => by kernel_rfl
   z4 := fun _ => by kernel_rfl
   v4 := fun _ => by kernel_rfl
   t5 := by kernel_rfl
   a5 := fun _ => by kernel_rfl
   z5 := fun _ => by kernel_rfl
   v5 := fun _ => by kernel_rfl
   t9 := by kernel_rfl
   a9 := fun _ => by kernel_rfl
   z9 := fun _ => by kernel_rfl
   v9 := fun _ => by kernel_rfl
   t26 := by kernel_rfl
   a26 := fun _ => by kernel_rfl
   z26 := fun _ => by kernel_rfl
   v26 := fun _ => by kernel_rfl
   t27 := by kernel_rfl
   a27 := fun _ => by kernel_rfl
   z27 := fun _ => by kernel_rfl
   v27 := fun _ => by kernel_rfl
   t29 := by kernel_rfl
   a29 := fun _ => by kernel_rfl
   z29 := fun _ => by kernel_rfl
   v29 := fun _ => by kernel_rfl
   t32 := by kernel_rfl
   a32 := fun _ => by kernel_rfl
   z32 := fun _ => by kernel_rfl
   v32 := fun _ => by kernel_rfl
   t35 := by kernel_rfl
   a35 := fun _ => by kernel_rfl
   z35 := fun _ => by kernel_rfl
   v35 := fun _ => by kernel_rfl
   t36 := by kernel_rfl
   a36 := fun _ => by kernel_rfl
   z36 := fun _ => by kernel_rfl
   v36 := fun _ => by kernel_rfl
   t41 := by kernel_rfl
   a41 := fun _ => by kernel_rfl
   z41 := fun _ => by kernel_rfl
   v41 := fun _ => by kernel_rfl
   t44 := by kernel_rfl
   a44 := fun _ => by kernel_rfl
   z44 := fun _ => by kernel_rfl
   v44 := fun _ => by kernel_rfl
   t46 := by kernel_rfl
   a46 := fun _ => by kernel_rfl
   z46 := fun _ => by kernel_rfl
   v46 := fun _ => by kernel_rfl
   t53 := by kernel_rfl
   a53 := fun _ => by kernel_rfl
   z53 := fun _ => by kernel_rfl
   v53 := fun _ => by kernel_rfl
   t57 := by kernel_rfl
   a57 := fun _ => by kernel_rfl
   z57 := fun _ => by kernel_rfl
   v57 := fun _ => by kernel_rfl
   t63 := by kernel_rfl
   a63 := fun _ => by kernel_rfl
   z63 := fun _ => by kernel_rfl
   v63 := fun _ => by kernel_rfl
   t64 := by kernel_rfl
   a64 := fun _ => by kernel_rfl
   z64 := fun _ => by kernel_rfl
   v64 := fun _ => by kernel_rfl }
theorem sorts (m : Nat) : AnyZ.SortsIn Try.prog sortedRen Fence.wide m :=
 ⟨fun blk off cap ss W hH hblk hsz => callsIn_wide.2 (AnyM.slices_Sort_string sortLays blk off cap ss W hH hblk hsz),
  fun p cap W => callsIn_wide.2 (AnyM.slices_Sort_string_none sortLays p cap W)⟩
theorem keys_in (mb : Option Nat) (W : World) : CallsIn Fence.wide 5 Try.prog 23 #[.map mb] W fun e w' => e = .returned (.func (.func 27) #[] #[.pointer (some ⟨W.heap.size, 0, none⟩)]) ∧ w' = W.alloc (.cells #[.map mb] 43) :=
 AnyZ.keys_in keysLays Fence.wide 5 trivial rfl mb W
set_option maxHeartbeats 1000000 in
theorem sorted_in {H : Type} (b nn : Nat) (D0 : DataW H) (R : Value → Option (DataW H × List MemPlace)) (w : World) (hown : w.ownsMap Try.prog 9 R b nn D0) (hmax : Maps.size D0 ≤ maxLen) (hbytes : Maps.size D0 * 16 ≤ 140737488355328) :
 CallsIn Fence.wide 5 Try.prog 22 #[.func (.func 27) #[] #[.pointer (some ⟨w.heap.size, 0, none⟩)]] (w.alloc (.cells #[.map (some b)] 43)) fun e w' => ∃ (v : Value) (ss : List (List UInt8)), e = .returned v ∧ ss.Perm (strKeys D0) ∧
  w'.ownsRow (w.heap.size + 1) 9 1 v ss.length ((ss.mergeSort (fun x y => decide (x ≤ y))).map encStr) ∧ (v = .slice none 0 0 ↔ ss = []) ∧ Below (w.heap.size + 1) (w.alloc (.cells #[.map (some b)] 43)) w' := by
 have hbl := hown.lt
 have hseq : SeqGives Fence.wide 2 Try.prog 27 #[.pointer (some ⟨w.heap.size, 0, none⟩)] encStr (fun ss => ss.Perm (strKeys D0)) (Maps.size D0) (w.alloc (.cells #[.map (some b)] 43)) :=
  AnyZ.keys_gives (ρ := keysRen) { keysLays with } Fence.wide _ trivial rfl (by omega) w.heap.size b nn D0 _ (by simp) (by simp) (by
   obtain ⟨es, clock, hb, Ft, hs, hD⟩ := hown
   exact ⟨es, clock, (Below.heap_alloc _ _ b hbl).trans hb, Ft, hs, hD⟩)
 have h := AnyZ.sorted_in sortedLays Fence.wide 5 trivial trivial trivial trivial rfl (by omega) (sorts _) (enters_of Try.func26 (by kernel_rfl) rfl) 27 #[.pointer (some ⟨w.heap.size, 0, none⟩)] trivial (enters_of Try.func27 (by kernel_rfl) rfl) _ _ hmax hbytes _ hseq
 have e : (w.alloc (.cells #[.map (some b)] 43)).heap.size = w.heap.size + 1 := by simp
 rw [e] at h
 exact h
end Go.Proofs.Ytchmepalhldpcaa.Ov
namespace Go.Proofs.Ytchmepalhldpcaa.Ov
open Go.ChangeShapes Go.WideShapes Go.ChangeAt Go.RowKit
theorem one_news (w : World) (v : Value) (ty : TypeId) : ∀ j u, [v][j]? = some u → (w.alloc (.cells #[v] ty)).cell? ((⟨w.heap.size, 0, none⟩ : Addr).add j) = some u := by
 intro a u ha
 match a, ha with
 | 0, ha =>
   simp at ha; subst ha
   simp [Addr.add]
end Go.Proofs.Ytchmepalhldpcaa.Ov
namespace Go.Proofs.Ytchmepalhldpcaa.Ov
open Go.ChangeShapes Go.WideShapes Go.ChangeAt Go.RowKit Go.Proofs
end Go.Proofs.Ytchmepalhldpcaa.Ov
namespace Go.Proofs.Ytchmepalhldpcaa.Ov
open Go.ChangeShapes Go.WideShapes Go.ChangeAt Go.RowKit
section
variable {P : Program} {ops : Array Oper} {md : Region.Mode} {C : World → Prop}
def Heads (P : Program) (md : Region.Mode) (ops : Array Oper) (C : World → Prop) (n : Nat) (L : Array Bool → Act → Prop) : Nat → Array Bool → Act → Prop
 | 0, listed, a => L listed a
 | f + 1, listed, a => Region.ready md ops listed ≠ [] ∧ ∀ i ∈ Region.ready md ops listed, i < n ∧ qOp P ops C i (Heads P md ops C n L f (listed.setIfInBounds i true)) a
theorem Heads.any {n g : Nat} {L : Array Bool → Act → Prop} {Q' : Exit → Act → World → Prop} (hL : ∀ listed a w, C w → L listed a → wpAny P md ops Q' g listed a w) :
 ∀ (f : Nat) (listed : Array Bool) (a : Act) (w : World), C w → Heads P md ops C n L f listed a → wpAny P md ops Q' (f + g) listed a w
 | 0, listed, a, w, hw, h => by rw [Nat.zero_add]; exact hL _ _ _ hw h
 | f + 1, listed, a, w, hw, h => by
   rw [show f + 1 + g = (f + g) + 1 by omega]
   exact ⟨fun h0 => absurd h0 h.1, fun i hi => wpOp_of_qOp hw (fun a' w' hw' h' => Heads.any hL f _ a' w' hw' h') (h.2 i hi).2⟩
end
section
variable {P : Program} {ops : Array Oper} {md : Region.Mode} {C : World → Prop}
def gateB (md : Region.Mode) (ops : Array Oper) (n : Nat) : Bool :=
 (List.range ops.size).all fun t => decide (t < n) || (List.range ops.size).any fun j => decide (n ≤ j + 1) && Region.waitsFor md ops t j
theorem gate_waits {n : Nat} {listed : Array Bool} (hs : Region.sinkB md ops (n - 1) = true) (hg : gateB md ops n = true) (hn : n ≤ ops.size) (inv : HeadInv md ops n listed) {i : Nat} (hi : i < n) (hun : listed.getD i true = false) :
 ∀ t, n ≤ t → t ∉ Region.ready md ops listed := by
 have last : ∀ (d i : Nat), n - 1 - i = d → i < n → listed.getD i true = false → listed.getD (n - 1) true = false := by
  intro d
  induction d using Nat.strongRecOn with
  | _ d ih =>
    intro i hd hi hun
    by_cases e : i = n - 1
    · exact e ▸ hun
    · obtain ⟨j, hj, hj2⟩ := List.any_eq_true.1 (List.all_eq_true.1 hs i (List.mem_range.2 (by omega)))
      simp only [Bool.and_eq_true, decide_eq_true_eq] at hj2
      obtain ⟨oj, hoj, e', he, hb, hon⟩ := Region.waitsFor_spec hj2.2
      have hjl : j < n := by have := List.mem_range.1 hj; omega
      cases hl : listed.getD j false with
      | true => have h2 := inv.closed j oj hoj hl e' he hb; rw [hon, getD_both hun] at h2; cases h2
      | false => exact ih (n - 1 - j) (by omega) j rfl hjl (getD_in (by rw [inv.size]; omega) hl)
 intro t ht hr
 have hl := last _ i rfl hi hun
 obtain ⟨_, ot, hot, hall⟩ := mem_ready.1 hr
 have htlt : t < ops.size := (Array.getElem?_eq_some_iff.1 hot).1
 have h1 := List.all_eq_true.1 hg t (List.mem_range.2 htlt)
 simp only [Bool.or_eq_true, decide_eq_true_eq] at h1
 rcases h1 with h1 | h1
 · omega
 · obtain ⟨j, hj, hj2⟩ := List.any_eq_true.1 h1
   simp only [Bool.and_eq_true, decide_eq_true_eq] at hj2
   obtain ⟨o', ho', e, he, hb, hon⟩ := Region.waitsFor_spec hj2.2
   have : o' = ot := Option.some.inj (ho'.symm.trans hot)
   subst this
   have h2 := hall e he hb
   rw [hon] at h2
   have hjz := List.mem_range.1 hj
   by_cases e : j = n - 1
   · rw [e, getD_both hl] at h2; cases h2
   · rw [getD_both (inv.tail j (by omega) hjz)] at h2; cases h2
theorem Heads.first2 {n i : Nat} {oi : Oper} {v : Value} {L : Array Bool → Act → Prop} (hi : ops[i]? = some oi) (hsel : ∀ (j : Nat) (o : Oper) cs b, ops[j]? = some o → o.op ≠ .select cs b)
 (hw : ∀ listed, HeadInv md ops n listed → ∀ i, i < n → listed.getD i true = false → ∀ t, n ≤ t → t ∉ Region.ready md ops listed) (hin : i < n) (hdone : ∀ listed a, L listed a → ∀ j ∈ Region.ready md ops listed, n ≤ j) (f : Nat) :
 ∀ (listed : Array Bool) (a : Act), HeadInv md ops n listed →
  (∀ j oj, ops[j]? = some oj → j ≠ i → listed.getD j true = false → (∀ e ∈ oj.after, Region.binds md e = true → e.on ≠ i) → oi.apart ops oj = true) →
  i ∈ Region.ready md ops listed → YieldsIn P ops C oi v a →
  Heads P md ops C n L f (listed.setIfInBounds i true) (a.put oi.dst v) → Heads P md ops C n L (f + 1) listed a := by
 induction f with
 | zero =>
   intro listed a inv hfree hr hy H
   have hun := (mem_ready.1 hr).1
   refine ⟨List.ne_nil_of_mem hr, fun j hj => ?_⟩
   have hjn : j < n := Nat.lt_of_not_le fun h => hw _ inv i hin hun j h hj
   refine ⟨hjn, ?_⟩
   rcases Nat.decEq j i with e | rfl
   · exact absurd (hdone _ _ H j (ready_mono hj e)) (by omega)
   · exact hy.qOp hi H
 | succ f ih =>
   intro listed a inv hfree hr hy H
   have hun := (mem_ready.1 hr).1
   refine ⟨List.ne_nil_of_mem hr, fun j hj => ?_⟩
   have hjn : j < n := Nat.lt_of_not_le fun h => hw _ inv i hin hun j h hj
   refine ⟨hjn, ?_⟩
   rcases Nat.decEq j i with e | rfl
   · obtain ⟨hjun, oj, hoj, hall⟩ := mem_ready.1 hj
     have hnot : ∀ e ∈ oj.after, Region.binds md e = true → e.on ≠ i := by
      intro d hd hb he
      have h1 := hall d hd hb
      rw [he, getD_both hun] at h1
      cases h1
     refine qOp_mono (fun a' h3 => ih (listed.setIfInBounds j true) a' (inv.set hj hjn) ?_ (ready_mono hr (Ne.symm e)) h3.1 ?_)
      (qOp_put hoj (hfree j oj hoj e hjun hnot) (fun cs b => hsel i oi cs b hi) (fun cs b => hsel j oj cs b hoj) hy (H.2 j (ready_mono hj e)).2)
     · intro k ok hk hki hku hno
       refine hfree k ok hk hki ?_ hno
       rcases Nat.decEq j k with d | rfl
       · rwa [getD_set_ne true d] at hku
       · exact hjun
     · rw [Array.setIfInBounds_comm _ _ e]; exact h3.2
   · exact hy.qOp hi H
def fin : Nat → Nat → Array Bool → Array Bool
 | 0, _, listed => listed
 | f + 1, k, listed => fin f (k + 1) (listed.setIfInBounds k true)
def lexB (md : Region.Mode) (ops : Array Oper) : Nat → Nat → Array Bool → Bool
 | 0, k, listed => (Region.ready md ops listed).all fun j => decide (k ≤ j)
 | f + 1, k, listed => (Region.ready md ops listed).contains k && Region.free md ops listed k && lexB md ops f (k + 1) (listed.setIfInBounds k true)
theorem lexB_fin : ∀ (f k : Nat) (listed : Array Bool), lexB md ops f k listed = true → ∀ j ∈ Region.ready md ops (fin f k listed), k + f ≤ j
 | 0, k, listed, h, j, hj => by simpa using List.all_eq_true.1 h j hj
 | f + 1, k, listed, h, j, hj => by
   simp only [lexB, Bool.and_eq_true] at h
   have := lexB_fin f (k + 1) _ h.2 j hj
   omega
theorem Heads.lex2 {n : Nat} {Lq : Act → Prop} {F : Array Bool} (hsel : Region.noSelect ops = true) (hw : ∀ listed, HeadInv md ops n listed → ∀ i, i < n → listed.getD i true = false → ∀ t, n ≤ t → t ∉ Region.ready md ops listed)
 (hF : ∀ j ∈ Region.ready md ops F, n ≤ j) :
 ∀ (l : List Oper) (k : Nat) (listed : Array Bool) (a : Act), (∀ j, j < l.length → l[j]? = ops[k + j]?) → k + l.length = n → HeadInv md ops n listed → fin l.length k listed = F →
 lexB md ops l.length k listed = true → wpQuiet P ops C Lq l a →
 Heads P md ops C n (fun listed' a' => listed' = F ∧ Lq a') l.length listed a
 | [], k, listed, a, _, hk, _, hf, hB, h => ⟨hf, h⟩
 | o :: l, k, listed, a, hl, hk, inv, hf, hB, h => by
   have h0 : ops[k]? = some o := by simpa using (hl 0 (by simp)).symm
   simp only [List.length_cons, lexB, Bool.and_eq_true] at hB
   obtain ⟨⟨hr, hfr⟩, hB'⟩ := hB
   have hr' : k ∈ Region.ready md ops listed := by simpa using hr
   have hk' : k + 1 + l.length = n := by rw [← hk, List.length_cons]; omega
   have hkn : k < n := by omega
   obtain ⟨v, hy, hK⟩ := yieldsIn_of_qOp h0 (show qOp P ops C k (wpQuiet P ops C Lq l) a by unfold qOp; simp only [h0]; exact h)
   exact Heads.first2 h0 (Region.noSelect_spec hsel) hw hkn (fun listed' a' hL => by rw [hL.1]; exact hF) l.length listed a inv (Region.free_spec h0 hfr) hr' hy
    (Heads.lex2 hsel hw hF l (k + 1) _ _ (fun j hj => by have := hl (j + 1) (by simp; omega); simpa [Nat.add_assoc, Nat.add_comm 1 j] using this) hk' (inv.set hr' hkn) hf hB' hK)
def headB (md : Region.Mode) (ops : Array Oper) (n : Nat) : Bool :=
 Region.noSelect ops && decide (n ≤ ops.size) && Region.sinkB md ops (n - 1) && gateB md ops n && lexB md ops n 0 (Array.replicate ops.size false)
theorem wp_over_head {id : Nat} {Q : Exit → Act → World → Prop} {a : Act} {w : World} {l : List Oper} (n : Nat) (hm : P.follows .mixedOrders = true) (hB : headB .any l.toArray n = true)
 (h : wpQuiet P l.toArray (fun w' => ∃ q : Over w, w' = q.val) (fun a' => ∀ w', (∃ q : Over w, w' = q.val) → wpAny P .any l.toArray Q (l.length - n) (fin n 0 (Array.replicate l.toArray.size false)) a' w') (l.take n) a) : (Code.region id l.toArray true).wp P Q a w := by
 simp only [headB, Bool.and_eq_true, decide_eq_true_eq] at hB
 obtain ⟨⟨⟨⟨hsel, hn⟩, hs⟩, hg⟩, hlex⟩ := hB
 have hn' : n ≤ l.length := by simpa using hn
 have htl : (l.take n).length = n := by simp; omega
 have inv0 : HeadInv .any l.toArray n (Array.replicate l.toArray.size false) :=
  ⟨by simp, fun j oj _ hl => (by rw [getD_replicate_false] at hl; cases hl), fun t _ ht => getD_in (by simpa using ht) (getD_replicate_false _ _)⟩
 have H := Heads.lex2 (md := .any) (F := fin n 0 (Array.replicate l.toArray.size false)) hsel (fun listed inv i hi hun => gate_waits hs hg hn inv hi hun) (fun j hj => by have := lexB_fin n 0 _ hlex j hj; omega) (l.take n) 0 _ a (fun j hj => by
  have hj' : j < n := by rw [htl] at hj; exact hj
  simp [hj']) (by simpa using htl) inv0 (by rw [htl]) (by rw [htl]; exact hlex) h
 refine wp_region_any hm ?_
 have H2 := Heads.any (Q' := Q) (g := l.length - n) (fun listed a' w' hw hL => by rw [hL.1]; exact hL.2 w' hw) _ _ _ _ ⟨⟨w.drew, below_drewN (Below.refl _ _) 1⟩, rfl⟩ H
 rw [htl, show n + (l.length - n) = l.toArray.size by simp; omega] at H2
 exact H2
end
end Go.Proofs.Ytchmepalhldpcaa.Ov

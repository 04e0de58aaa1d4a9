/-
  Small texts of this claim, together: OvBase, TpMath, OvBlk, OvClone, OvTail, OvJump, TpCut, OvRng, OvFloat, OvTurn, OvKp, OvRngO, OvRngA, OvStep.
-/
import Derived.Test.YtkbhnphkopgccaaRows
import Derived.WalkKit
import Derived.ProofKit
import Derived.OpenShut
import Derived.WalkMore
import Derived.ScopeJumps
import Derived.Deep.QuietTactic
import Derived.BigQuiet
import Derived.Lib.Hide
import Derived.Deep.LoopGhost
import Derived.Deep.OwnRows
import Derived.Laws.CopyOwn
import Derived.Carry
import Derived.Lib.SlBytesRow
import Derived.Shelf.Pu.Clone
import Derived.StillTail
import Derived.RangeFuncNested
import Derived.Laws.ComplexArith
import Derived.OwnWalkIn
import Derived.Maps.AppendAt
import Derived.Deep.RegionLaw
import Derived.ControlIn
namespace Go.Proofs.Ytkbhnphkopgccaa.Ov
open Go.ChangeShapes Go.WideShapes Go.ChangeAt Go.RowKit
theorem below_drewN {B : Nat} {w w' : World} (h : Below B w w') (m : Nat) : Below B w (w'.drewN m) := ⟨h.os, h.tape, h.output, h.size, h.block⟩
theorem Below.next {w w1 w2 : World} (h : Below w.heap.size w w1) (k : Below w1.heap.size w1 w2) : Below w.heap.size w w2 := h.trans (k.mono h.size)
def Over (w : World) : Type := { x : World // Below w.heap.size w x }
instance (w : World) : Nonempty (Over w) := ⟨⟨w, Below.refl _ _⟩⟩
theorem wp_over {P : Program} {id : Nat} {Q : Exit → Act → World → Prop} {a : Act} {w : World} {l : List Oper} (hm : P.follows .mixedOrders = true) (hB : Region.lexB .any l.toArray = true)
 (h : wpQuiet P l.toArray (fun w' => ∃ q : Over w, w' = q.val) (fun a' => ∀ w', (∃ q : Over w, w' = q.val) → Q .normal a' w') l a) : (Code.region id l.toArray true).wp P Q a w :=
 wp_region_quiet (C := fun w' => ∃ q : Over w, w' = q.val) hm hB ⟨⟨w.drew, below_drewN (Below.refl _ _) 1⟩, rfl⟩ (by simpa using h)
section
variable {w : World}
theorem over_cell (q : Over w) {p : Addr} {v : Value} (h : w.cell? p = some v) : q.val.cell? p = some v := by
 rw [q.property.cell (p := p) (block_lt_of_cell h)]; exact h
theorem over_make {P : Program} {f : FuncId} {args : Array Value} {v : Value} (q : Over w) (h : Calls P f args q.val fun e w' => e = .returned v ∧ Below q.val.heap.size q.val w') :
 Calls P f args q.val fun e w' => e = .returned v ∧ ∃ q' : Over w, w' = q'.val :=
 h.mono fun _ w' ⟨he, hb⟩ => ⟨he, ⟨w', Below.next q.property hb⟩, rfl⟩
end
def Gives (v : Value) (w : World) (e : Ending) (w' : World) : Prop := e = .returned v ∧ Below w.heap.size w w'
theorem over_gives {P : Program} {f : FuncId} {args : Array Value} {v : Value} {w : World} (q : Over w) (h : Calls P f args q.val (Gives v q.val)) :
 Calls P f args q.val fun e w' => e = .returned v ∧ ∃ q' : Over w, w' = q'.val := over_make q h
theorem ret_int {k : IntKind} {a b : Int} (h : a = b) : Ending.returned (.int k a) = .returned (.int k b) := by rw [h]
def tx (l : List UInt8) : ByteArray := ⟨l.toArray⟩
theorem tx_list (l : List UInt8) : (tx l).data.toList = l := by simp [tx]
theorem tx_size (l : List UInt8) : (tx l).size = l.length := by simp [tx, ByteArray.size]
theorem tx_of (s : ByteArray) : tx s.data.toList = s := by simp [tx]
section
variable {w w0 wr wr' : World} {B : Nat} {ty : TypeId} {n : Nat} {f : Nat → Value} {z : Value} {k : Nat}
end
end Go.Proofs.Ytkbhnphkopgccaa.Ov
namespace Go.Proofs.Ytkbhnphkopgccaa.Tp
open Go.ChangeShapes Go.WideShapes Go.ChangeAt Go.RowKit Ov
def nb (n : Nat) : List UInt8 := if n < 128 then [UInt8.ofNat n] else UInt8.ofNat (n % 128 + 128) :: nb (n / 128)
termination_by n
decreasing_by omega
def cn : Nat → Nat → List UInt8 → Nat × List UInt8 × Nat
 | _, _, [] => (0, [], 2)
 | i, n, b :: t =>
   if 128 ≤ b.toNat ∧ i + 1 < 8 then cn (i + 1) (n + b.toNat % 128 * 2 ^ (7 * i)) t
   else if 128 ≤ b.toNat ∨ (b.toNat = 0 ∧ 1 < i + 1) ∨ 9007199254740991 < n + b.toNat % 128 * 2 ^ (7 * i) then (0, [], 6)
   else (n + b.toNat % 128 * 2 ^ (7 * i), t, 0)
def wn (n : Int) : Nat := if n < 0 then (-2 * n - 1).toNat else (2 * n).toNat
end Go.Proofs.Ytkbhnphkopgccaa.Tp
namespace Go.Proofs.Ytkbhnphkopgccaa.Ov
open Go.ChangeShapes Go.WideShapes Go.ChangeAt Go.RowKit
structure Blk (w : World) (b : Nat) (vs : List Value) : Prop where
 c : ∀ (i : Nat) (v : Value), vs[i]? = some v → w.cell? ⟨b, i, none⟩ = some v
 f : ∀ (i : Nat) (v : Value), vs[i]? = some v → w.frozen? ⟨b, i, none⟩ = false
 lt : b < w.heap.size
section
variable {w w' : World} {b : Nat} {vs : List Value}
theorem Blk.next (h : Blk w b vs) (k : Below w.heap.size w w') : Blk w' b vs :=
 ⟨fun i v e => (k.cell (p := ⟨b, i, none⟩) h.lt).trans (h.c i v e), fun i v e => (k.frozen (p := ⟨b, i, none⟩) h.lt).trans (h.f i v e), Nat.lt_of_lt_of_le h.lt k.size⟩
theorem Blk.old (h : Blk w b vs) (o : Obj) : Blk (w.alloc o) b vs := h.next ((Below.refl _ _).alloc (Nat.le_refl _) _)
theorem Blk.drew (h : Blk w b vs) : Blk w.drew b vs := ⟨h.c, h.f, h.lt⟩
theorem Blk.over (h : Blk w b vs) (q : Over w) : Blk q.val b vs := h.next q.property
theorem Blk.put (h : Blk w b vs) {c : Nat} (hc : c ≠ b) (o : Nat) (z : Value) : Blk (w.setCell ⟨c, o, none⟩ z) b vs :=
 ⟨fun i v e => by rw [World.cell?_setCell_other _ _ _ _ (fun e => hc (congrArg Addr.block e))]; exact h.c i v e,
  fun i v e => by rw [World.frozen?_setCell]; exact h.f i v e, by simpa using h.lt⟩
theorem Blk.set (h : Blk w b vs) (o : Nat) (z : Value) : Blk (w.setCell ⟨b, o, none⟩ z) b (vs.set o z) := by
 refine ⟨fun i v e => ?_, fun i v e => ?_, by simpa using h.lt⟩
 · by_cases ho : o = i
   · subst ho
     have hlt : o < vs.length := by
      have := (List.getElem?_eq_some_iff.1 e).1
      simpa using this
     rw [List.getElem?_set_self hlt] at e
     obtain rfl := Option.some.inj e
     exact World.cell?_setCell_same _ _ _ (h.c o vs[o] (List.getElem?_eq_getElem hlt))
   · rw [List.getElem?_set_ne ho] at e
     rw [World.cell?_setCell_other _ _ _ _ (fun e => ho (by injection e))]
     exact h.c i v e
 · rw [World.frozen?_setCell]
   by_cases ho : o = i
   · subst ho
     have hlt : o < vs.length := by
      have := (List.getElem?_eq_some_iff.1 e).1
      simpa using this
     exact h.f o vs[o] (List.getElem?_eq_getElem hlt)
   · rw [List.getElem?_set_ne ho] at e
     exact h.f i v e
theorem Blk.made (w : World) (t : TypeId) (vs : List Value) {n : Nat} (hn : w.heap.size = n) : Blk (w.alloc (.cells vs.toArray t)) n vs := by
 subst hn
 exact ⟨fun i v e => by simpa [World.cell?_alloc_new] using e, fun i v _ => by simp [World.frozen?_alloc_new], by simp⟩
end
theorem box1 (w : World) (a : Obj) : Below w.heap.size w (w.alloc a) := (Below.refl _ _).alloc (Nat.le_refl _) _
theorem box2 (w : World) (a b : Obj) : Below w.heap.size w ((w.alloc a).alloc b) := (box1 w a).alloc (by simp) _
theorem box3 (w : World) (a b c : Obj) : Below w.heap.size w (((w.alloc a).alloc b).alloc c) := (box2 w a b).alloc (by simp; omega) _
theorem box4 (w : World) (a b c d : Obj) : Below w.heap.size w ((((w.alloc a).alloc b).alloc c).alloc d) := (box3 w a b c).alloc (by simp; omega) _
end Go.Proofs.Ytkbhnphkopgccaa.Ov
namespace Go.Proofs.Ytkbhnphkopgccaa
open Go
theorem ck5 {w : World} {b : Nat} {x0 x1 x2 x3 x4 : Value} {t : List Value} (h : Ov.Blk w b (x0 :: x1 :: x2 :: x3 :: x4 :: t)) : w.cell? ⟨b, 0, none⟩ = some x0 ∧ w.cell? ⟨b, 1, none⟩ = some x1 ∧ w.cell? ⟨b, 2, none⟩ = some x2 ∧ w.cell? ⟨b, 3, none⟩ = some x3 ∧ w.cell? ⟨b, 4, none⟩ = some x4 :=
 ⟨h.c 0 _ rfl, h.c 1 _ rfl, h.c 2 _ rfl, h.c 3 _ rfl, h.c 4 _ rfl⟩
theorem ck6 {w : World} {b : Nat} {x0 x1 x2 x3 x4 x5 : Value} {t : List Value} (h : Ov.Blk w b (x0 :: x1 :: x2 :: x3 :: x4 :: x5 :: t)) : w.cell? ⟨b, 0, none⟩ = some x0 ∧ w.cell? ⟨b, 1, none⟩ = some x1 ∧ w.cell? ⟨b, 2, none⟩ = some x2 ∧ w.cell? ⟨b, 3, none⟩ = some x3 ∧ w.cell? ⟨b, 4, none⟩ = some x4 ∧ w.cell? ⟨b, 5, none⟩ = some x5 :=
 ⟨h.c 0 _ rfl, h.c 1 _ rfl, h.c 2 _ rfl, h.c 3 _ rfl, h.c 4 _ rfl, h.c 5 _ rfl⟩
theorem ck7 {w : World} {b : Nat} {x0 x1 x2 x3 x4 x5 x6 : Value} {t : List Value} (h : Ov.Blk w b (x0 :: x1 :: x2 :: x3 :: x4 :: x5 :: x6 :: t)) : w.cell? ⟨b, 0, none⟩ = some x0 ∧ w.cell? ⟨b, 1, none⟩ = some x1 ∧ w.cell? ⟨b, 2, none⟩ = some x2 ∧ w.cell? ⟨b, 3, none⟩ = some x3 ∧ w.cell? ⟨b, 4, none⟩ = some x4 ∧ w.cell? ⟨b, 5, none⟩ = some x5 ∧ w.cell? ⟨b, 6, none⟩ = some x6 :=
 ⟨h.c 0 _ rfl, h.c 1 _ rfl, h.c 2 _ rfl, h.c 3 _ rfl, h.c 4 _ rfl, h.c 5 _ rfl, h.c 6 _ rfl⟩
theorem ck11 {w : World} {b : Nat} {x0 x1 x2 x3 x4 x5 x6 x7 x8 x9 x10 : Value} {t : List Value} (h : Ov.Blk w b (x0 :: x1 :: x2 :: x3 :: x4 :: x5 :: x6 :: x7 :: x8 :: x9 :: x10 :: t)) : w.cell? ⟨b, 0, none⟩ = some x0 ∧ w.cell? ⟨b, 1, none⟩ = some x1 ∧ w.cell? ⟨b, 2, none⟩ = some x2 ∧ w.cell? ⟨b, 3, none⟩ = some x3 ∧ w.cell? ⟨b, 4, none⟩ = some x4 ∧ w.cell? ⟨b, 5, none⟩ = some x5 ∧ w.cell? ⟨b, 6, none⟩ = some x6 ∧ w.cell? ⟨b, 7, none⟩ = some x7 ∧ w.cell? ⟨b, 8, none⟩ = some x8 ∧ w.cell? ⟨b, 9, none⟩ = some x9 ∧ w.cell? ⟨b, 10, none⟩ = some x10 :=
 ⟨h.c 0 _ rfl, h.c 1 _ rfl, h.c 2 _ rfl, h.c 3 _ rfl, h.c 4 _ rfl, h.c 5 _ rfl, h.c 6 _ rfl, h.c 7 _ rfl, h.c 8 _ rfl, h.c 9 _ rfl, h.c 10 _ rfl⟩
end Go.Proofs.Ytkbhnphkopgccaa
namespace Go.Proofs.Ytkbhnphkopgccaa.Ov
open Go.ChangeShapes Go.WideShapes Go.ChangeAt Go.RowKit Go.Shelf
def cloneRen : Ren := ⟨fun | 25 => 59 | n => n, fun | 0 => 0 | 3 => 3 | 4 => 4 | 5 => 5 | 9 => 9 | 37 => 112 | 47 => 113 | n => n, fun n => n⟩
theorem cloneLays : LaysPu.n25 Try.prog cloneRen :=
 { mixed := by kernel_rfl
   f25 := by kernel_rfl
   t0 := by kernel_rfl
   a0 := fun _ => by kernel_rfl
   z0 := fun _ => by kernel_rfl
   v0 := fun _ => by kernel_rfl
   i0 := by kernel_rfl
   t3 := by kernel_rfl
   a3 := fun _ => by kernel_rfl
   z3 := fun _ => by kernel_rfl
   v3 := fun _ => by kernel_rfl
   i3 := by kernel_rfl
   t4 := by kernel_rfl
   a4 := fun _ => by kernel_rfl
   z4 := fun _ => by kernel_rfl
   v4 := fun _ => by kernel_rfl
   i4 := by kernel_rfl
   t5 := by kernel_rfl
   a5 := fun _ => by kernel_rfl
   z5 := fun _ => by kernel_rfl
   v5 := fun _ => by kernel_rfl
   i5 := by kernel_rfl
   t9 := by kernel_rfl
   a9 := fun _ => by kernel_rfl
   z9 := fun _ => by kernel_rfl
   v9 := fun _ => by kernel_rfl
   i9 := by kernel_rfl
   t37 := by kernel_rfl
   a37 := fun _ => by kernel_rfl
   z37 := fun _ => by kernel_rfl
   v37 := fun _ => by kernel_rfl
   i37 := by kernel_rfl
   t47 := by kernel_rfl
   a47 := fun _ => by kernel_rfl
   z47 := fun _ => by kernel_rfl
   v47 := fun _ => by kernel_rfl
   i47 := by kernel_rfl }
theorem sclone_any (s : ByteArray) (w : World) (hs : s.size ≤ 281474976710656) :
 Calls Try.prog 59 #[.string s] w fun e w' => e = .returned (.string s) ∧ Below w.heap.size w w' := AnyPu.stringslite_Clone cloneLays s w hs
set_option maxHeartbeats 400000 in
theorem clone_any (s : ByteArray) (w : World) (hs : s.size ≤ 281474976710656) :
 Calls Try.prog 38 #[.string s] w fun e w' => e = .returned (.string s) ∧ Below w.heap.size w w' := by
 go_enter Try.func38, Try.ntmps38
 go_wp2_with fail
 refine (sclone_any s _ hs).mono ?_
 rintro e w1 ⟨rfl, hb⟩
 have HB := Lib.hid hb; clear hb
 go_wp2_with fail
 go_ret
 exact ⟨rfl, HB.out⟩
end Go.Proofs.Ytkbhnphkopgccaa.Ov
namespace Go.Proofs.Ytkbhnphkopgccaa.Ov
open Go.ChangeShapes Go.WideShapes Go.ChangeAt Go.RowKit
section
variable {P : Program} {ops : Array Oper} {md : Region.Mode} {C : World → Prop}
def Heads (P : Program) (md : Region.Mode) (ops : Array Oper) (C : World → Prop) (n : Nat) (L : Array Bool → Act → Prop) : Nat → Array Bool → Act → Prop
 | 0, listed, a => L listed a
 | f + 1, listed, a => Region.ready md ops listed ≠ [] ∧ ∀ i ∈ Region.ready md ops listed, i < n ∧ qOp P ops C i (Heads P md ops C n L f (listed.setIfInBounds i true)) a
theorem Heads.any {n g : Nat} {L : Array Bool → Act → Prop} {Q' : Exit → Act → World → Prop} (hL : ∀ listed a w, C w → L listed a → wpAny P md ops Q' g listed a w) :
 ∀ (f : Nat) (listed : Array Bool) (a : Act) (w : World), C w → Heads P md ops C n L f listed a → wpAny P md ops Q' (f + g) listed a w
 | 0, listed, a, w, hw, h => by rw [Nat.zero_add]; exact hL _ _ _ hw h
 | f + 1, listed, a, w, hw, h => by
   rw [show f + 1 + g = (f + g) + 1 by omega]
   exact ⟨fun h0 => absurd h0 h.1, fun i hi => wpOp_of_qOp hw (fun a' w' hw' h' => Heads.any hL f _ a' w' hw' h') (h.2 i hi).2⟩
theorem Heads.first {n i : Nat} {oi : Oper} {v : Value} {L : Array Bool → Act → Prop} (hi : ops[i]? = some oi) (hsel : ∀ (j : Nat) (o : Oper) cs b, ops[j]? = some o → o.op ≠ .select cs b)
 (hs : Region.sinkB md ops n = true) (hc : Region.chainB md ops n = true) (hn : n < ops.size) (hin : i < n) (hdone : ∀ listed a, L listed a → ∀ j ∈ Region.ready md ops listed, n ≤ j) (f : Nat) :
 ∀ (listed : Array Bool) (a : Act), HeadInv md ops n listed →
  (∀ j oj, ops[j]? = some oj → j ≠ i → listed.getD j true = false → (∀ e ∈ oj.after, Region.binds md e = true → e.on ≠ i) → oi.apart ops oj = true) →
  i ∈ Region.ready md ops listed → YieldsIn P ops C oi v a →
  Heads P md ops C n L f (listed.setIfInBounds i true) (a.put oi.dst v) → Heads P md ops C n L (f + 1) listed a := by
 induction f with
 | zero =>
   intro listed a inv hfree hr hy H
   have hun := (mem_ready.1 hr).1
   refine ⟨List.ne_nil_of_mem hr, fun j hj => ?_⟩
   have hjn : j < n := Nat.lt_of_not_le fun h => tail_waits hs hc hn inv _ i rfl hin hun j h hj
   refine ⟨hjn, ?_⟩
   rcases Nat.decEq j i with e | rfl
   · exact absurd (hdone _ _ H j (ready_mono hj e)) (by omega)
   · exact hy.qOp hi H
 | succ f ih =>
   intro listed a inv hfree hr hy H
   have hun := (mem_ready.1 hr).1
   refine ⟨List.ne_nil_of_mem hr, fun j hj => ?_⟩
   have hjn : j < n := Nat.lt_of_not_le fun h => tail_waits hs hc hn inv _ i rfl hin hun j h hj
   refine ⟨hjn, ?_⟩
   rcases Nat.decEq j i with e | rfl
   · obtain ⟨hjun, oj, hoj, hall⟩ := mem_ready.1 hj
     have hnot : ∀ e ∈ oj.after, Region.binds md e = true → e.on ≠ i := by
      intro d hd hb he
      have h1 := hall d hd hb
      rw [he, getD_both hun] at h1
      cases h1
     refine qOp_mono (fun a' h3 => ih (listed.setIfInBounds j true) a' (inv.set hj hjn) ?_ (ready_mono hr (Ne.symm e)) h3.1 ?_)
      (qOp_put hoj (hfree j oj hoj e hjun hnot) (fun cs b => hsel i oi cs b hi) (fun cs b => hsel j oj cs b hoj) hy (H.2 j (ready_mono hj e)).2)
     · intro k ok hk hki hku hno
       refine hfree k ok hk hki ?_ hno
       rcases Nat.decEq j k with d | rfl
       · rwa [getD_set_ne true d] at hku
       · exact hjun
     · rw [Array.setIfInBounds_comm _ _ e]; exact h3.2
   · exact hy.qOp hi H
theorem Heads.lex {n g : Nat} {Lq : Act → Prop} (hsel : Region.noSelect ops = true) (hs : Region.sinkB md ops n = true) (hc : Region.chainB md ops n = true) (hn : n < ops.size) :
 ∀ (l : List Oper) (k : Nat) (listed : Array Bool) (a : Act), (∀ j, j < l.length → l[j]? = ops[k + j]?) → k + l.length = n → HeadInv md ops n listed →
 Region.lexHead md ops g l.length k listed = true → wpQuiet P ops C Lq l a →
 Heads P md ops C n (fun listed' a' => Region.seqB md ops g n listed' = true ∧ Lq a') l.length listed a
 | [], k, listed, a, _, hk, _, hB, h => by
   obtain rfl : k = n := by simpa using hk
   exact ⟨by simpa [Region.lexHead] using hB, h⟩
 | o :: l, k, listed, a, hl, hk, inv, hB, h => by
   have h0 : ops[k]? = some o := by simpa using (hl 0 (by simp)).symm
   simp only [List.length_cons, Region.lexHead, Bool.and_eq_true] at hB
   obtain ⟨⟨hr, hf⟩, hB'⟩ := hB
   have hr' : k ∈ Region.ready md ops listed := by simpa using hr
   have hk' : k + 1 + l.length = n := by rw [← hk, List.length_cons]; omega
   have hkn : k < n := by omega
   obtain ⟨v, hy, hK⟩ := yieldsIn_of_qOp h0 (show qOp P ops C k (wpQuiet P ops C Lq l) a by unfold qOp; simp only [h0]; exact h)
   exact Heads.first h0 (Region.noSelect_spec hsel) hs hc hn hkn (fun listed' a' hL => seqB_ready hL.1) l.length listed a inv (Region.free_spec h0 hf) hr' hy
    (Heads.lex hsel hs hc hn l (k + 1) _ _ (fun j hj => by have := hl (j + 1) (by simp; omega); simpa [Nat.add_assoc, Nat.add_comm 1 j] using this) hk' (inv.set hr' hkn) hB' hK)
theorem wp_quiet_tail {id : Nat} {Q : Exit → Act → World → Prop} {a : Act} {w : World} {l : List Oper} (n : Nat) (hm : P.follows .mixedOrders = true) (hB : Region.lexTailB .any l.toArray n = true) (hC : C { w with drawn := w.drawn + 1 })
 (h : wpQuiet P l.toArray C (fun a' => ∀ w', C w' → wpList P l.toArray Q (l.drop n) a' w') (l.take n) a) : (Code.region id l.toArray true).wp P Q a w := by
 simp only [Region.lexTailB, Bool.and_eq_true, decide_eq_true_eq] at hB
 obtain ⟨⟨⟨⟨hsel, hn⟩, hs⟩, hc⟩, hlex⟩ := hB
 have hn' : n < l.length := by simpa using hn
 have htl : (l.take n).length = n := by simp; omega
 have hdl : (l.drop n).length = l.toArray.size - n := by simp
 have inv0 : HeadInv .any l.toArray n (Array.replicate l.toArray.size false) :=
  ⟨by simp, fun j oj _ hl => (by rw [getD_replicate_false] at hl; cases hl), fun t _ ht => getD_in (by simpa using ht) (getD_replicate_false _ _)⟩
 have H := Heads.lex (md := .any) (g := l.toArray.size - n) hsel hs hc hn (l.take n) 0 _ a (fun j hj => by
  have hj' : j < n := by rw [htl] at hj; exact hj
  simp [hj']) (by simpa using htl) inv0 (by rw [htl]; exact hlex) h
 refine wp_region_any hm ?_
 have H2 := Heads.any (Q' := Q) (g := l.toArray.size - n) (fun listed a' w' hw hL => by
  have h1 := wpAny_of_seq (md := .any) (Q' := Q) (l.drop n) n listed a' w' (fun j => by simp [List.getElem?_drop]) (by rw [hdl]; exact hL.1) (hL.2 w' hw)
  rwa [hdl] at h1) _ _ _ _ hC H
 rw [htl, show n + (l.toArray.size - n) = l.toArray.size by omega] at H2
 exact H2
end
theorem wp_over_tail {P : Program} {id : Nat} {Q : Exit → Act → World → Prop} {a : Act} {w : World} {l : List Oper} (n : Nat) (hm : P.follows .mixedOrders = true) (hB : Region.lexTailB .any l.toArray n = true)
 (h : wpQuiet P l.toArray (fun w' => ∃ q : Over w, w' = q.val) (fun a' => ∀ w', (∃ q : Over w, w' = q.val) → wpList P l.toArray Q (l.drop n) a' w') (l.take n) a) : (Code.region id l.toArray true).wp P Q a w :=
 wp_quiet_tail (C := fun w' => ∃ q : Over w, w' = q.val) n hm hB ⟨⟨w.drew, below_drewN (Below.refl _ _) 1⟩, rfl⟩ h
theorem wp_scope_once {P : Program} {a : Act} {w : World} {Q : Exit → Act → World → Prop} {c rest : Code} (l : Nat) (J : Act → World → Prop) (m : Act → World → Nat) (hf : findLabel c l = some (.seq .skip rest))
 (first : Hid (∀ a w, J a w → rest.wp P (Exit.jump l J Q) a w) → c.wp P (Exit.jump l J Q) a w)
 (pass : ∀ a w, J a w → rest.wp P (Exit.jump l (fun a' w' => J a' w' ∧ m a' w' < m a w) Q) a w) : (Code.scope c).wp P Q a w :=
 wp_scope_jumps l J m hf (first (Lib.hid fun a w h => Code.wp_mono (fun e a' w' q => by
  cases e with
  | goto l' => exact ⟨q.1, q.2.1⟩
  | _ => exact q) (pass a w h))) (fun a w h => wp_seq (wp_skip (pass a w h)))
end Go.Proofs.Ytkbhnphkopgccaa.Ov
namespace Go.Proofs.Ytkbhnphkopgccaa.Tp
open Go.ChangeShapes Go.WideShapes Go.ChangeAt Go.RowKit Ov
def JC (s : ByteArray) (w : World) (a' : Act) (w' : World) : Prop := ∃ (i n : Nat) (u7 u8 u9 u10 u11 u12 u13 u14 u15 u16 u17 u18 u19 u20 u21 u22 u23 u24 u25 u26 u27 u28 u29 u30 u31 u32 u33 u34 u35 u36 u37 u38 u39 u40 u41 u42 u43 u44 u45 u46 u47 u48 : Value),
 i < 8 ∧ i ≤ s.size ∧ n < 2 ^ (7 * i) ∧ cn 0 0 s.data.toList = cn i n (s.data.toList.drop i) ∧ w' = w ∧
 a' = { tmps := #[.string s, undef, .int .i64 0, .string ⟨#[]⟩, .int .i64 0, .int .i64 (n : Int), .int .i64 (i : Int), u7, u8, u9, u10, u11, u12, u13, u14, u15, u16, u17, u18, u19, u20, u21, u22, u23, u24, u25, u26, u27, u28, u29, u30, u31, u32, u33, u34, u35, u36, u37, u38, u39, u40, u41, u42, u43, u44, u45, u46, u47, u48], defers := [] }
def muC (a : Act) (_ : World) : Nat := 8 - (intOf (a.tmps.getD 6 undef)).toNat
def cv (r : Nat × List UInt8 × Nat) : Value := .tuple #[.int .i64 (r.1 : Int), .string (tx r.2.1), .int .i64 (r.2.2 : Int)]
def cc (most : Int) (l : List UInt8) : Nat × List UInt8 × Nat :=
 if (cn 0 0 l).2.2 = 0 then (if most < ((cn 0 0 l).1 : Int) then (0, [], 3) else cn 0 0 l) else cn 0 0 l
end Go.Proofs.Ytkbhnphkopgccaa.Tp
namespace Go.Proofs.Ytkbhnphkopgccaa.Ov
open Go.RowKit Go.Proofs
section
def Its {α : Type} (F : Fence) (n : Nat) (P : Program) (g : Nat) (lb : Array Value) (encs : α → Array Value) (M : World → Prop) (Fx : List α → α → World → Prop) (S Sp : List α → Prop) : Prop :=
 ∀ (l : Nat) (J Jx : List α → World → Prop) (W : World), (∀ s X Y, J s X → Below X.heap.size X Y → J s Y) → (∀ s X Y, Jx s X → Below X.heap.size X Y → Jx s Y) → (∀ s X, J s X → M X) →
  (∀ pre x X, J pre X → Fx pre x X → YieldAt F (n - 1) P l (encs x) X fun e Y => (e = .returned (.bool true) ∧ J (pre ++ [x]) Y) ∨ (e = .returned (.bool false) ∧ Jx (pre ++ [x]) Y)) →
  J [] W → CallsIn F n P g (#[.func (.yield l) #[] #[]] ++ lb) W fun e Y => (∃ v, e = .returned v) ∧ ((∃ xs, S xs ∧ J xs Y) ∨ (∃ pre, Sp pre ∧ Jx pre Y))
theorem below_put {B l : Nat} {X : World} (o : Obj) (h : B ≤ l) (hX : B ≤ X.heap.size) : Below B X (X.putObj l o) := (Below.refl B X).grown (grownBy_putObj' X l o) hX fun k e => by cases e; exact h
variable {F : Fence} {n : Nat} {P : Program}
end
end Go.Proofs.Ytkbhnphkopgccaa.Ov
namespace Go.Proofs.Ytkbhnphkopgccaa.Ov
open Ieee
theorem log2_shift {v : Nat} (hv : v ≠ 0) (k : Nat) : (v * 2 ^ k).log2 = v.log2 + k := by
 have h2 : 0 < 2 ^ k := Nat.two_pow_pos k
 rw [Nat.log2_eq_iff (Nat.mul_ne_zero hv (Nat.ne_of_gt h2))]
 refine ⟨?_, ?_⟩
 · rw [Nat.pow_add]; exact Nat.mul_le_mul_right _ (Nat.log2_self_le hv)
 · rw [show v.log2 + k + 1 = v.log2 + 1 + k by omega, Nat.pow_add]; exact Nat.mul_lt_mul_of_pos_right Nat.lt_log2_self h2
theorem cut_whole (way : Toward) (s : Bool) (v k : Nat) : way.cut s (v * 2 ^ k) k = v := by
 have h2 : 0 < 2 ^ k := Nat.two_pow_pos k
 have hg : (v * 2 ^ k) / (1 <<< min k ((v * 2 ^ k).log2 + 2)) = v ∧ (v * 2 ^ k) % (1 <<< min k ((v * 2 ^ k).log2 + 2)) = 0 ∧ 1 <<< min k ((v * 2 ^ k).log2 + 2) ≠ 0 := by
  by_cases hv : v = 0
  · subst hv; simp
  · rw [log2_shift hv, Nat.min_eq_left (by omega), Nat.one_shiftLeft]
    exact ⟨Nat.mul_div_cancel _ h2, Nat.mul_mod_left _ _, Nat.ne_of_gt h2⟩
 obtain ⟨h1, h3, h4⟩ := hg
 unfold Toward.cut
 simp only [h1, h3]
 generalize 1 <<< min k ((v * 2 ^ k).log2 + 2) = g at *
 cases way <;> simp [h4]
def DIs (d : Datum) (n : Int) : Prop := ∃ (s : Bool) (v k : Nat), d = .number s (v * 2 ^ k) (-(k : Int)) ∧ n = if s then -(v : Int) else v
theorem DIs.num (s : Bool) (v k : Nat) : DIs (.number s (v * 2 ^ k) (-(k : Int))) (if s then -(v : Int) else v) := ⟨s, v, k, rfl, rfl⟩
theorem dsw : Ieee.double.signWeight = 9223372036854775808 := by decide +kernel
theorem dbi : Ieee.double.binade = 4503599627370496 := by decide +kernel
theorem din : Ieee.double.infRung = 9218868437227405312 := by decide +kernel
theorem dlp : Ieee.double.leastPlace = -1074 := by decide +kernel
theorem dfb : Ieee.double.fractionBits = 52 := rfl
theorem rung_mod {e m B : Nat} (h : m < B) : (e * B + (B + m)) % B = m ∧ (e * B + (B + m)) / B - 1 = e := by
 have e1 : e * B + (B + m) = m + (e + 1) * B := by rw [Nat.add_mul, Nat.one_mul]; omega
 rw [e1, Nat.add_mul_mod_self_right, Nat.mod_eq_of_lt h, Nat.add_mul_div_right _ _ (by omega), Nat.div_eq_of_lt h]
 exact ⟨rfl, by omega⟩
theorem read_word (s : Bool) (e m : Nat) (he : e < 2046) (hm : m < 4503599627370496) :
 Ieee.double.read (Ieee.double.word s (e * 4503599627370496 + (4503599627370496 + m))) = .number s (4503599627370496 + m) (-1074 + (e : Int)) := by
 have hw : Ieee.double.word s (e * 4503599627370496 + (4503599627370496 + m)) = (if s then 1 else 0) * 9223372036854775808 + (e * 4503599627370496 + (4503599627370496 + m)) := by
  unfold Format.word; rw [dsw]; cases s <;> simp
 unfold Format.read
 simp only [hw, dsw, dbi, din, dlp]
 obtain ⟨b, hb⟩ : ∃ b : Nat, b = if s then 1 else 0 := ⟨_, rfl⟩
 rw [← hb]
 have hb1 : b < 2 ∧ (b = 1 ↔ s = true) := by subst hb; cases s <;> simp
 clear hw hb
 have h1 : (b * 9223372036854775808 + (e * 4503599627370496 + (4503599627370496 + m))) % 9223372036854775808 = e * 4503599627370496 + (4503599627370496 + m) := by omega
 have h2 : ((b * 9223372036854775808 + (e * 4503599627370496 + (4503599627370496 + m))) / 9223372036854775808 % 2 == 1) = s := by
  have : (b * 9223372036854775808 + (e * 4503599627370496 + (4503599627370496 + m))) / 9223372036854775808 % 2 = b := by omega
  rw [this, Bool.eq_iff_iff, beq_iff_eq]; exact hb1.2
 rw [h1, h2, if_neg (by omega), if_pos (by omega)]
 obtain ⟨h3, h4⟩ := rung_mod (e := e) hm
 rw [h3, h4]
theorem read_zero (s : Bool) : Ieee.double.read (Ieee.double.word s 0) = .number s 0 (-1074) := by
 cases s <;> decide +kernel
theorem nearest_read (s : Bool) (v k : Nat) (hv : v < 9007199254740992) : ∃ j : Nat, Ieee.double.read (Ieee.double.nearest s (v * 2 ^ k) (-(k : Int))) = .number s (v * 2 ^ j) (-(j : Int)) := by
 by_cases h0 : v = 0
 · subst h0
   obtain ⟨j, hj⟩ : ∃ j : Nat, -(j : Int) = -1074 := ⟨1074, rfl⟩
   refine ⟨j, ?_⟩
   rw [Nat.zero_mul, Nat.zero_mul, hj]
   exact read_zero s
 · have hL : v.log2 < 53 := (Nat.log2_lt h0).2 hv
   obtain ⟨d, hd⟩ : ∃ d, d = 52 - v.log2 := ⟨_, rfl⟩
   have hp : 0 < 2 ^ k := Nat.two_pow_pos k
   have hne : v * 2 ^ k ≠ 0 := Nat.mul_ne_zero h0 (Nat.ne_of_gt hp)
   have hlo : 4503599627370496 ≤ v * 2 ^ d := by
    have h1 : 2 ^ v.log2 * 2 ^ d ≤ v * 2 ^ d := Nat.mul_le_mul_right _ (Nat.log2_self_le h0)
    rw [← Nat.pow_add, show v.log2 + d = 52 by omega] at h1; exact h1
   have hhi : v * 2 ^ d < 9007199254740992 := by
    have h1 : v * 2 ^ d < 2 ^ (v.log2 + 1) * 2 ^ d := Nat.mul_lt_mul_of_pos_right Nat.lt_log2_self (Nat.two_pow_pos d)
    rw [← Nat.pow_add, show v.log2 + 1 + d = 53 by omega] at h1; exact h1
   refine ⟨d, ?_⟩
   have hlast : max (-(k : Int) + ((v * 2 ^ k).log2 : Nat) - (Ieee.double.fractionBits : Nat)) Ieee.double.leastPlace = -(d : Int) := by
    rw [log2_shift h0, dfb, dlp]; omega
   have hk : Toward.even.cut s ((v * 2 ^ k) <<< (-(k : Int) - -(d : Int)).toNat) (-(d : Int) - -(k : Int)).toNat = v * 2 ^ d := by
    rcases Nat.le_total k d with h | h
    · rw [show (-(d : Int) - -(k : Int)).toNat = 0 by omega, show (-(k : Int) - -(d : Int)).toNat = d - k by omega, Nat.shiftLeft_eq, Nat.mul_assoc, ← Nat.pow_add, show k + (d - k) = d by omega]
      have := cut_whole .even s (v * 2 ^ d) 0
      rwa [Nat.pow_zero, Nat.mul_one] at this
    · rw [show (-(d : Int) - -(k : Int)).toNat = k - d by omega, show (-(k : Int) - -(d : Int)).toNat = 0 by omega, Nat.shiftLeft_zero]
      have := cut_whole .even s (v * 2 ^ d) (k - d)
      rwa [Nat.mul_assoc, ← Nat.pow_add, show d + (k - d) = k by omega] at this
   unfold Format.nearest
   simp only [if_neg hne]
   rw [hlast, hk, dlp, dbi, din]
   obtain ⟨m, hm⟩ : ∃ m, v * 2 ^ d = 4503599627370496 + m := ⟨v * 2 ^ d - 4503599627370496, by omega⟩
   rw [hm, show (-(d : Int) - -1074).toNat = 1074 - d by omega, Nat.min_eq_left (by omega), read_word s (1074 - d) m (by omega) (by omega)]
   have : -1074 + ((1074 - d : Nat) : Int) = -(d : Int) := by omega
   rw [this]
theorem DIs.write {d : Datum} {n : Int} (h : DIs d n) (hn : n.natAbs < 9007199254740992) : DIs (Ieee.double.read (Ieee.double.write d)) n := by
 obtain ⟨s, v, k, rfl, rfl⟩ := h
 obtain ⟨j, hj⟩ := nearest_read s v k (by cases s <;> simpa using hn)
 exact ⟨s, v, j, hj, rfl⟩
theorem signed_whole (s : Bool) (v i k : Nat) (h : i ≤ k) : signed s (v * 2 ^ i) (k - i) = (if s then -(v : Int) else v) * ((2 ^ k : Nat) : Int) := by
 unfold signed
 rw [Nat.shiftLeft_eq, Nat.mul_assoc, ← Nat.pow_add, show i + (k - i) = k by omega]
 cases s <;> simp [Int.neg_mul]
theorem DIs.opposite {d : Datum} {n : Int} (h : DIs d n) : DIs d.opposite (-n) := by
 obtain ⟨s, v, k, rfl, rfl⟩ := h
 refine ⟨!s, v, k, rfl, ?_⟩
 cases s <;> simp
theorem DIs.sum {d e : Datum} {n m : Int} (h : DIs d n) (g : DIs e m) : ∃ x, d.sum e = some x ∧ DIs x (n + m) := by
 obtain ⟨s, v, i, rfl, hn⟩ := h
 obtain ⟨t, u, j, rfl, hm⟩ := g
 obtain ⟨k, hk⟩ : ∃ k, k = max i j := ⟨_, rfl⟩
 have hb : min (-(i : Int)) (-(j : Int)) = -(k : Int) := by omega
 have h1 : (-(i : Int) - -(k : Int)).toNat = k - i := by omega
 have h2 : (-(j : Int) - -(k : Int)).toNat = k - j := by omega
 have hp : (0 : Int) < ((2 ^ k : Nat) : Int) := by have := Nat.two_pow_pos k; omega
 have ht : signed s (v * 2 ^ i) (k - i) + signed t (u * 2 ^ j) (k - j) = (n + m) * ((2 ^ k : Nat) : Int) := by
  rw [signed_whole s v i k (by omega), signed_whole t u j k (by omega), ← hn, ← hm, Int.add_mul]
 refine ⟨_, rfl, ?_⟩
 simp only [hb, h1, h2, ht]
 refine ⟨if (n + m) * ((2 ^ k : Nat) : Int) = 0 then s && t else decide ((n + m) * ((2 ^ k : Nat) : Int) < 0), (n + m).natAbs, k, ?_, ?_⟩
 · rw [Int.natAbs_mul, Int.natAbs_natCast]
 · by_cases h0 : n + m = 0
   · rw [h0]; simp
   · have hne : (n + m) * ((2 ^ k : Nat) : Int) ≠ 0 := Int.mul_ne_zero h0 (by omega)
     rw [if_neg hne]
     by_cases hl : n + m < 0
     · have : (n + m) * ((2 ^ k : Nat) : Int) < 0 := Int.mul_neg_of_neg_of_pos hl hp
       rw [if_pos (by simpa using this)]; omega
     · have : ¬ (n + m) * ((2 ^ k : Nat) : Int) < 0 := Int.not_lt.2 (Int.mul_nonneg (by omega) (by omega))
       rw [if_neg (by simpa using this)]; omega
theorem DIs.product {d e : Datum} {n m : Int} (h : DIs d n) (g : DIs e m) : ∃ x, d.product e = some x ∧ DIs x (n * m) := by
 obtain ⟨s, v, i, rfl, rfl⟩ := h
 obtain ⟨t, u, j, rfl, rfl⟩ := g
 refine ⟨_, rfl, s ^^ t, v * u, i + j, ?_, ?_⟩
 · congr 1
   · rw [Nat.pow_add]; exact Nat.mul_mul_mul_comm ..
   · omega
 · cases s <;> cases t <;> simp [Int.neg_mul, Int.mul_neg]
theorem DIs.toInt {d : Datum} {n : Int} (h : DIs d n) : d.toInt .zero = some n := by
 obtain ⟨s, v, k, rfl, rfl⟩ := h
 have e : Toward.zero.cut s ((v * 2 ^ k) <<< (-(k : Int)).toNat) (- -(k : Int)).toNat = v := by
  rw [show (-(k : Int)).toNat = 0 by omega, show (- -(k : Int)).toNat = k by omega, Nat.shiftLeft_zero]
  exact cut_whole .zero s v k
 unfold Datum.toInt Datum.integral
 simp only [e]
 unfold signed
 rw [Nat.shiftLeft_zero]
def Is (b : Nat) (n : Int) : Prop := DIs (Ieee.double.read b) n
theorem Is.ofInt {n : Int} (h : n.natAbs < 9007199254740992) : Is (floatOfInt .f64 n) n := by
 refine DIs.write (d := .number (n < 0) n.natAbs 0) ⟨decide (n < 0), n.natAbs, 0, by simp, ?_⟩ h
 by_cases h0 : n < 0
 · rw [if_pos (by simpa using h0)]; omega
 · rw [if_neg (by simpa using h0)]; omega
theorem Is.zero : Is 0 0 := by
 show DIs (Ieee.double.read 0) 0
 obtain ⟨j, hj⟩ : ∃ j : Nat, -(j : Int) = -1074 := ⟨1074, rfl⟩
 have : Ieee.double.read 0 = .number false (0 * 2 ^ j) (-(j : Int)) := by rw [Nat.zero_mul, hj]; decide +kernel
 rw [this]; exact DIs.num false 0 j
theorem Is.one : Is 4607182418800017408 1 := by
 show DIs (Ieee.double.read 4607182418800017408) 1
 have : Ieee.double.read 4607182418800017408 = .number false (1 * 2 ^ 52) (-((52 : Nat) : Int)) := by decide +kernel
 rw [this]; exact DIs.num false 1 52
theorem Is.toInt {b : Nat} {n : Int} (h : Is b n) (lo : -9007199254740992 < n) (hi : n < 9007199254740992) : floatToIntVal .f64 b .i64 = some n := by
 have e : (FloatKind.f64.decode b).toInt .zero = some n := DIs.toInt h
 unfold floatToIntVal
 rw [e]
 have h1 : IntKind.i64.min ≤ n := by show (-9223372036854775808 : Int) ≤ n; omega
 have h2 : n ≤ IntKind.i64.max := by show n ≤ (9223372036854775807 : Int); omega
 simp only [h1, h2, and_self, if_true]
theorem Is.add {x y : Nat} {n m : Int} (h : Is x n) (g : Is y m) (hb : (n + m).natAbs < 9007199254740992) : ∃ r, floatBits .add .f64 x y = some r ∧ Is r (n + m) := by
 obtain ⟨d, hd, hi⟩ := DIs.sum h g
 refine ⟨Ieee.double.write d, ?_, hi.write hb⟩
 show ((Ieee.double.read x).sum (Ieee.double.read y)).map Ieee.double.write = _
 rw [hd]; rfl
theorem Is.sub {x y : Nat} {n m : Int} (h : Is x n) (g : Is y m) (hb : (n - m).natAbs < 9007199254740992) : ∃ r, floatBits .sub .f64 x y = some r ∧ Is r (n - m) := by
 obtain ⟨d, hd, hi⟩ := DIs.sum h (DIs.opposite g)
 rw [← Int.sub_eq_add_neg] at hi
 refine ⟨Ieee.double.write d, ?_, hi.write hb⟩
 show ((Ieee.double.read x).sum (Ieee.double.read y).opposite).map Ieee.double.write = _
 rw [hd]; rfl
theorem Is.mul {x y : Nat} {n m : Int} (h : Is x n) (g : Is y m) (hb : (n * m).natAbs < 9007199254740992) : ∃ r, floatBits .mul .f64 x y = some r ∧ Is r (n * m) := by
 obtain ⟨d, hd, hi⟩ := DIs.product h g
 refine ⟨Ieee.double.write d, ?_, hi.write hb⟩
 show ((Ieee.double.read x).product (Ieee.double.read y)).map Ieee.double.write = _
 rw [hd]; rfl
theorem cmul {a b c d : Nat} {x y u v : Int} (ha : Is a x) (hb : Is b y) (hc : Is c u) (hd : Is d v) (h1 : (x * u).natAbs < 4503599627370496) (h2 : (y * v).natAbs < 4503599627370496)
 (h3 : (x * v).natAbs < 4503599627370496) (h4 : (y * u).natAbs < 4503599627370496) : ∃ re im, cMulBits a b c d = some (re, im) ∧ Is re (x * u - y * v) ∧ Is im (x * v + y * u) := by
 obtain ⟨r1, e1, i1⟩ := ha.mul hc (by omega)
 obtain ⟨r2, e2, i2⟩ := hb.mul hd (by omega)
 obtain ⟨r3, e3, i3⟩ := i1.sub i2 (by omega)
 obtain ⟨r4, e4, i4⟩ := ha.mul hd (by omega)
 obtain ⟨r5, e5, i5⟩ := hb.mul hc (by omega)
 obtain ⟨r6, e6, i6⟩ := i4.add i5 (by omega)
 refine ⟨r3, r6, ?_, i3, i6⟩
 unfold cMulBits
 simp only [e1, e2, e3, e4, e5, e6, Option.bind_some]
theorem csub {a b c d : Nat} {x y u v : Int} (ha : Is a x) (hb : Is b y) (hc : Is c u) (hd : Is d v) (h1 : (x - u).natAbs < 9007199254740992) (h2 : (y - v).natAbs < 9007199254740992) :
 ∃ re im, cSumBits .sub .f64 a b c d = some (re, im) ∧ Is re (x - u) ∧ Is im (y - v) := by
 obtain ⟨r1, e1, i1⟩ := ha.sub hc h1
 obtain ⟨r2, e2, i2⟩ := hb.sub hd h2
 refine ⟨r1, r2, ?_, i1, i2⟩
 unfold cSumBits
 simp only [e1, e2, Option.bind_some]
end Go.Proofs.Ytkbhnphkopgccaa.Ov
namespace Go.Proofs.Ytkbhnphkopgccaa.Ov
open Go.ChangeShapes Go.WideShapes Go.ChangeAt Go.RowKit
section
variable {w w' w'' : World} {b : Nat}
variable {t : TypeId} {v u : Value}
end
structure Kp (O : Nat → Prop) (w w' : World) : Prop where
 os : w'.os = w.os
 tape : w'.tape = w.tape
 output : w'.output = w.output
 size : w.heap.size ≤ w'.heap.size
 block : ∀ k, k < w.heap.size → ¬ O k → w'.heap[k]? = w.heap[k]?
section
variable {O O' : Nat → Prop} {w w' w'' : World}
theorem Kp.refl (O : Nat → Prop) (w : World) : Kp O w w := ⟨rfl, rfl, rfl, Nat.le_refl _, fun _ _ _ => rfl⟩
theorem Kp.mono (h : Kp O w w') (k : ∀ b, O b → O' b) : Kp O' w w' := ⟨h.os, h.tape, h.output, h.size, fun b hb hn => h.block b hb fun e => hn (k b e)⟩
theorem Kp.trans (h : Kp O w w') (k : Kp O' w' w'') (hO : ∀ b, O' b → O b ∨ w.heap.size ≤ b) : Kp O w w'' :=
 ⟨k.os.trans h.os, k.tape.trans h.tape, k.output.trans h.output, Nat.le_trans h.size k.size, fun b hb hn =>
  (k.block b (Nat.lt_of_lt_of_le hb h.size) fun e => (hO b e).elim hn fun e => by omega).trans (h.block b hb hn)⟩
theorem Below.kp (O : Nat → Prop) (h : Below w.heap.size w w') : Kp O w w' := ⟨h.os, h.tape, h.output, h.size, fun k hk _ => h.block k hk⟩
theorem Kp.next (h : Kp O w w') (k : Below w'.heap.size w' w'') : Kp O w w'' := h.trans (Below.kp O k) fun _ e => .inl e
theorem Kp.below {lo : Nat} (h : Kp O w w') (hO : ∀ b, O b → lo ≤ b) (hl : lo ≤ w.heap.size) : Below lo w w' :=
 ⟨h.os, h.tape, h.output, h.size, fun k hk => h.block k (by omega) fun e => by have := hO k e; omega⟩
theorem Kp.drewN (h : Kp O w w') (m : Nat) : Kp O w (w'.drewN m) := ⟨h.os, h.tape, h.output, h.size, h.block⟩
theorem Kp.setCell (h : Kp O w w') {b : Nat} (hb : O b) (j : Nat) (v : Value) : Kp O w (w'.setCell ⟨b, j, none⟩ v) :=
 h.trans (O' := fun k => k = b) ⟨rfl, rfl, rfl, by simp [World.setCell], fun k _ hk => Below.heap_setCell _ _ _ _ hk⟩ fun k e => .inl (by subst e; exact hb)
theorem Kp.alloc (h : Kp O w w') (o : Obj) : Kp O w (w'.alloc o) := h.next ((Below.refl _ w').alloc (Nat.le_refl _) o)
theorem Kp.grown {row : Option Nat} (h : Kp O w w') (g : w'.grownBy w'' row) (hr : ∀ b, row = some b → O b ∨ w.heap.size ≤ b) : Kp O w w'' :=
 h.trans (O' := fun k => row = some k) ⟨g.os, g.tape, g.output, g.size, fun k hk hn => g.block k hk fun e => hn e.symm⟩ hr
theorem Kp.cell (h : Kp O w w') {p : Addr} (hp : ¬ O p.block) (hl : p.block < w.heap.size) : w'.cell? p = w.cell? p := World.cell?_of_block (w := w) (h.block _ hl hp)
theorem Kp.frozen (h : Kp O w w') {p : Addr} (hp : ¬ O p.block) (hl : p.block < w.heap.size) : w'.frozen? p = w.frozen? p := by
 unfold World.frozen?; rw [h.block _ hl hp]
theorem Blk.kp {b : Nat} {vs : List Value} (h : Blk w b vs) (k : Kp O w w') (hb : ¬ O b) : Blk w' b vs :=
 ⟨fun i v e => (k.cell (p := ⟨b, i, none⟩) hb h.lt).trans (h.c i v e), fun i v e => (k.frozen (p := ⟨b, i, none⟩) hb h.lt).trans (h.f i v e), Nat.lt_of_lt_of_le h.lt k.size⟩
theorem own_kp {base size n : Nat} {e : TypeId} {v : Value} {xs : List Value} (h : w.ownsRow base e size v n xs) (k : Kp O w w') (hv : ∀ g, v.ownBlock = some g → ¬ O g) : w'.ownsRow base e size v n xs := by
 refine ⟨h.1, ?_⟩
 rcases h.2 with h1 | ⟨g, cap, cur, rfl, hg, hc, rest⟩
 · exact .inl h1
 · exact .inr ⟨g, cap, cur, rfl, hg, (k.block g (Array.getElem?_eq_some_iff.1 hc).1 (hv g rfl)).trans hc, rest⟩
end
end Go.Proofs.Ytkbhnphkopgccaa.Ov
namespace Go.Proofs.Ytkbhnphkopgccaa.Ov
open Go.RowKit Go.Proofs
theorem Kp.putObj {O : Nat → Prop} (w : World) (b : Nat) (o : Obj) (hb : O b) : Kp O w (w.putObj b o) := (Kp.refl O w).grown (grownBy_putObj' w b o) fun k e => .inl (by cases e; exact hb)
def ItsO {α : Type} (F : Fence) (n : Nat) (P : Program) (g : Nat) (lb : Array Value) (encs : α → Array Value) (M : World → Prop) (Fx : List α → α → World → Prop) (S Sp : List α → Prop) : Prop :=
 ∀ (l : Nat) (J : List α → (Nat → Prop) → World → Prop) (Jx : List α → World → Prop) (W : World), (∀ s O O' X Y, J s O X → Kp O X Y → (∀ b, O' b → b < Y.heap.size ∧ (O b ∨ X.heap.size ≤ b)) → J s O' Y) →
  (∀ s X Y, Jx s X → Below X.heap.size X Y → Jx s Y) → (∀ s O X, J s O X → M X) →
  (∀ pre x O X, J pre O X → Fx pre x X → YieldAt F (n - 1) P l (encs x) X fun e Y => (e = .returned (.bool true) ∧ J (pre ++ [x]) O Y ∧ ∀ b, O b → b < X.heap.size → Y.heap[b]? = X.heap[b]?) ∨ (e = .returned (.bool false) ∧ Jx (pre ++ [x]) Y)) →
  J [] (fun _ => False) W → CallsIn F n P g (#[.func (.yield l) #[] #[]] ++ lb) W fun e Y => (∃ v, e = .returned v) ∧ ((∃ xs, S xs ∧ ∃ O, J xs O Y) ∨ (∃ pre, Sp pre ∧ Jx pre Y))
theorem Its.toO {α : Type} {F : Fence} {n : Nat} {P : Program} {g : Nat} {lb : Array Value} {encs : α → Array Value} {M : World → Prop} {Fx : List α → α → World → Prop} {S Sp : List α → Prop} (h : Its F n P g lb encs M Fx S Sp) :
 ItsO F n P g lb encs M Fx S Sp := by
 intro l J Jx W hJ hJx hM hY h0
 refine (h l (fun s X => J s (fun _ => False) X) Jx W (fun s X Y hj k => hJ _ _ _ _ _ hj (Below.kp _ k) (fun b hb => hb.elim)) hJx (fun s X => hM s _ X) ?_ h0).mono ?_
 · intro pre x X hj hx
   obtain ⟨fn, tmps, assign, body, hy, hR⟩ := hY pre x _ X hj hx
   exact ⟨fn, tmps, assign, body, hy, hR.mono fun e Y => by rintro (⟨e1, e2, _⟩ | e1); exact .inl ⟨e1, e2⟩; exact .inr e1⟩
 · rintro e Y ⟨hv, (⟨xs, hS, hj⟩ | h2)⟩
   · exact ⟨hv, .inl ⟨xs, hS, _, hj⟩⟩
   · exact ⟨hv, .inr h2⟩
def rngPostO {α : Type} (O : Nat → Prop) (I : List α → (Nat → Prop) → World → Prop) (Ix : List α → World → Prop) (xs : List α) (X : World) : Exit → Act → World → Prop
 | .normal, _, Y => X.heap.size ≤ Y.heap.size ∧ (∀ b, O b → b < X.heap.size → Y.heap[b]? = X.heap[b]?) ∧ I xs O Y
 | .ret, _, Y => X.heap.size ≤ Y.heap.size ∧ (∀ b, O b → b < X.heap.size → Y.heap[b]? = X.heap[b]?) ∧ Ix xs Y
 | _, _, _ => False
section
variable {F : Fence} {n : Nat} {P : Program}
theorem wpListIn_append_at (w : World) {ops : Array Oper} {rest : List Oper} {o : Oper} {a : Act} {Q : Exit → Act → World → Prop}
 (hg : o.guard = none) (s x : Operand) (t : TypeId) (hop : o.op = Op.call { callee := Callee.builtin Builtin.append, args := #[s, x], argTypes := #[t, t] })
 (base : Nat) (e : TypeId) (i : TypeInfo) (z : Value) (size bytes : Nat) (h1 : P.underlying t = some (.slice e)) (h2 : P.info? e = some i) (h3 : i.zero = some z) (h4 : i.size = size) (h5 : i.bytes = bytes) (h6 : z.cells.size = size) (h7 : 0 < size)
 (v : Value) (k : Nat) (xs : List Value) (hs : a.eval s = v) (hown : w.ownsRow base e size v k xs) (ad : Addr) (m c : Nat) (news : List Value) (hx : a.eval x = .slice (some ad) m c) (hn : news.length = m * size)
 (hc : ∀ j u, news[j]? = some u → w.cell? (ad.add j) = some u) (h1c : ∀ u ∈ news, u.oneCell' = true) (b1 : k + m ≤ maxLen) (b2 : (k + m) * bytes ≤ 140737488355328) (b3 : base ≤ w.heap.size)
 (hK : ∀ v' w', w'.ownsRow base e size v' (k + m) (xs ++ news) → w.grownBy w' v.ownBlock → (v'.ownBlock = v.ownBlock ∨ v'.ownBlock = some w.heap.size) → wpListIn F n P ops Q rest (a.put o.dst v') w') :
 wpListIn F n P ops Q (o :: rest) a w := by
 refine wpListIn_plain hg fun K hK' => ?_
 obtain ⟨v', w', hrun, r1, r2, _, r4⟩ := run_append_own_at (P := P) w base t o.type e i z size bytes h1 h2 h3 h4 h5 h6 h7 v k xs hown ad m c news hn hc h1c b1 b2 b3
 unfold Oper.wpIn
 refine ⟨?_, ?_⟩
 · simp [Oper.about, hop, resolve, Target.leads, Sem.run_pure]
 · rw [Oper.semAt_plain F _ _ (by rw [hop]; intro c hc'; cases hc')]
   simp [execOp, hop, resolve, invoke, builtin, hs, hx, hrun, Result.andThen]
   exact hK' _ _ (hK v' w' r1 r2 r4)
theorem wpIn_rngA {α : Type} {g : Operand} {ps : Array Tmp} {assign body : Code} {Q : Exit → Act → World → Prop} {a : Act} {w : World}
 (hro : F.round = none) (h1 : 1 ≤ n) {gf : Nat} {lb : Array Value} (hg : a.eval g = .func (.func gf) #[] lb) (hFg : F.fn gf) (eg : ∀ args w, (callFunc gf args).run P w = .ok (.enter gf args) w)
 {encs : α → Array Value} {M : World → Prop} {Fx : List α → α → World → Prop} {S Sp : List α → Prop} (hseq : ItsO F (n - 1) P gf lb encs M Fx S Sp) (hps : ∀ x, (encs x).size = ps.size)
 (I : List α → (Nat → Prop) → World → Prop) (Ix : List α → World → Prop) (hI : ∀ s O O' X Y, I s O X → Kp O X Y → (∀ b, O' b → b < Y.heap.size ∧ (O b ∨ X.heap.size ≤ b)) → I s O' Y) (hIO : ∀ s O X, I s O X → ∀ b, O b → b < X.heap.size)
 (hIx : ∀ s X Y, Ix s X → Below w.heap.size X Y → Ix s Y) (hM : ∀ s O X, I s O X → M X) (h0 : I [] (fun _ => False) w)
 (hFx : ∀ pre x X l o o', Fx pre x X → X.heap[l]? = some o → o.isCells = false → Fx pre x (X.putObj l o'))
 (a₁ : α → World → Act) (w₁ : α → World → World) (hw₁ : ∀ x W, Below W.heap.size W (w₁ x W)) (hFx2 : ∀ pre x X, Fx pre x X → Fx pre x (w₁ x X))
 (hassign : ∀ (l : Nat) (x : α) (W : World) (K : Act → World → Prop), K (a₁ x W) (w₁ x W) →
   assign.wpIn (F.inRound l) (n - 1 - 1) P (Exit.then K (fun _ _ _ => False)) { tmps := (ps.zip (encs x)).foldl (fun t (p, v) => t.setIfInBounds p v) a.tmps, defers := [] } W)
 (hbody : ∀ (l : Nat) (pre : List α) (x : α) (O : Nat → Prop) (W V : World), I pre O V → Fx pre x V → Kp (fun b => b = w.heap.size + 1) (w₁ x W) V → w.heap.size + 1 < W.heap.size → body.wpIn (F.inRound l) (n - 1 - 1) P (rngPostO O I Ix (pre ++ [x]) V) (a₁ x W) V)
 (hdone : ∀ (D : Nat) (xs : List α) (O : Nat → Prop) (W : World), w.heap.size ≤ D → S xs → I xs O W → W.heap[D]? = some (.deferred (some [])) → Q .normal { a with defers := { target := .collected D, args := #[] } :: a.defers } W)
 (hstop : ∀ (D : Nat) (pre : List α) (W : World), w.heap.size ≤ D → Sp pre → Ix pre W → W.heap[D]? = some (.deferred (some [])) → Code.ret.wpIn F n P Q { a with defers := { target := .collected D, args := #[] } :: a.defers } W) :
 (Code.rangeFunc g ps assign body).wpIn F n P Q a w := by
 obtain ⟨B, hB⟩ : ∃ B, B = w.heap.size := ⟨_, rfl⟩
 rw [← hB] at hIx hdone hstop hbody
 refine wpIn_rangeFunc fun fn hfn => ?_
 rw [hro]
 obtain ⟨rec, hrec⟩ : ∃ rec : LoopState → Option Code → Loop, rec = fun st pe => { state := st, pending := pe, fn, tmps := a.tmps, params := ps, assign, body, defers := B } := ⟨_, rfl⟩
 obtain ⟨W1, hW1⟩ : ∃ W1, W1 = (w.alloc (.deferred (some []))).alloc (.loop (rec .ready none)) := ⟨_, rfl⟩
 obtain ⟨Two, hTwo⟩ : ∃ Two : LoopState → Option Code → World → Prop, Two = fun st pe W => W.heap[B]? = some (.deferred (some [])) ∧ W.heap[B + 1]? = some (.loop (rec st pe)) := ⟨_, rfl⟩
 have hlt : ∀ {st pe W}, Two st pe W → B + 1 < W.heap.size := fun h => by rw [hTwo] at h; exact (Array.getElem?_eq_some_iff.1 h.2).1
 -- the loop's two blocks are of what the caller does not speak of
 obtain ⟨U, hU⟩ : ∃ U : (Nat → Prop) → Nat → Prop, U = fun O b => O b ∨ b = B ∨ b = B + 1 := ⟨_, rfl⟩
 have hU1 : ∀ O, U O (B + 1) := fun O => by rw [hU]; exact .inr (.inr rfl)
 have hU0 : ∀ O, U O B := fun O => by rw [hU]; exact .inr (.inl rfl)
 have hUm : ∀ {O : Nat → Prop} b, O b → U O b := fun b h => by rw [hU]; exact .inl h
 have hup : ∀ {st pe O X Y}, Two st pe X → Kp O X Y → ¬ O B → ¬ O (B + 1) → Two st pe Y := fun {st pe O X Y} h k n0 n1 => by
  have := hlt h
  rw [hTwo] at h ⊢
  exact ⟨(k.block B (by omega) n0).trans h.1, (k.block (B + 1) this n1).trans h.2⟩
 have hupB : ∀ {st pe X Y}, Two st pe X → Below X.heap.size X Y → Two st pe Y := fun {st pe X Y} h k => by
  have := hlt h
  rw [hTwo] at h ⊢
  exact ⟨(k.block B (by omega)).trans h.1, (k.block (B + 1) this).trans h.2⟩
 have hturn : ∀ {st pe W} (st' : LoopState) (pe' : Option Code), Two st pe W → Two st' pe' (W.putObj (B + 1) (.loop (rec st' pe'))) := fun {st pe W} st' pe' h => by
  have hl := hlt h
  rw [hTwo] at h ⊢
  exact ⟨(World.putObj_heap_other (by omega)).trans h.1, World.putObj_heap_same hl⟩
 have hrecs : ∀ {st pe W}, Two st pe W → W.heap[B + 1]? = some (.loop (rec st pe)) := fun h => by rw [hTwo] at h; exact h.2
 have hdef : ∀ {st pe W}, Two st pe W → W.heap[B]? = some (.deferred (some [])) := fun h => by rw [hTwo] at h; exact h.1
 have hI2 : ∀ {s O W} (o : Obj), I s (U O) W → I s (U O) (W.putObj (B + 1) o) := fun {s O W} o hi => hI s _ _ _ _ hi (Kp.putObj W _ o (hU1 O)) fun b hb => ⟨by simpa using hIO _ _ _ hi b hb, .inl hb⟩
 have hIx2 : ∀ {s st pe W} (o : Obj), Two st pe W → Ix s W → Ix s (W.putObj (B + 1) o) := fun {s st pe W} o h hi => hIx s _ _ hi (below_put o (by omega) (by have := hlt h; omega))
 have hT1 : Two .ready none W1 := by
  rw [hTwo, hW1, hB]
  refine ⟨(Below.heap_alloc _ _ _ (by simp)).trans (World.alloc_heap_new w _), ?_⟩
  have := World.alloc_heap_new (w.alloc (.deferred (some []))) (.loop (rec .ready none)); rwa [World.size_alloc] at this
 have hI1 : I [] (U fun _ => False) W1 := hI _ _ _ _ _ h0 (Below.kp _ (by rw [hW1]; exact ((Below.refl _ w).alloc (Nat.le_refl _) _).alloc (by simp) _)) fun b hb => by
  have h2 : B + 1 < W1.heap.size := hlt hT1
  rw [hU] at hb
  rcases hb with hb | hb | hb
  · exact hb.elim
  · exact ⟨by omega, .inr (by omega)⟩
  · exact ⟨by omega, .inr (by omega)⟩
 refine ⟨B + 1, [{ target := .collected B, args := #[] }], W1, { target := .fn (.func gf) lb, args := #[.func (.yield (B + 1)) #[] #[]] }, W1, gf, #[.func (.yield (B + 1)) #[] #[]] ++ lb, W1, ?_, ?_, ?_, ?_, fun _ => h1, ?_⟩
 · rw [hW1, hrec, hB]; exact run_enterLoop_outer _ _ _ _ _
 · simp only [resolve, hg]
   simp [go_sem]
 · intro f' hf'; simp [Target.leads] at hf'; subst hf'; exact hFg
 · simp [invoke, go_sem, eg]
 · refine (hseq (B + 1) (fun pre O W => I pre (U O) W ∧ Two .ready none W ∧ ¬ O B ∧ ¬ O (B + 1)) (fun pre W => Ix pre W ∧ Two .done (some .ret) W) W1
    (fun s O O' X Y h k hO => ?_) (fun s X Y h k => ⟨hIx s X Y h.1 (k.mono (by have := hlt h.2; omega)), hupB h.2 k⟩) (fun s O X h => hM s _ X h.1) ?_ ⟨hI1, hT1, fun h => h, fun h => h⟩).mono ?_
   · have := hlt h.2.1
     have hT' := hup h.2.1 k h.2.2.1 h.2.2.2
     have hlY := hlt hT'
     refine ⟨hI s _ _ X Y h.1 (k.mono fun b hb => hUm b hb) (fun b hb => ?_), hT', fun e => ?_, fun e => ?_⟩
     · rw [hU] at hb ⊢
       rcases hb with hb | hb
       · obtain ⟨hb1, hb2⟩ := hO b hb
         rcases hb2 with e | e
         · exact ⟨hb1, .inl (.inl e)⟩
         · exact ⟨hb1, .inr e⟩
       · exact ⟨by omega, .inl (.inr hb)⟩
     · rcases (hO _ e).2 with e | e
       · exact h.2.2.1 e
       · omega
     · rcases (hO _ e).2 with e | e
       · exact h.2.2.2 e
       · omega
   · rintro pre x O W0 ⟨hi, hT0, hn0, hn1⟩ hx0
     have hl0 := hrecs hT0
     have hy := run_yield (P := P) (args := encs x) hl0 (by rw [hrec]; exact hps x)
     rw [hrec] at hy
     obtain ⟨W, hWW⟩ : ∃ W, W = w₁ x W0 := ⟨_, rfl⟩
     have hbw : Below W0.heap.size W0 W := by rw [hWW]; exact hw₁ x W0
     have hT := hupB hT0 hbw
     have hl := hrecs hT
     have hiW := hI _ _ (U O) _ _ hi (Below.kp (U O) hbw) fun b hb => ⟨Nat.lt_of_lt_of_le (hIO _ _ _ hi b hb) hbw.size, .inl hb⟩
     have hx : Fx pre x W := by rw [hWW]; exact hFx2 pre x W0 hx0
     refine ⟨fn, _, assign, body, hy, roundIn_of_wpIn hfn (hassign _ x W0 _ ⟨_, run_beginRound (by rw [← hWW]; exact hl) (by rw [hrec]), ?_⟩)⟩
     rw [← hWW]
     have ebusy : ({ rec .ready none with state := .busy } : Loop) = rec .busy none := by rw [hrec]
     rw [ebusy]
     have hTb := hturn .busy none hT
     refine wpIn_mono (hbody _ pre x (U O) W0 _ (hI2 _ hiW) (hFx pre x W _ _ _ hx hl rfl) (by rw [← hWW]; exact Kp.putObj W _ _ rfl) (hlt hT0)) ?_
     have fin : ∀ (st : LoopState) (jump : Option Code) (Y : World), st = (if jump.isNone then .ready else .done) → (∀ b, U O b → b < (W.putObj (B + 1) (.loop (rec .busy none))).heap.size → Y.heap[b]? = (W.putObj (B + 1) (.loop (rec .busy none))).heap[b]?) →
      (Instr.endRound (B + 1) jump).run P Y = .ok (.bool jump.isNone) (Y.putObj (B + 1) (.loop (rec st jump))) ∧ Two .busy none Y ∧ Two st jump (Y.putObj (B + 1) (.loop (rec st jump))) := fun st jump Y hst k => by
      have hTY : Two .busy none Y := by
       have h1 := hdef hTb; have h2 := hrecs hTb; have h3 := hlt hTb
       rw [hTwo]; exact ⟨(k B (hU0 O) (by omega)).trans h1, (k (B + 1) (hU1 O) h3).trans h2⟩
      have hr := run_endRound (P := P) jump (hrecs hTY)
      have e : ({ rec .busy none with state := if jump.isNone then .ready else .done, pending := jump } : Loop) = rec st jump := by rw [hst, hrec]
      rw [e] at hr
      exact ⟨hr, hTY, hturn st jump hTY⟩
     rintro e a3 Y hp
     cases e with
     | normal =>
       obtain ⟨hz, hk, hi3⟩ := hp
       obtain ⟨hr, hTY, hT4⟩ := fin .ready none Y rfl hk
       refine ⟨_, _, hr, .inl ⟨rfl, ⟨hI2 _ hi3, hT4, hn0, hn1⟩, fun b hb hbl => ?_⟩⟩
       have hne : b ≠ B + 1 := fun e => hn1 (e ▸ hb)
       rw [World.putObj_heap_other hne, hk b (hUm b hb) (by have := hbw.size; simp; omega), World.putObj_heap_other hne, hbw.block b hbl]
     | ret =>
       obtain ⟨hz, hk, hi3⟩ := hp
       obtain ⟨hr, hTY, hT4⟩ := fin .done (some .ret) Y rfl hk
       exact ⟨_, _, hr, .inr ⟨rfl, hIx2 _ hTY hi3, hT4⟩⟩
     | exit id => exact hp.elim
     | goto t => exact hp.elim
     | panic ch => exact hp.elim
     | outgrown => exact hp.elim
   · have fin : ∀ (st : LoopState) (pe : Option Code) (W : World), st ≠ .busy → Two st pe W → (Instr.endLoop (B + 1)).run P W = .ok pe (W.putObj (B + 1) (.loop (rec .exhausted pe))) := fun st pe W hs hT => by
      have := run_endLoop (P := P) (hrecs hT) (by rw [hrec]; exact hs)
      have e : ({ rec st pe with state := .exhausted } : Loop) = rec .exhausted pe := by rw [hrec]
      rw [e] at this
      rw [this, hrec]
     rintro e W2 ⟨⟨v, rfl⟩, (⟨xs, hS, O, hi, hT, _⟩ | ⟨pre, hSp, hi, hT⟩)⟩
     · exact ⟨none, _, fin _ _ _ (by simp) hT, hdone B xs _ _ (by omega) hS (hI2 _ hi) (hdef (hturn .exhausted none hT))⟩
     · exact ⟨some .ret, _, fin _ _ _ (by simp) hT, hstop B pre _ (by omega) hSp (hIx2 _ hT hi) (hdef (hturn .exhausted (some .ret) hT))⟩
end
end Go.Proofs.Ytkbhnphkopgccaa.Ov
namespace Go.Proofs.Ytkbhnphkopgccaa.Ov
open Go.ChangeShapes Go.WideShapes Go.ChangeAt Go.RowKit Go.Proofs
theorem step_app {P : Program} (w : World) {ops : Array Oper} {o : Oper} {a : Act} {K : Act → World → Prop} {Q : Exit → Act → World → Prop} {E : Prop} (hgd : o.guard = none) (s x : Operand) (t : TypeId)
 (ho : o.op = .call { callee := .builtin .append, args := #[s, x], argTypes := #[t, t] })
 (base : Nat) (e : TypeId) (i : TypeInfo) (z : Value) (size bytes : Nat) (ht : P.underlying t = some (.slice e)) (hi : P.info? e = some i) (hz : i.zero = some z)
 (hsize : i.size = size) (hby : i.bytes = bytes) (hzs : z.cells.size = size) (hsz : 0 < size)
 (v : Value) (n : Nat) (xs : List Value) (hs : a.eval s = v) (hown : w.ownsRow base e size v n xs)
 (ad : Addr) (m c : Nat) (news : List Value) (hx : a.eval x = .slice (some ad) m c) (hl : news.length = m * size) (hnews : ∀ j u, news[j]? = some u → w.cell? (ad.add j) = some u) (h1 : ∀ u ∈ news, u.oneCell' = true)
 (h63 : n + m ≤ maxLen) (hbytes : (n + m) * bytes ≤ 140737488355328) (hbase : base ≤ w.heap.size)
 (h : ∀ v' w', w'.ownsRow base e size v' (n + m) (xs ++ news) → w.grownBy w' v.ownBlock → (v'.ownBlock = v.ownBlock ∨ v'.ownBlock = some w.heap.size) → K (a.put o.dst v') w') :
 if Region.wanted o (yielded ops a.tmps) = true then Oper.wp P o a w K Q else E := by
 have hw : Region.wanted o (yielded ops a.tmps) = true := by simp [Region.wanted, hgd]
 rw [if_pos hw]
 obtain ⟨v', w', hr, h2, h3, _, h5⟩ := run_append_own_at (P := P) w base t o.type e i z size bytes ht hi hz hsize hby hzs hsz v n xs hown ad m c news hl hnews h1 h63 hbytes hbase
 unfold Oper.wp execOp
 simp only [ho, resolve, invoke, builtin, Sem.run_bind, Sem.run_pure, Result.andThen_ok, List.map_toArray, List.map_cons, List.map_nil, hs, hx, hr]
 exact h v' w' h2 h3 h5
end Go.Proofs.Ytkbhnphkopgccaa.Ov

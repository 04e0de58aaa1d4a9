/-
  Small texts of this claim, together: OvBase, OvBlk, TpMath, GaMath, VaMath, VaDig, GaCalls, GaLess, VaSmall, OvClone, OvTail, OvTurn, OvKp, OvJump, OvStep, TpCut, VaNum, VaRd, OvRng, OvRngO, OvRngA, VaVal.
-/
import Derived.Test.YtkbhnphkopgccaaRows
import Derived.WalkKit
import Derived.ProofKit
import Derived.OpenShut
import Derived.WalkMore
import Derived.ScopeJumps
import Derived.Deep.QuietTactic
import Derived.BigQuiet
import Derived.Lib.Hide
import Derived.Deep.LoopGhost
import Derived.Deep.OwnRows
import Derived.Laws.CopyOwn
import Derived.Carry
import Derived.Lib.SlBytesRow
import Derived.Lib.ItoaNum
import Derived.Lib.ItoaLen
import Derived.Laws.StructEq
import Derived.Laws.Cover1
import Derived.Shelf.Pu.Clone
import Derived.StillTail
import Derived.Deep.RegionLaw
import Derived.Maps.AppendAt
import Derived.ControlIn
import Derived.RangeFuncNested
import Derived.OwnWalkIn
import Derived.Lib.SmallJoins
import Derived.ShutString
namespace Go.Proofs.Ytkbhnphkopgccaa.Ov
open Go.ChangeShapes Go.WideShapes Go.ChangeAt Go.RowKit
theorem below_drewN {B : Nat} {w w' : World} (h : Below B w w') (m : Nat) : Below B w (w'.drewN m) := ⟨h.os, h.tape, h.output, h.size, h.block⟩
theorem Below.next {w w1 w2 : World} (h : Below w.heap.size w w1) (k : Below w1.heap.size w1 w2) : Below w.heap.size w w2 := h.trans (k.mono h.size)
def Over (w : World) : Type := { x : World // Below w.heap.size w x }
instance (w : World) : Nonempty (Over w) := ⟨⟨w, Below.refl _ _⟩⟩
theorem wp_over {P : Program} {id : Nat} {Q : Exit → Act → World → Prop} {a : Act} {w : World} {l : List Oper} (hm : P.follows .mixedOrders = true) (hB : Region.lexB .any l.toArray = true)
 (h : wpQuiet P l.toArray (fun w' => ∃ q : Over w, w' = q.val) (fun a' => ∀ w', (∃ q : Over w, w' = q.val) → Q .normal a' w') l a) : (Code.region id l.toArray true).wp P Q a w :=
 wp_region_quiet (C := fun w' => ∃ q : Over w, w' = q.val) hm hB ⟨⟨w.drew, below_drewN (Below.refl _ _) 1⟩, rfl⟩ (by simpa using h)
section
variable {w : World}
theorem over_cell (q : Over w) {p : Addr} {v : Value} (h : w.cell? p = some v) : q.val.cell? p = some v := by
 rw [q.property.cell (p := p) (block_lt_of_cell h)]; exact h
theorem over_make {P : Program} {f : FuncId} {args : Array Value} {v : Value} (q : Over w) (h : Calls P f args q.val fun e w' => e = .returned v ∧ Below q.val.heap.size q.val w') :
 Calls P f args q.val fun e w' => e = .returned v ∧ ∃ q' : Over w, w' = q'.val :=
 h.mono fun _ w' ⟨he, hb⟩ => ⟨he, ⟨w', Below.next q.property hb⟩, rfl⟩
end
def Gives (v : Value) (w : World) (e : Ending) (w' : World) : Prop := e = .returned v ∧ Below w.heap.size w w'
theorem over_gives {P : Program} {f : FuncId} {args : Array Value} {v : Value} {w : World} (q : Over w) (h : Calls P f args q.val (Gives v q.val)) :
 Calls P f args q.val fun e w' => e = .returned v ∧ ∃ q' : Over w, w' = q'.val := over_make q h
theorem ret_int {k : IntKind} {a b : Int} (h : a = b) : Ending.returned (.int k a) = .returned (.int k b) := by rw [h]
def tx (l : List UInt8) : ByteArray := ⟨l.toArray⟩
theorem tx_list (l : List UInt8) : (tx l).data.toList = l := by simp [tx]
theorem tx_size (l : List UInt8) : (tx l).size = l.length := by simp [tx, ByteArray.size]
theorem tx_of (s : ByteArray) : tx s.data.toList = s := by simp [tx]
section
variable {w w0 wr wr' : World} {B : Nat} {ty : TypeId} {n : Nat} {f : Nat → Value} {z : Value} {k : Nat}
end
structure Blk (w : World) (b : Nat) (vs : List Value) : Prop where
 c : ∀ (i : Nat) (v : Value), vs[i]? = some v → w.cell? ⟨b, i, none⟩ = some v
 f : ∀ (i : Nat) (v : Value), vs[i]? = some v → w.frozen? ⟨b, i, none⟩ = false
 lt : b < w.heap.size
section
variable {w w' : World} {b : Nat} {vs : List Value}
theorem Blk.next (h : Blk w b vs) (k : Below w.heap.size w w') : Blk w' b vs :=
 ⟨fun i v e => (k.cell (p := ⟨b, i, none⟩) h.lt).trans (h.c i v e), fun i v e => (k.frozen (p := ⟨b, i, none⟩) h.lt).trans (h.f i v e), Nat.lt_of_lt_of_le h.lt k.size⟩
theorem Blk.old (h : Blk w b vs) (o : Obj) : Blk (w.alloc o) b vs := h.next ((Below.refl _ _).alloc (Nat.le_refl _) _)
theorem Blk.drew (h : Blk w b vs) : Blk w.drew b vs := ⟨h.c, h.f, h.lt⟩
theorem Blk.over (h : Blk w b vs) (q : Over w) : Blk q.val b vs := h.next q.property
theorem Blk.put (h : Blk w b vs) {c : Nat} (hc : c ≠ b) (o : Nat) (z : Value) : Blk (w.setCell ⟨c, o, none⟩ z) b vs :=
 ⟨fun i v e => by rw [World.cell?_setCell_other _ _ _ _ (fun e => hc (congrArg Addr.block e))]; exact h.c i v e,
  fun i v e => by rw [World.frozen?_setCell]; exact h.f i v e, by simpa using h.lt⟩
theorem Blk.set (h : Blk w b vs) (o : Nat) (z : Value) : Blk (w.setCell ⟨b, o, none⟩ z) b (vs.set o z) := by
 refine ⟨fun i v e => ?_, fun i v e => ?_, by simpa using h.lt⟩
 · by_cases ho : o = i
   · subst ho
     have hlt : o < vs.length := by
      have := (List.getElem?_eq_some_iff.1 e).1
      simpa using this
     rw [List.getElem?_set_self hlt] at e
     obtain rfl := Option.some.inj e
     exact World.cell?_setCell_same _ _ _ (h.c o vs[o] (List.getElem?_eq_getElem hlt))
   · rw [List.getElem?_set_ne ho] at e
     rw [World.cell?_setCell_other _ _ _ _ (fun e => ho (by injection e))]
     exact h.c i v e
 · rw [World.frozen?_setCell]
   by_cases ho : o = i
   · subst ho
     have hlt : o < vs.length := by
      have := (List.getElem?_eq_some_iff.1 e).1
      simpa using this
     exact h.f o vs[o] (List.getElem?_eq_getElem hlt)
   · rw [List.getElem?_set_ne ho] at e
     exact h.f i v e
theorem Blk.made (w : World) (t : TypeId) (vs : List Value) {n : Nat} (hn : w.heap.size = n) : Blk (w.alloc (.cells vs.toArray t)) n vs := by
 subst hn
 exact ⟨fun i v e => by simpa [World.cell?_alloc_new] using e, fun i v _ => by simp [World.frozen?_alloc_new], by simp⟩
end
theorem box1 (w : World) (a : Obj) : Below w.heap.size w (w.alloc a) := (Below.refl _ _).alloc (Nat.le_refl _) _
theorem box2 (w : World) (a b : Obj) : Below w.heap.size w ((w.alloc a).alloc b) := (box1 w a).alloc (by simp) _
end Go.Proofs.Ytkbhnphkopgccaa.Ov
namespace Go.Proofs.Ytkbhnphkopgccaa
open Go
theorem ck5 {w : World} {b : Nat} {x0 x1 x2 x3 x4 : Value} {t : List Value} (h : Ov.Blk w b (x0 :: x1 :: x2 :: x3 :: x4 :: t)) : w.cell? ⟨b, 0, none⟩ = some x0 ∧ w.cell? ⟨b, 1, none⟩ = some x1 ∧ w.cell? ⟨b, 2, none⟩ = some x2 ∧ w.cell? ⟨b, 3, none⟩ = some x3 ∧ w.cell? ⟨b, 4, none⟩ = some x4 :=
 ⟨h.c 0 _ rfl, h.c 1 _ rfl, h.c 2 _ rfl, h.c 3 _ rfl, h.c 4 _ rfl⟩
theorem ck6 {w : World} {b : Nat} {x0 x1 x2 x3 x4 x5 : Value} {t : List Value} (h : Ov.Blk w b (x0 :: x1 :: x2 :: x3 :: x4 :: x5 :: t)) : w.cell? ⟨b, 0, none⟩ = some x0 ∧ w.cell? ⟨b, 1, none⟩ = some x1 ∧ w.cell? ⟨b, 2, none⟩ = some x2 ∧ w.cell? ⟨b, 3, none⟩ = some x3 ∧ w.cell? ⟨b, 4, none⟩ = some x4 ∧ w.cell? ⟨b, 5, none⟩ = some x5 :=
 ⟨h.c 0 _ rfl, h.c 1 _ rfl, h.c 2 _ rfl, h.c 3 _ rfl, h.c 4 _ rfl, h.c 5 _ rfl⟩
theorem ck7 {w : World} {b : Nat} {x0 x1 x2 x3 x4 x5 x6 : Value} {t : List Value} (h : Ov.Blk w b (x0 :: x1 :: x2 :: x3 :: x4 :: x5 :: x6 :: t)) : w.cell? ⟨b, 0, none⟩ = some x0 ∧ w.cell? ⟨b, 1, none⟩ = some x1 ∧ w.cell? ⟨b, 2, none⟩ = some x2 ∧ w.cell? ⟨b, 3, none⟩ = some x3 ∧ w.cell? ⟨b, 4, none⟩ = some x4 ∧ w.cell? ⟨b, 5, none⟩ = some x5 ∧ w.cell? ⟨b, 6, none⟩ = some x6 :=
 ⟨h.c 0 _ rfl, h.c 1 _ rfl, h.c 2 _ rfl, h.c 3 _ rfl, h.c 4 _ rfl, h.c 5 _ rfl, h.c 6 _ rfl⟩
theorem ck11 {w : World} {b : Nat} {x0 x1 x2 x3 x4 x5 x6 x7 x8 x9 x10 : Value} {t : List Value} (h : Ov.Blk w b (x0 :: x1 :: x2 :: x3 :: x4 :: x5 :: x6 :: x7 :: x8 :: x9 :: x10 :: t)) : w.cell? ⟨b, 0, none⟩ = some x0 ∧ w.cell? ⟨b, 1, none⟩ = some x1 ∧ w.cell? ⟨b, 2, none⟩ = some x2 ∧ w.cell? ⟨b, 3, none⟩ = some x3 ∧ w.cell? ⟨b, 4, none⟩ = some x4 ∧ w.cell? ⟨b, 5, none⟩ = some x5 ∧ w.cell? ⟨b, 6, none⟩ = some x6 ∧ w.cell? ⟨b, 7, none⟩ = some x7 ∧ w.cell? ⟨b, 8, none⟩ = some x8 ∧ w.cell? ⟨b, 9, none⟩ = some x9 ∧ w.cell? ⟨b, 10, none⟩ = some x10 :=
 ⟨h.c 0 _ rfl, h.c 1 _ rfl, h.c 2 _ rfl, h.c 3 _ rfl, h.c 4 _ rfl, h.c 5 _ rfl, h.c 6 _ rfl, h.c 7 _ rfl, h.c 8 _ rfl, h.c 9 _ rfl, h.c 10 _ rfl⟩
end Go.Proofs.Ytkbhnphkopgccaa
namespace Go.Proofs.Ytkbhnphkopgccaa.Tp
open Go.ChangeShapes Go.WideShapes Go.ChangeAt Go.RowKit Ov
def nb (n : Nat) : List UInt8 := if n < 128 then [UInt8.ofNat n] else UInt8.ofNat (n % 128 + 128) :: nb (n / 128)
termination_by n
decreasing_by omega
def cn : Nat → Nat → List UInt8 → Nat × List UInt8 × Nat
 | _, _, [] => (0, [], 2)
 | i, n, b :: t =>
   if 128 ≤ b.toNat ∧ i + 1 < 8 then cn (i + 1) (n + b.toNat % 128 * 2 ^ (7 * i)) t
   else if 128 ≤ b.toNat ∨ (b.toNat = 0 ∧ 1 < i + 1) ∨ 9007199254740991 < n + b.toNat % 128 * 2 ^ (7 * i) then (0, [], 6)
   else (n + b.toNat % 128 * 2 ^ (7 * i), t, 0)
def wn (n : Int) : Nat := if n < 0 then (-2 * n - 1).toNat else (2 * n).toNat
end Go.Proofs.Ytkbhnphkopgccaa.Tp
namespace Go.Proofs.Ytkbhnphkopgccaa.Ga
def fb (n : Int) : Bool := decide (-16777216 ≤ n ∧ n ≤ 16777216)
theorem fb_of {n : Int} (h1 : -16777216 ≤ n) (h2 : n ≤ 16777216) : fb n = true := decide_eq_true ⟨h1, h2⟩
structure Pt where
 x : Int
 y : Int
 deriving DecidableEq
def rb (a : Pt) : Bool := fb a.x && fb a.y
def near (n d : Int) : Int := (2 * n + d) / (2 * d)
namespace Pt
def zero : Pt := ⟨0, 0⟩
def one : Pt := ⟨1, 0⟩
def add (a b : Pt) : Pt := ⟨a.x + b.x, a.y + b.y⟩
def sub (a b : Pt) : Pt := ⟨a.x - b.x, a.y - b.y⟩
def mul (a b : Pt) : Pt := ⟨a.x * b.x - a.y * b.y, a.x * b.y + a.y * b.x⟩
def conj (a : Pt) : Pt := ⟨a.x, -a.y⟩
def norm (a : Pt) : Int := a.x * a.x + a.y * a.y
def quo (a b : Pt) : Pt := ⟨near (a.mul b.conj).x b.norm, near (a.mul b.conj).y b.norm⟩
def rest (a b : Pt) : Pt := a.sub ((a.quo b).mul b)
end Pt
end Go.Proofs.Ytkbhnphkopgccaa.Ga
namespace Go.Proofs.Ytkbhnphkopgccaa.Va
open Tp Ga
structure Va where
 k : Int
 n : Int
 s : List UInt8
 x : Int
 y : Int
 deriving DecidableEq
def rt (v : Va) : Bool := decide ((v.k = 0 ∧ -9007199254740992 ≤ v.n ∧ v.n ≤ 9007199254740992 ∧ v.s = [] ∧ v.x = 0 ∧ v.y = 0) ∨ (v.k = 1 ∧ v.n = 0 ∧ v.s.length ≤ 4096 ∧ v.x = 0 ∧ v.y = 0) ∨
 (v.k = 2 ∧ v.n = 0 ∧ v.s = [] ∧ rb ⟨v.x, v.y⟩ = true))
def cI (a b : Int) : Int := if a < b then -1 else if b < a then 1 else 0
def cS (a b : List UInt8) : Int := if Op.bytesLess a b = true then -1 else if Op.bytesLess b a = true then 1 else 0
def cP (x y u v : Int) : Int := if x < u ∨ x = u ∧ y < v then -1 else if u < x ∨ u = x ∧ v < y then 1 else 0
def or4 (a b c d : Int) : Int := if a ≠ 0 then a else if b ≠ 0 then b else if c ≠ 0 then c else d
def ord (a b : Va) : Int := or4 (cI a.k b.k) (cI a.n b.n) (cS a.s b.s) (cP a.x a.y b.x b.y)
theorem less_nil (a : List UInt8) : Op.bytesLess a [] = false := by cases a <;> rfl
theorem less_cons (a b : UInt8) (x y : List UInt8) : Op.bytesLess (a :: x) (b :: y) = (a < b || (a == b && Op.bytesLess x y)) := rfl
theorem less_cons_iff (a b : UInt8) (x y : List UInt8) : Op.bytesLess (a :: x) (b :: y) = true ↔ (a.toNat < b.toNat ∨ a = b ∧ Op.bytesLess x y = true) := by
 rw [less_cons]; simp [UInt8.lt_iff_toNat_lt]
theorem less_irrefl (a : List UInt8) : Op.bytesLess a a = false := by
 induction a with
 | nil => rfl
 | cons c t ih =>
   rw [Bool.eq_false_iff]
   intro h
   rcases (less_cons_iff c c t t).1 h with h | ⟨_, h⟩
   · omega
   · rw [ih] at h; cases h
theorem less_total (a b : List UInt8) : Op.bytesLess a b = true ∨ Op.bytesLess b a = true ∨ a = b := by
 induction a generalizing b with
 | nil => cases b with
   | nil => exact .inr (.inr rfl)
   | cons d u => exact .inl rfl
 | cons c t ih => cases b with
   | nil => exact .inr (.inl rfl)
   | cons d u =>
     rw [less_cons_iff, less_cons_iff]
     rcases Nat.lt_trichotomy c.toNat d.toNat with h | h | h
     · exact .inl (.inl h)
     · have e : c = d := UInt8.toNat_inj.1 h
       subst e
       rcases ih u with h | h | h
       · exact .inl (.inr ⟨rfl, h⟩)
       · exact .inr (.inl (.inr ⟨rfl, h⟩))
       · exact .inr (.inr (by rw [h]))
     · exact .inr (.inl (.inl h))
theorem less_trans {a b c : List UInt8} (h1 : Op.bytesLess a b = true) (h2 : Op.bytesLess b c = true) : Op.bytesLess a c = true := by
 induction a generalizing b c with
 | nil => cases c with
   | nil => rw [less_nil] at h2; cases h2
   | cons d u => rfl
 | cons x t ih => cases b with
   | nil => rw [less_nil] at h1; cases h1
   | cons y u => cases c with
     | nil => rw [less_nil] at h2; cases h2
     | cons z v =>
       rw [less_cons_iff] at h1 h2 ⊢
       rcases h1 with h1 | ⟨e1, h1⟩
       · rcases h2 with h2 | ⟨e2, h2⟩
         · exact .inl (by omega)
         · subst e2; exact .inl h1
       · subst e1
         rcases h2 with h2 | ⟨e2, h2⟩
         · exact .inl h2
         · subst e2; exact .inr ⟨rfl, ih h1 h2⟩
theorem less_asymm {a b : List UInt8} (h : Op.bytesLess a b = true) : Op.bytesLess b a = false := by
 rw [Bool.eq_false_iff]; intro h2
 have := less_trans h h2
 rw [less_irrefl] at this; cases this
theorem cS_lt {a b : List UInt8} (h : Op.bytesLess a b = true) : cS a b = -1 := if_pos h
theorem cS_gt {a b : List UInt8} (h : Op.bytesLess b a = true) : cS a b = 1 := by unfold cS; rw [less_asymm h, if_neg (by decide), if_pos h]
theorem cS_self (a : List UInt8) : cS a a = 0 := by unfold cS; rw [less_irrefl]; rfl
def vb (v : Va) : List UInt8 :=
 if v.k = 1 then nb 1 ++ (nb v.s.length ++ v.s)
 else if v.k = 2 then (nb 2 ++ nb (wn v.x)) ++ nb (wn v.y)
 else (nb 0 ++ nb (wn (v.n / 134217728))) ++ nb (v.n % 134217728).toNat
def pl (c : UInt8) : Bool := decide (32 ≤ c.toNat ∧ c.toNat ≤ 126 ∧ c.toNat ≠ 34 ∧ c.toNat ≠ 92)
def hx (n : Nat) : UInt8 := UInt8.ofNat (if n < 10 then 48 + n else 87 + n)
def e1 (c : UInt8) : List UInt8 := if pl c = true then [c] else [92, hx (c.toNat / 16), hx (c.toNat % 16)]
def esc (l : List UInt8) : List UInt8 := l.flatMap e1
def wr (v : Va) : List UInt8 :=
 if v.k = 1 then 34 :: (esc v.s ++ [34])
 else if v.k = 2 then (Lib.itoa v.x ++ [58]) ++ Lib.itoa v.y
 else Lib.itoa v.n
end Go.Proofs.Ytkbhnphkopgccaa.Va
namespace Go.Proofs.Ytkbhnphkopgccaa
open Go
instance : Coe Va.Va (List Value) := ⟨fun v => [.int .i64 v.k, .int .i64 v.n, .string (Ov.tx v.s), .int .i64 v.x, .int .i64 v.y]⟩
instance : Coe Va.Va (Array Value) := ⟨fun v => #[.int .i64 v.k, .int .i64 v.n, .string (Ov.tx v.s), .int .i64 v.x, .int .i64 v.y]⟩
structure Zr where
instance : Coe Zr (List Value) := ⟨fun _ => [.int .i64 0, .int .i64 0, .string ⟨#[]⟩, .int .i64 0, .int .i64 0]⟩
instance : Coe Zr (Array Value) := ⟨fun _ => #[.int .i64 0, .int .i64 0, .string ⟨#[]⟩, .int .i64 0, .int .i64 0]⟩
def zz : Zr := ⟨⟩

end Go.Proofs.Ytkbhnphkopgccaa
namespace Go.Proofs.Ytkbhnphkopgccaa.Va
open Ov Tp Ga
end Go.Proofs.Ytkbhnphkopgccaa.Va
namespace Go.Proofs.Ytkbhnphkopgccaa.Ga
open Go.ChangeShapes Go.WideShapes Go.ChangeAt Go.RowKit Ov
theorem fits_any (n : Int) (w : World) : Calls Try.prog 84 #[.int .i64 n] w fun e w' => e = .returned (.bool (fb n)) ∧ w = w' := by
 by_cases h1 : -16777216 ≤ n
 · by_cases h2 : n ≤ 16777216
   · have e : fb n = true := fb_of h1 h2
     rw [e]; clear e
     go_enter Try.func84, Try.ntmps84
     go_wp2_with (fail)
     go_ret
     exact ⟨rfl, rfl⟩
   · have e : fb n = false := decide_eq_false (by omega)
     rw [e]; clear e
     go_enter Try.func84, Try.ntmps84
     go_wp2_with (fail)
     go_ret
     exact ⟨rfl, rfl⟩
 · have e : fb n = false := decide_eq_false (by omega)
   rw [e]; clear e
   go_enter Try.func84, Try.ntmps84
   go_wp2_with (fail)
   go_ret
   exact ⟨rfl, rfl⟩
theorem right_any (x y : Int) (w : World) : Calls Try.prog 69 #[.agg #[.int .i64 x, .int .i64 y]] w fun e w' => e = .returned (.bool (rb ⟨x, y⟩)) ∧ Below w.heap.size w w' := by
 have e : rb ⟨x, y⟩ = (fb x && fb y) := rfl
 rw [e]; clear e
 have HX := Lib.hid (fits_any x)
 have HY := Lib.hid (fits_any y)
 generalize fb x = p at *
 generalize fb y = q at *
 cases p
 · go_enter Try.func69, Try.ntmps69
   go_wp2_with (fail)
   refine (HX.out _).mono ?_
   rintro e w' ⟨rfl, rfl⟩
   go_wp2_with (fail)
   go_ret
   exact ⟨rfl, (Below.refl _ _).alloc (Nat.le_refl _) _⟩
 · go_enter Try.func69, Try.ntmps69
   go_wp2_with (fail)
   refine (HX.out _).mono ?_
   rintro e w' ⟨rfl, rfl⟩
   go_wp2_with (fail)
   refine (HY.out _).mono ?_
   rintro e w' ⟨rfl, rfl⟩
   go_wp2_with (fail)
   go_ret
   exact ⟨rfl, (Below.refl _ _).alloc (Nat.le_refl _) _⟩
end Go.Proofs.Ytkbhnphkopgccaa.Ga
namespace Go.Proofs.Ytkbhnphkopgccaa.Va
open Go.ChangeShapes Go.WideShapes Go.ChangeAt Go.RowKit Ov
theorem number_any (n : Int) (w : World) : Calls Try.prog 66 #[.int .i64 n] w (Gives (.agg #[.int .i64 0, .int .i64 n, .string ⟨#[]⟩, .int .i64 0, .int .i64 0]) w) := by
 go_enter Try.func66, Try.ntmps66
 go_wp2_with (fail)
 refine bodyPost_ret (v := .agg #[.int .i64 0, .int .i64 n, .string ⟨#[]⟩, .int .i64 0, .int .i64 0]) (by simp [results, Try.results66, go_sem]) rfl ⟨rfl, ?_⟩
 exact box1 w _
theorem text_any (s : ByteArray) (w : World) : Calls Try.prog 67 #[.string s] w (Gives (.agg #[.int .i64 1, .int .i64 0, .string s, .int .i64 0, .int .i64 0]) w) := by
 go_enter Try.func67, Try.ntmps67
 go_wp2_with (fail)
 refine bodyPost_ret (v := .agg #[.int .i64 1, .int .i64 0, .string s, .int .i64 0, .int .i64 0]) (by simp [results, Try.results67, go_sem]) rfl ⟨rfl, ?_⟩
 exact box1 w _
theorem point_any (x y : Int) (w : World) : Calls Try.prog 68 #[.agg #[.int .i64 x, .int .i64 y]] w (Gives (.agg #[.int .i64 2, .int .i64 0, .string ⟨#[]⟩, .int .i64 x, .int .i64 y]) w) := by
 go_enter Try.func68, Try.ntmps68
 go_wp2_with (fail)
 refine bodyPost_ret (v := .agg #[.int .i64 2, .int .i64 0, .string ⟨#[]⟩, .int .i64 x, .int .i64 y]) (by simp [results, Try.results68, go_sem]) rfl ⟨rfl, ?_⟩
 exact box2 w _ _
theorem cmpI_any (a b : Int) (w : World) : Calls Try.prog 71 #[.int .i64 a, .int .i64 b] w fun e w' => e = .returned (.int .i64 (cI a b)) ∧ w = w' := by
 by_cases h1 : a < b
 · have he : cI a b = -1 := if_pos h1
   rw [he]; clear he
   go_enter Try.func71, Try.ntmps71
   go_wp2_with (go_in)
   go_ret
   exact ⟨rfl, rfl⟩
 · by_cases h2 : b < a
   · have he : cI a b = 1 := by unfold cI; rw [if_neg h1, if_pos h2]
     rw [he]; clear he
     go_enter Try.func71, Try.ntmps71
     go_wp2_with (go_in)
     go_ret
     exact ⟨rfl, rfl⟩
   · have he : cI a b = 0 := by unfold cI; rw [if_neg h1, if_neg h2]
     rw [he]; clear he
     go_enter Try.func71, Try.ntmps71
     go_wp2_with (go_in)
     go_ret
     exact ⟨rfl, rfl⟩
theorem cmpS_any (a b : ByteArray) (w : World) : Calls Try.prog 58 #[.string a, .string b] w fun e w' => e = .returned (.int .i64 (cS a.data.toList b.data.toList)) ∧ w = w' := by
 rw [← ByteArray.toList_eq, ← ByteArray.toList_eq]
 rcases less_total a.toList b.toList with h | h | h
 · rw [cS_lt h]
   go_enter Try.func58, Try.ntmps58
   go_wp2_with (go_in)
   go_ret
   exact ⟨rfl, rfl⟩
 · rw [cS_gt h]
   have h1 := less_asymm h
   have h2 : (a.toList == b.toList) = false := by
    rw [beq_eq_false_iff_ne]; intro e; rw [e, less_irrefl] at h; cases h
   go_enter Try.func58, Try.ntmps58
   go_wp2_with (go_in)
   go_ret
   exact ⟨rfl, rfl⟩
 · have h1 : Op.bytesLess a.toList b.toList = false := by rw [h]; exact less_irrefl _
   have h2 : (a.toList == b.toList) = true := by rw [beq_iff_eq]; exact h
   have he : cS a.toList b.toList = 0 := by rw [h]; exact cS_self _
   rw [he]; clear he h
   go_enter Try.func58, Try.ntmps58
   go_wp2_with (go_in)
   go_ret
   exact ⟨rfl, rfl⟩
end Go.Proofs.Ytkbhnphkopgccaa.Va
namespace Go.Proofs.Ytkbhnphkopgccaa.Ov
open Go.ChangeShapes Go.WideShapes Go.ChangeAt Go.RowKit Go.Shelf
def cloneRen : Ren := ⟨fun | 25 => 59 | n => n, fun | 0 => 0 | 3 => 3 | 4 => 4 | 5 => 5 | 9 => 9 | 37 => 112 | 47 => 113 | n => n, fun n => n⟩
theorem cloneLays : LaysPu.n25 Try.prog cloneRen :=
 { mixed := by kernel_rfl
   f25 := by kernel_rfl
   t0 := by kernel_rfl
   a0 := fun _ => by kernel_rfl
   z0 := fun _ => by kernel_rfl
   v0 := fun _ => by kernel_rfl
   i0 := by kernel_rfl
   t3 := by kernel_rfl
   a3 := fun _ => by kernel_rfl
   z3 := fun _ => by kernel_rfl
   v3 := fun _ => by kernel_rfl
   i3 := by kernel_rfl
   t4 := by kernel_rfl
   a4 := fun _ => by kernel_rfl
   z4 := fun _ => by kernel_rfl
   v4 := fun _ => by kernel_rfl
   i4 := by kernel_rfl
   t5 := by kernel_rfl
   a5 := fun _ => by kernel_rfl
   z5 := fun _ => by kernel_rfl
   v5 := fun _ => by kernel_rfl
   i5 := by kernel_rfl
   t9 := by kernel_rfl
   a9 := fun _ => by kernel_rfl
   z9 := fun _ => by kernel_rfl
   v9 := fun _ => by kernel_rfl
   i9 := by kernel_rfl
   t37 := by kernel_rfl
   a37 := fun _ => by kernel_rfl
   z37 := fun _ => by kernel_rfl
   v37 := fun _ => by kernel_rfl
   i37 := by kernel_rfl
   t47 := by kernel_rfl
   a47 := fun _ => by kernel_rfl
   z47 := fun _ => by kernel_rfl
   v47 := fun _ => by kernel_rfl
   i47 := by kernel_rfl }
theorem sclone_any (s : ByteArray) (w : World) (hs : s.size ≤ 281474976710656) :
 Calls Try.prog 59 #[.string s] w fun e w' => e = .returned (.string s) ∧ Below w.heap.size w w' := AnyPu.stringslite_Clone cloneLays s w hs
set_option maxHeartbeats 400000 in
theorem clone_any (s : ByteArray) (w : World) (hs : s.size ≤ 281474976710656) :
 Calls Try.prog 38 #[.string s] w fun e w' => e = .returned (.string s) ∧ Below w.heap.size w w' := by
 go_enter Try.func38, Try.ntmps38
 go_wp2_with fail
 refine (sclone_any s _ hs).mono ?_
 rintro e w1 ⟨rfl, hb⟩
 have HB := Lib.hid hb; clear hb
 go_wp2_with fail
 go_ret
 exact ⟨rfl, HB.out⟩
end Go.Proofs.Ytkbhnphkopgccaa.Ov
namespace Go.Proofs.Ytkbhnphkopgccaa.Ov
open Go.ChangeShapes Go.WideShapes Go.ChangeAt Go.RowKit
section
variable {P : Program} {ops : Array Oper} {md : Region.Mode} {C : World → Prop}
def Heads (P : Program) (md : Region.Mode) (ops : Array Oper) (C : World → Prop) (n : Nat) (L : Array Bool → Act → Prop) : Nat → Array Bool → Act → Prop
 | 0, listed, a => L listed a
 | f + 1, listed, a => Region.ready md ops listed ≠ [] ∧ ∀ i ∈ Region.ready md ops listed, i < n ∧ qOp P ops C i (Heads P md ops C n L f (listed.setIfInBounds i true)) a
theorem Heads.any {n g : Nat} {L : Array Bool → Act → Prop} {Q' : Exit → Act → World → Prop} (hL : ∀ listed a w, C w → L listed a → wpAny P md ops Q' g listed a w) :
 ∀ (f : Nat) (listed : Array Bool) (a : Act) (w : World), C w → Heads P md ops C n L f listed a → wpAny P md ops Q' (f + g) listed a w
 | 0, listed, a, w, hw, h => by rw [Nat.zero_add]; exact hL _ _ _ hw h
 | f + 1, listed, a, w, hw, h => by
   rw [show f + 1 + g = (f + g) + 1 by omega]
   exact ⟨fun h0 => absurd h0 h.1, fun i hi => wpOp_of_qOp hw (fun a' w' hw' h' => Heads.any hL f _ a' w' hw' h') (h.2 i hi).2⟩
theorem Heads.first {n i : Nat} {oi : Oper} {v : Value} {L : Array Bool → Act → Prop} (hi : ops[i]? = some oi) (hsel : ∀ (j : Nat) (o : Oper) cs b, ops[j]? = some o → o.op ≠ .select cs b)
 (hs : Region.sinkB md ops n = true) (hc : Region.chainB md ops n = true) (hn : n < ops.size) (hin : i < n) (hdone : ∀ listed a, L listed a → ∀ j ∈ Region.ready md ops listed, n ≤ j) (f : Nat) :
 ∀ (listed : Array Bool) (a : Act), HeadInv md ops n listed →
  (∀ j oj, ops[j]? = some oj → j ≠ i → listed.getD j true = false → (∀ e ∈ oj.after, Region.binds md e = true → e.on ≠ i) → oi.apart ops oj = true) →
  i ∈ Region.ready md ops listed → YieldsIn P ops C oi v a →
  Heads P md ops C n L f (listed.setIfInBounds i true) (a.put oi.dst v) → Heads P md ops C n L (f + 1) listed a := by
 induction f with
 | zero =>
   intro listed a inv hfree hr hy H
   have hun := (mem_ready.1 hr).1
   refine ⟨List.ne_nil_of_mem hr, fun j hj => ?_⟩
   have hjn : j < n := Nat.lt_of_not_le fun h => tail_waits hs hc hn inv _ i rfl hin hun j h hj
   refine ⟨hjn, ?_⟩
   rcases Nat.decEq j i with e | rfl
   · exact absurd (hdone _ _ H j (ready_mono hj e)) (by omega)
   · exact hy.qOp hi H
 | succ f ih =>
   intro listed a inv hfree hr hy H
   have hun := (mem_ready.1 hr).1
   refine ⟨List.ne_nil_of_mem hr, fun j hj => ?_⟩
   have hjn : j < n := Nat.lt_of_not_le fun h => tail_waits hs hc hn inv _ i rfl hin hun j h hj
   refine ⟨hjn, ?_⟩
   rcases Nat.decEq j i with e | rfl
   · obtain ⟨hjun, oj, hoj, hall⟩ := mem_ready.1 hj
     have hnot : ∀ e ∈ oj.after, Region.binds md e = true → e.on ≠ i := by
      intro d hd hb he
      have h1 := hall d hd hb
      rw [he, getD_both hun] at h1
      cases h1
     refine qOp_mono (fun a' h3 => ih (listed.setIfInBounds j true) a' (inv.set hj hjn) ?_ (ready_mono hr (Ne.symm e)) h3.1 ?_)
      (qOp_put hoj (hfree j oj hoj e hjun hnot) (fun cs b => hsel i oi cs b hi) (fun cs b => hsel j oj cs b hoj) hy (H.2 j (ready_mono hj e)).2)
     · intro k ok hk hki hku hno
       refine hfree k ok hk hki ?_ hno
       rcases Nat.decEq j k with d | rfl
       · rwa [getD_set_ne true d] at hku
       · exact hjun
     · rw [Array.setIfInBounds_comm _ _ e]; exact h3.2
   · exact hy.qOp hi H
theorem Heads.lex {n g : Nat} {Lq : Act → Prop} (hsel : Region.noSelect ops = true) (hs : Region.sinkB md ops n = true) (hc : Region.chainB md ops n = true) (hn : n < ops.size) :
 ∀ (l : List Oper) (k : Nat) (listed : Array Bool) (a : Act), (∀ j, j < l.length → l[j]? = ops[k + j]?) → k + l.length = n → HeadInv md ops n listed →
 Region.lexHead md ops g l.length k listed = true → wpQuiet P ops C Lq l a →
 Heads P md ops C n (fun listed' a' => Region.seqB md ops g n listed' = true ∧ Lq a') l.length listed a
 | [], k, listed, a, _, hk, _, hB, h => by
   obtain rfl : k = n := by simpa using hk
   exact ⟨by simpa [Region.lexHead] using hB, h⟩
 | o :: l, k, listed, a, hl, hk, inv, hB, h => by
   have h0 : ops[k]? = some o := by simpa using (hl 0 (by simp)).symm
   simp only [List.length_cons, Region.lexHead, Bool.and_eq_true] at hB
   obtain ⟨⟨hr, hf⟩, hB'⟩ := hB
   have hr' : k ∈ Region.ready md ops listed := by simpa using hr
   have hk' : k + 1 + l.length = n := by rw [← hk, List.length_cons]; omega
   have hkn : k < n := by omega
   obtain ⟨v, hy, hK⟩ := yieldsIn_of_qOp h0 (show qOp P ops C k (wpQuiet P ops C Lq l) a by unfold qOp; simp only [h0]; exact h)
   exact Heads.first h0 (Region.noSelect_spec hsel) hs hc hn hkn (fun listed' a' hL => seqB_ready hL.1) l.length listed a inv (Region.free_spec h0 hf) hr' hy
    (Heads.lex hsel hs hc hn l (k + 1) _ _ (fun j hj => by have := hl (j + 1) (by simp; omega); simpa [Nat.add_assoc, Nat.add_comm 1 j] using this) hk' (inv.set hr' hkn) hB' hK)
theorem wp_quiet_tail {id : Nat} {Q : Exit → Act → World → Prop} {a : Act} {w : World} {l : List Oper} (n : Nat) (hm : P.follows .mixedOrders = true) (hB : Region.lexTailB .any l.toArray n = true) (hC : C { w with drawn := w.drawn + 1 })
 (h : wpQuiet P l.toArray C (fun a' => ∀ w', C w' → wpList P l.toArray Q (l.drop n) a' w') (l.take n) a) : (Code.region id l.toArray true).wp P Q a w := by
 simp only [Region.lexTailB, Bool.and_eq_true, decide_eq_true_eq] at hB
 obtain ⟨⟨⟨⟨hsel, hn⟩, hs⟩, hc⟩, hlex⟩ := hB
 have hn' : n < l.length := by simpa using hn
 have htl : (l.take n).length = n := by simp; omega
 have hdl : (l.drop n).length = l.toArray.size - n := by simp
 have inv0 : HeadInv .any l.toArray n (Array.replicate l.toArray.size false) :=
  ⟨by simp, fun j oj _ hl => (by rw [getD_replicate_false] at hl; cases hl), fun t _ ht => getD_in (by simpa using ht) (getD_replicate_false _ _)⟩
 have H := Heads.lex (md := .any) (g := l.toArray.size - n) hsel hs hc hn (l.take n) 0 _ a (fun j hj => by
  have hj' : j < n := by rw [htl] at hj; exact hj
  simp [hj']) (by simpa using htl) inv0 (by rw [htl]; exact hlex) h
 refine wp_region_any hm ?_
 have H2 := Heads.any (Q' := Q) (g := l.toArray.size - n) (fun listed a' w' hw hL => by
  have h1 := wpAny_of_seq (md := .any) (Q' := Q) (l.drop n) n listed a' w' (fun j => by simp [List.getElem?_drop]) (by rw [hdl]; exact hL.1) (hL.2 w' hw)
  rwa [hdl] at h1) _ _ _ _ hC H
 rw [htl, show n + (l.toArray.size - n) = l.toArray.size by omega] at H2
 exact H2
end
theorem wp_over_tail {P : Program} {id : Nat} {Q : Exit → Act → World → Prop} {a : Act} {w : World} {l : List Oper} (n : Nat) (hm : P.follows .mixedOrders = true) (hB : Region.lexTailB .any l.toArray n = true)
 (h : wpQuiet P l.toArray (fun w' => ∃ q : Over w, w' = q.val) (fun a' => ∀ w', (∃ q : Over w, w' = q.val) → wpList P l.toArray Q (l.drop n) a' w') (l.take n) a) : (Code.region id l.toArray true).wp P Q a w :=
 wp_quiet_tail (C := fun w' => ∃ q : Over w, w' = q.val) n hm hB ⟨⟨w.drew, below_drewN (Below.refl _ _) 1⟩, rfl⟩ h
section
variable {w w' w'' : World} {b : Nat}
variable {t : TypeId} {v u : Value}
end
structure Kp (O : Nat → Prop) (w w' : World) : Prop where
 os : w'.os = w.os
 tape : w'.tape = w.tape
 output : w'.output = w.output
 size : w.heap.size ≤ w'.heap.size
 block : ∀ k, k < w.heap.size → ¬ O k → w'.heap[k]? = w.heap[k]?
section
variable {O O' : Nat → Prop} {w w' w'' : World}
theorem Kp.refl (O : Nat → Prop) (w : World) : Kp O w w := ⟨rfl, rfl, rfl, Nat.le_refl _, fun _ _ _ => rfl⟩
theorem Kp.mono (h : Kp O w w') (k : ∀ b, O b → O' b) : Kp O' w w' := ⟨h.os, h.tape, h.output, h.size, fun b hb hn => h.block b hb fun e => hn (k b e)⟩
theorem Kp.trans (h : Kp O w w') (k : Kp O' w' w'') (hO : ∀ b, O' b → O b ∨ w.heap.size ≤ b) : Kp O w w'' :=
 ⟨k.os.trans h.os, k.tape.trans h.tape, k.output.trans h.output, Nat.le_trans h.size k.size, fun b hb hn =>
  (k.block b (Nat.lt_of_lt_of_le hb h.size) fun e => (hO b e).elim hn fun e => by omega).trans (h.block b hb hn)⟩
theorem Below.kp (O : Nat → Prop) (h : Below w.heap.size w w') : Kp O w w' := ⟨h.os, h.tape, h.output, h.size, fun k hk _ => h.block k hk⟩
theorem Kp.next (h : Kp O w w') (k : Below w'.heap.size w' w'') : Kp O w w'' := h.trans (Below.kp O k) fun _ e => .inl e
theorem Kp.below {lo : Nat} (h : Kp O w w') (hO : ∀ b, O b → lo ≤ b) (hl : lo ≤ w.heap.size) : Below lo w w' :=
 ⟨h.os, h.tape, h.output, h.size, fun k hk => h.block k (by omega) fun e => by have := hO k e; omega⟩
theorem Kp.drewN (h : Kp O w w') (m : Nat) : Kp O w (w'.drewN m) := ⟨h.os, h.tape, h.output, h.size, h.block⟩
theorem Kp.setCell (h : Kp O w w') {b : Nat} (hb : O b) (j : Nat) (v : Value) : Kp O w (w'.setCell ⟨b, j, none⟩ v) :=
 h.trans (O' := fun k => k = b) ⟨rfl, rfl, rfl, by simp [World.setCell], fun k _ hk => Below.heap_setCell _ _ _ _ hk⟩ fun k e => .inl (by subst e; exact hb)
theorem Kp.alloc (h : Kp O w w') (o : Obj) : Kp O w (w'.alloc o) := h.next ((Below.refl _ w').alloc (Nat.le_refl _) o)
theorem Kp.grown {row : Option Nat} (h : Kp O w w') (g : w'.grownBy w'' row) (hr : ∀ b, row = some b → O b ∨ w.heap.size ≤ b) : Kp O w w'' :=
 h.trans (O' := fun k => row = some k) ⟨g.os, g.tape, g.output, g.size, fun k hk hn => g.block k hk fun e => hn e.symm⟩ hr
theorem Kp.cell (h : Kp O w w') {p : Addr} (hp : ¬ O p.block) (hl : p.block < w.heap.size) : w'.cell? p = w.cell? p := World.cell?_of_block (w := w) (h.block _ hl hp)
theorem Kp.frozen (h : Kp O w w') {p : Addr} (hp : ¬ O p.block) (hl : p.block < w.heap.size) : w'.frozen? p = w.frozen? p := by
 unfold World.frozen?; rw [h.block _ hl hp]
theorem Blk.kp {b : Nat} {vs : List Value} (h : Blk w b vs) (k : Kp O w w') (hb : ¬ O b) : Blk w' b vs :=
 ⟨fun i v e => (k.cell (p := ⟨b, i, none⟩) hb h.lt).trans (h.c i v e), fun i v e => (k.frozen (p := ⟨b, i, none⟩) hb h.lt).trans (h.f i v e), Nat.lt_of_lt_of_le h.lt k.size⟩
theorem own_kp {base size n : Nat} {e : TypeId} {v : Value} {xs : List Value} (h : w.ownsRow base e size v n xs) (k : Kp O w w') (hv : ∀ g, v.ownBlock = some g → ¬ O g) : w'.ownsRow base e size v n xs := by
 refine ⟨h.1, ?_⟩
 rcases h.2 with h1 | ⟨g, cap, cur, rfl, hg, hc, rest⟩
 · exact .inl h1
 · exact .inr ⟨g, cap, cur, rfl, hg, (k.block g (Array.getElem?_eq_some_iff.1 hc).1 (hv g rfl)).trans hc, rest⟩
end
theorem wp_scope_once {P : Program} {a : Act} {w : World} {Q : Exit → Act → World → Prop} {c rest : Code} (l : Nat) (J : Act → World → Prop) (m : Act → World → Nat) (hf : findLabel c l = some (.seq .skip rest))
 (first : Hid (∀ a w, J a w → rest.wp P (Exit.jump l J Q) a w) → c.wp P (Exit.jump l J Q) a w)
 (pass : ∀ a w, J a w → rest.wp P (Exit.jump l (fun a' w' => J a' w' ∧ m a' w' < m a w) Q) a w) : (Code.scope c).wp P Q a w :=
 wp_scope_jumps l J m hf (first (Lib.hid fun a w h => Code.wp_mono (fun e a' w' q => by
  cases e with
  | goto l' => exact ⟨q.1, q.2.1⟩
  | _ => exact q) (pass a w h))) (fun a w h => wp_seq (wp_skip (pass a w h)))
end Go.Proofs.Ytkbhnphkopgccaa.Ov
namespace Go.Proofs.Ytkbhnphkopgccaa.Ov
open Go.ChangeShapes Go.WideShapes Go.ChangeAt Go.RowKit Go.Proofs
theorem step_app {P : Program} (w : World) {ops : Array Oper} {o : Oper} {a : Act} {K : Act → World → Prop} {Q : Exit → Act → World → Prop} {E : Prop} (hgd : o.guard = none) (s x : Operand) (t : TypeId)
 (ho : o.op = .call { callee := .builtin .append, args := #[s, x], argTypes := #[t, t] })
 (base : Nat) (e : TypeId) (i : TypeInfo) (z : Value) (size bytes : Nat) (ht : P.underlying t = some (.slice e)) (hi : P.info? e = some i) (hz : i.zero = some z)
 (hsize : i.size = size) (hby : i.bytes = bytes) (hzs : z.cells.size = size) (hsz : 0 < size)
 (v : Value) (n : Nat) (xs : List Value) (hs : a.eval s = v) (hown : w.ownsRow base e size v n xs)
 (ad : Addr) (m c : Nat) (news : List Value) (hx : a.eval x = .slice (some ad) m c) (hl : news.length = m * size) (hnews : ∀ j u, news[j]? = some u → w.cell? (ad.add j) = some u) (h1 : ∀ u ∈ news, u.oneCell' = true)
 (h63 : n + m ≤ maxLen) (hbytes : (n + m) * bytes ≤ 140737488355328) (hbase : base ≤ w.heap.size)
 (h : ∀ v' w', w'.ownsRow base e size v' (n + m) (xs ++ news) → w.grownBy w' v.ownBlock → (v'.ownBlock = v.ownBlock ∨ v'.ownBlock = some w.heap.size) → K (a.put o.dst v') w') :
 if Region.wanted o (yielded ops a.tmps) = true then Oper.wp P o a w K Q else E := by
 have hw : Region.wanted o (yielded ops a.tmps) = true := by simp [Region.wanted, hgd]
 rw [if_pos hw]
 obtain ⟨v', w', hr, h2, h3, _, h5⟩ := run_append_own_at (P := P) w base t o.type e i z size bytes ht hi hz hsize hby hzs hsz v n xs hown ad m c news hl hnews h1 h63 hbytes hbase
 unfold Oper.wp execOp
 simp only [ho, resolve, invoke, builtin, Sem.run_bind, Sem.run_pure, Result.andThen_ok, List.map_toArray, List.map_cons, List.map_nil, hs, hx, hr]
 exact h v' w' h2 h3 h5
theorem wpw_scope_once {P : Program} {n : Nat} {a : Act} {w : World} {Q : Exit → Act → World → Prop} {c rest : Code} (l : Nat) (J : Act → World → Prop) (m : Act → World → Nat) (hf : findLabel c l = some (.seq .skip rest))
 (first : Hid (∀ a w, J a w → rest.wpIn Fence.wide n P (Exit.jump l J Q) a w) → c.wpIn Fence.wide n P (Exit.jump l J Q) a w)
 (pass : ∀ a w, J a w → rest.wpIn Fence.wide n P (Exit.jump l (fun a' w' => J a' w' ∧ m a' w' < m a w) Q) a w) : (Code.scope c).wpIn Fence.wide n P Q a w :=
 wpIn_wide.2 (wp_scope_once l J m hf (fun h => wpIn_wide.1 (first (Lib.hid fun a w j => wpIn_wide.2 (h a w j)))) fun a w j => wpIn_wide.1 (pass a w j))
end Go.Proofs.Ytkbhnphkopgccaa.Ov
namespace Go.Proofs.Ytkbhnphkopgccaa.Tp
open Go.ChangeShapes Go.WideShapes Go.ChangeAt Go.RowKit Ov
def cv (r : Nat × List UInt8 × Nat) : Value := .tuple #[.int .i64 (r.1 : Int), .string (tx r.2.1), .int .i64 (r.2.2 : Int)]
def cc (most : Int) (l : List UInt8) : Nat × List UInt8 × Nat :=
 if (cn 0 0 l).2.2 = 0 then (if most < ((cn 0 0 l).1 : Int) then (0, [], 3) else cn 0 0 l) else cn 0 0 l
end Go.Proofs.Ytkbhnphkopgccaa.Tp
namespace Go.Proofs.Ytkbhnphkopgccaa.Va
open Ov Tp Ga
end Go.Proofs.Ytkbhnphkopgccaa.Va
namespace Go.Proofs.Ytkbhnphkopgccaa.Ov
open Go.RowKit Go.Proofs
section
theorem below_put {B l : Nat} {X : World} (o : Obj) (h : B ≤ l) (hX : B ≤ X.heap.size) : Below B X (X.putObj l o) := (Below.refl B X).grown (grownBy_putObj' X l o) hX fun k e => by cases e; exact h
variable {F : Fence} {n : Nat} {P : Program}
end
theorem Kp.putObj {O : Nat → Prop} (w : World) (b : Nat) (o : Obj) (hb : O b) : Kp O w (w.putObj b o) := (Kp.refl O w).grown (grownBy_putObj' w b o) fun k e => .inl (by cases e; exact hb)
def ItsO {α : Type} (F : Fence) (n : Nat) (P : Program) (g : Nat) (lb : Array Value) (encs : α → Array Value) (M : World → Prop) (Fx : List α → α → World → Prop) (S Sp : List α → Prop) : Prop :=
 ∀ (l : Nat) (J : List α → (Nat → Prop) → World → Prop) (Jx : List α → World → Prop) (W : World), (∀ s O O' X Y, J s O X → Kp O X Y → (∀ b, O' b → b < Y.heap.size ∧ (O b ∨ X.heap.size ≤ b)) → J s O' Y) →
  (∀ s X Y, Jx s X → Below X.heap.size X Y → Jx s Y) → (∀ s O X, J s O X → M X) →
  (∀ pre x O X, J pre O X → Fx pre x X → YieldAt F (n - 1) P l (encs x) X fun e Y => (e = .returned (.bool true) ∧ J (pre ++ [x]) O Y ∧ ∀ b, O b → b < X.heap.size → Y.heap[b]? = X.heap[b]?) ∨ (e = .returned (.bool false) ∧ Jx (pre ++ [x]) Y)) →
  J [] (fun _ => False) W → CallsIn F n P g (#[.func (.yield l) #[] #[]] ++ lb) W fun e Y => (∃ v, e = .returned v) ∧ ((∃ xs, S xs ∧ ∃ O, J xs O Y) ∨ (∃ pre, Sp pre ∧ Jx pre Y))
def rngPostO {α : Type} (O : Nat → Prop) (I : List α → (Nat → Prop) → World → Prop) (Ix : List α → World → Prop) (xs : List α) (X : World) : Exit → Act → World → Prop
 | .normal, _, Y => X.heap.size ≤ Y.heap.size ∧ (∀ b, O b → b < X.heap.size → Y.heap[b]? = X.heap[b]?) ∧ I xs O Y
 | .ret, _, Y => X.heap.size ≤ Y.heap.size ∧ (∀ b, O b → b < X.heap.size → Y.heap[b]? = X.heap[b]?) ∧ Ix xs Y
 | _, _, _ => False
section
variable {F : Fence} {n : Nat} {P : Program}
theorem wpListIn_append_at (w : World) {ops : Array Oper} {rest : List Oper} {o : Oper} {a : Act} {Q : Exit → Act → World → Prop}
 (hg : o.guard = none) (s x : Operand) (t : TypeId) (hop : o.op = Op.call { callee := Callee.builtin Builtin.append, args := #[s, x], argTypes := #[t, t] })
 (base : Nat) (e : TypeId) (i : TypeInfo) (z : Value) (size bytes : Nat) (h1 : P.underlying t = some (.slice e)) (h2 : P.info? e = some i) (h3 : i.zero = some z) (h4 : i.size = size) (h5 : i.bytes = bytes) (h6 : z.cells.size = size) (h7 : 0 < size)
 (v : Value) (k : Nat) (xs : List Value) (hs : a.eval s = v) (hown : w.ownsRow base e size v k xs) (ad : Addr) (m c : Nat) (news : List Value) (hx : a.eval x = .slice (some ad) m c) (hn : news.length = m * size)
 (hc : ∀ j u, news[j]? = some u → w.cell? (ad.add j) = some u) (h1c : ∀ u ∈ news, u.oneCell' = true) (b1 : k + m ≤ maxLen) (b2 : (k + m) * bytes ≤ 140737488355328) (b3 : base ≤ w.heap.size)
 (hK : ∀ v' w', w'.ownsRow base e size v' (k + m) (xs ++ news) → w.grownBy w' v.ownBlock → (v'.ownBlock = v.ownBlock ∨ v'.ownBlock = some w.heap.size) → wpListIn F n P ops Q rest (a.put o.dst v') w') :
 wpListIn F n P ops Q (o :: rest) a w := by
 refine wpListIn_plain hg fun K hK' => ?_
 obtain ⟨v', w', hrun, r1, r2, _, r4⟩ := run_append_own_at (P := P) w base t o.type e i z size bytes h1 h2 h3 h4 h5 h6 h7 v k xs hown ad m c news hn hc h1c b1 b2 b3
 unfold Oper.wpIn
 refine ⟨?_, ?_⟩
 · simp [Oper.about, hop, resolve, Target.leads, Sem.run_pure]
 · rw [Oper.semAt_plain F _ _ (by rw [hop]; intro c hc'; cases hc')]
   simp [execOp, hop, resolve, invoke, builtin, hs, hx, hrun, Result.andThen]
   exact hK' _ _ (hK v' w' r1 r2 r4)
theorem wpIn_rngA {α : Type} {g : Operand} {ps : Array Tmp} {assign body : Code} {Q : Exit → Act → World → Prop} {a : Act} {w : World}
 (hro : F.round = none) (h1 : 1 ≤ n) {gf : Nat} {lb : Array Value} (hg : a.eval g = .func (.func gf) #[] lb) (hFg : F.fn gf) (eg : ∀ args w, (callFunc gf args).run P w = .ok (.enter gf args) w)
 {encs : α → Array Value} {M : World → Prop} {Fx : List α → α → World → Prop} {S Sp : List α → Prop} (hseq : ItsO F (n - 1) P gf lb encs M Fx S Sp) (hps : ∀ x, (encs x).size = ps.size)
 (I : List α → (Nat → Prop) → World → Prop) (Ix : List α → World → Prop) (hI : ∀ s O O' X Y, I s O X → Kp O X Y → (∀ b, O' b → b < Y.heap.size ∧ (O b ∨ X.heap.size ≤ b)) → I s O' Y) (hIO : ∀ s O X, I s O X → ∀ b, O b → b < X.heap.size)
 (hIx : ∀ s X Y, Ix s X → Below w.heap.size X Y → Ix s Y) (hM : ∀ s O X, I s O X → M X) (h0 : I [] (fun _ => False) w)
 (hFx : ∀ pre x X l o o', Fx pre x X → X.heap[l]? = some o → o.isCells = false → Fx pre x (X.putObj l o'))
 (a₁ : α → World → Act) (w₁ : α → World → World) (hw₁ : ∀ x W, Below W.heap.size W (w₁ x W)) (hFx2 : ∀ pre x X, Fx pre x X → Fx pre x (w₁ x X))
 (hassign : ∀ (l : Nat) (x : α) (W : World) (K : Act → World → Prop), K (a₁ x W) (w₁ x W) →
   assign.wpIn (F.inRound l) (n - 1 - 1) P (Exit.then K (fun _ _ _ => False)) { tmps := (ps.zip (encs x)).foldl (fun t (p, v) => t.setIfInBounds p v) a.tmps, defers := [] } W)
 (hbody : ∀ (l : Nat) (pre : List α) (x : α) (O : Nat → Prop) (W V : World), I pre O V → Fx pre x V → Kp (fun b => b = w.heap.size + 1) (w₁ x W) V → w.heap.size + 1 < W.heap.size → body.wpIn (F.inRound l) (n - 1 - 1) P (rngPostO O I Ix (pre ++ [x]) V) (a₁ x W) V)
 (hdone : ∀ (D : Nat) (xs : List α) (O : Nat → Prop) (W : World), w.heap.size ≤ D → S xs → I xs O W → W.heap[D]? = some (.deferred (some [])) → Q .normal { a with defers := { target := .collected D, args := #[] } :: a.defers } W)
 (hstop : ∀ (D : Nat) (pre : List α) (W : World), w.heap.size ≤ D → Sp pre → Ix pre W → W.heap[D]? = some (.deferred (some [])) → Code.ret.wpIn F n P Q { a with defers := { target := .collected D, args := #[] } :: a.defers } W) :
 (Code.rangeFunc g ps assign body).wpIn F n P Q a w := by
 obtain ⟨B, hB⟩ : ∃ B, B = w.heap.size := ⟨_, rfl⟩
 rw [← hB] at hIx hdone hstop hbody
 refine wpIn_rangeFunc fun fn hfn => ?_
 rw [hro]
 obtain ⟨rec, hrec⟩ : ∃ rec : LoopState → Option Code → Loop, rec = fun st pe => { state := st, pending := pe, fn, tmps := a.tmps, params := ps, assign, body, defers := B } := ⟨_, rfl⟩
 obtain ⟨W1, hW1⟩ : ∃ W1, W1 = (w.alloc (.deferred (some []))).alloc (.loop (rec .ready none)) := ⟨_, rfl⟩
 obtain ⟨Two, hTwo⟩ : ∃ Two : LoopState → Option Code → World → Prop, Two = fun st pe W => W.heap[B]? = some (.deferred (some [])) ∧ W.heap[B + 1]? = some (.loop (rec st pe)) := ⟨_, rfl⟩
 have hlt : ∀ {st pe W}, Two st pe W → B + 1 < W.heap.size := fun h => by rw [hTwo] at h; exact (Array.getElem?_eq_some_iff.1 h.2).1
 -- the loop's two blocks are of what the caller does not speak of
 obtain ⟨U, hU⟩ : ∃ U : (Nat → Prop) → Nat → Prop, U = fun O b => O b ∨ b = B ∨ b = B + 1 := ⟨_, rfl⟩
 have hU1 : ∀ O, U O (B + 1) := fun O => by rw [hU]; exact .inr (.inr rfl)
 have hU0 : ∀ O, U O B := fun O => by rw [hU]; exact .inr (.inl rfl)
 have hUm : ∀ {O : Nat → Prop} b, O b → U O b := fun b h => by rw [hU]; exact .inl h
 have hup : ∀ {st pe O X Y}, Two st pe X → Kp O X Y → ¬ O B → ¬ O (B + 1) → Two st pe Y := fun {st pe O X Y} h k n0 n1 => by
  have := hlt h
  rw [hTwo] at h ⊢
  exact ⟨(k.block B (by omega) n0).trans h.1, (k.block (B + 1) this n1).trans h.2⟩
 have hupB : ∀ {st pe X Y}, Two st pe X → Below X.heap.size X Y → Two st pe Y := fun {st pe X Y} h k => by
  have := hlt h
  rw [hTwo] at h ⊢
  exact ⟨(k.block B (by omega)).trans h.1, (k.block (B + 1) this).trans h.2⟩
 have hturn : ∀ {st pe W} (st' : LoopState) (pe' : Option Code), Two st pe W → Two st' pe' (W.putObj (B + 1) (.loop (rec st' pe'))) := fun {st pe W} st' pe' h => by
  have hl := hlt h
  rw [hTwo] at h ⊢
  exact ⟨(World.putObj_heap_other (by omega)).trans h.1, World.putObj_heap_same hl⟩
 have hrecs : ∀ {st pe W}, Two st pe W → W.heap[B + 1]? = some (.loop (rec st pe)) := fun h => by rw [hTwo] at h; exact h.2
 have hdef : ∀ {st pe W}, Two st pe W → W.heap[B]? = some (.deferred (some [])) := fun h => by rw [hTwo] at h; exact h.1
 have hI2 : ∀ {s O W} (o : Obj), I s (U O) W → I s (U O) (W.putObj (B + 1) o) := fun {s O W} o hi => hI s _ _ _ _ hi (Kp.putObj W _ o (hU1 O)) fun b hb => ⟨by simpa using hIO _ _ _ hi b hb, .inl hb⟩
 have hIx2 : ∀ {s st pe W} (o : Obj), Two st pe W → Ix s W → Ix s (W.putObj (B + 1) o) := fun {s st pe W} o h hi => hIx s _ _ hi (below_put o (by omega) (by have := hlt h; omega))
 have hT1 : Two .ready none W1 := by
  rw [hTwo, hW1, hB]
  refine ⟨(Below.heap_alloc _ _ _ (by simp)).trans (World.alloc_heap_new w _), ?_⟩
  have := World.alloc_heap_new (w.alloc (.deferred (some []))) (.loop (rec .ready none)); rwa [World.size_alloc] at this
 have hI1 : I [] (U fun _ => False) W1 := hI _ _ _ _ _ h0 (Below.kp _ (by rw [hW1]; exact ((Below.refl _ w).alloc (Nat.le_refl _) _).alloc (by simp) _)) fun b hb => by
  have h2 : B + 1 < W1.heap.size := hlt hT1
  rw [hU] at hb
  rcases hb with hb | hb | hb
  · exact hb.elim
  · exact ⟨by omega, .inr (by omega)⟩
  · exact ⟨by omega, .inr (by omega)⟩
 refine ⟨B + 1, [{ target := .collected B, args := #[] }], W1, { target := .fn (.func gf) lb, args := #[.func (.yield (B + 1)) #[] #[]] }, W1, gf, #[.func (.yield (B + 1)) #[] #[]] ++ lb, W1, ?_, ?_, ?_, ?_, fun _ => h1, ?_⟩
 · rw [hW1, hrec, hB]; exact run_enterLoop_outer _ _ _ _ _
 · simp only [resolve, hg]
   simp [go_sem]
 · intro f' hf'; simp [Target.leads] at hf'; subst hf'; exact hFg
 · simp [invoke, go_sem, eg]
 · refine (hseq (B + 1) (fun pre O W => I pre (U O) W ∧ Two .ready none W ∧ ¬ O B ∧ ¬ O (B + 1)) (fun pre W => Ix pre W ∧ Two .done (some .ret) W) W1
    (fun s O O' X Y h k hO => ?_) (fun s X Y h k => ⟨hIx s X Y h.1 (k.mono (by have := hlt h.2; omega)), hupB h.2 k⟩) (fun s O X h => hM s _ X h.1) ?_ ⟨hI1, hT1, fun h => h, fun h => h⟩).mono ?_
   · have := hlt h.2.1
     have hT' := hup h.2.1 k h.2.2.1 h.2.2.2
     have hlY := hlt hT'
     refine ⟨hI s _ _ X Y h.1 (k.mono fun b hb => hUm b hb) (fun b hb => ?_), hT', fun e => ?_, fun e => ?_⟩
     · rw [hU] at hb ⊢
       rcases hb with hb | hb
       · obtain ⟨hb1, hb2⟩ := hO b hb
         rcases hb2 with e | e
         · exact ⟨hb1, .inl (.inl e)⟩
         · exact ⟨hb1, .inr e⟩
       · exact ⟨by omega, .inl (.inr hb)⟩
     · rcases (hO _ e).2 with e | e
       · exact h.2.2.1 e
       · omega
     · rcases (hO _ e).2 with e | e
       · exact h.2.2.2 e
       · omega
   · rintro pre x O W0 ⟨hi, hT0, hn0, hn1⟩ hx0
     have hl0 := hrecs hT0
     have hy := run_yield (P := P) (args := encs x) hl0 (by rw [hrec]; exact hps x)
     rw [hrec] at hy
     obtain ⟨W, hWW⟩ : ∃ W, W = w₁ x W0 := ⟨_, rfl⟩
     have hbw : Below W0.heap.size W0 W := by rw [hWW]; exact hw₁ x W0
     have hT := hupB hT0 hbw
     have hl := hrecs hT
     have hiW := hI _ _ (U O) _ _ hi (Below.kp (U O) hbw) fun b hb => ⟨Nat.lt_of_lt_of_le (hIO _ _ _ hi b hb) hbw.size, .inl hb⟩
     have hx : Fx pre x W := by rw [hWW]; exact hFx2 pre x W0 hx0
     refine ⟨fn, _, assign, body, hy, roundIn_of_wpIn hfn (hassign _ x W0 _ ⟨_, run_beginRound (by rw [← hWW]; exact hl) (by rw [hrec]), ?_⟩)⟩
     rw [← hWW]
     have ebusy : ({ rec .ready none with state := .busy } : Loop) = rec .busy none := by rw [hrec]
     rw [ebusy]
     have hTb := hturn .busy none hT
     refine wpIn_mono (hbody _ pre x (U O) W0 _ (hI2 _ hiW) (hFx pre x W _ _ _ hx hl rfl) (by rw [← hWW]; exact Kp.putObj W _ _ rfl) (hlt hT0)) ?_
     have fin : ∀ (st : LoopState) (jump : Option Code) (Y : World), st = (if jump.isNone then .ready else .done) → (∀ b, U O b → b < (W.putObj (B + 1) (.loop (rec .busy none))).heap.size → Y.heap[b]? = (W.putObj (B + 1) (.loop (rec .busy none))).heap[b]?) →
      (Instr.endRound (B + 1) jump).run P Y = .ok (.bool jump.isNone) (Y.putObj (B + 1) (.loop (rec st jump))) ∧ Two .busy none Y ∧ Two st jump (Y.putObj (B + 1) (.loop (rec st jump))) := fun st jump Y hst k => by
      have hTY : Two .busy none Y := by
       have h1 := hdef hTb; have h2 := hrecs hTb; have h3 := hlt hTb
       rw [hTwo]; exact ⟨(k B (hU0 O) (by omega)).trans h1, (k (B + 1) (hU1 O) h3).trans h2⟩
      have hr := run_endRound (P := P) jump (hrecs hTY)
      have e : ({ rec .busy none with state := if jump.isNone then .ready else .done, pending := jump } : Loop) = rec st jump := by rw [hst, hrec]
      rw [e] at hr
      exact ⟨hr, hTY, hturn st jump hTY⟩
     rintro e a3 Y hp
     cases e with
     | normal =>
       obtain ⟨hz, hk, hi3⟩ := hp
       obtain ⟨hr, hTY, hT4⟩ := fin .ready none Y rfl hk
       refine ⟨_, _, hr, .inl ⟨rfl, ⟨hI2 _ hi3, hT4, hn0, hn1⟩, fun b hb hbl => ?_⟩⟩
       have hne : b ≠ B + 1 := fun e => hn1 (e ▸ hb)
       rw [World.putObj_heap_other hne, hk b (hUm b hb) (by have := hbw.size; simp; omega), World.putObj_heap_other hne, hbw.block b hbl]
     | ret =>
       obtain ⟨hz, hk, hi3⟩ := hp
       obtain ⟨hr, hTY, hT4⟩ := fin .done (some .ret) Y rfl hk
       exact ⟨_, _, hr, .inr ⟨rfl, hIx2 _ hTY hi3, hT4⟩⟩
     | exit id => exact hp.elim
     | goto t => exact hp.elim
     | panic ch => exact hp.elim
     | outgrown => exact hp.elim
   · have fin : ∀ (st : LoopState) (pe : Option Code) (W : World), st ≠ .busy → Two st pe W → (Instr.endLoop (B + 1)).run P W = .ok pe (W.putObj (B + 1) (.loop (rec .exhausted pe))) := fun st pe W hs hT => by
      have := run_endLoop (P := P) (hrecs hT) (by rw [hrec]; exact hs)
      have e : ({ rec st pe with state := .exhausted } : Loop) = rec .exhausted pe := by rw [hrec]
      rw [e] at this
      rw [this, hrec]
     rintro e W2 ⟨⟨v, rfl⟩, (⟨xs, hS, O, hi, hT, _⟩ | ⟨pre, hSp, hi, hT⟩)⟩
     · exact ⟨none, _, fin _ _ _ (by simp) hT, hdone B xs _ _ (by omega) hS (hI2 _ hi) (hdef (hturn .exhausted none hT))⟩
     · exact ⟨some .ret, _, fin _ _ _ (by simp) hT, hstop B pre _ (by omega) hSp (hIx2 _ hT hi) (hdef (hturn .exhausted (some .ret) hT))⟩
end
end Go.Proofs.Ytkbhnphkopgccaa.Ov
namespace Go.Proofs.Ytkbhnphkopgccaa.Va
open Go.ChangeShapes Go.WideShapes Go.ChangeAt Go.RowKit Ov Tp
section
variable {H : Type} {enc : TypeId × Value → H} {w : World} {base : Nat} {spare : Nat → Bool} {held : Bool}
end
end Go.Proofs.Ytkbhnphkopgccaa.Va

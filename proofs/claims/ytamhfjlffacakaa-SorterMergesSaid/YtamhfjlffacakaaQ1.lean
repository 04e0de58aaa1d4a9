/-
  Small texts of this claim, together: OvBase, TpMath, GaMath, VaMath, JoMath, OvBlk, VaDig, GaCalls, GaLess, VaSmall, OvClone, OvTail, OvJump, TpCut, VaNum, VaRd, OvRng, JoSmall, OvFloat, GaSmall, GaAdd, GaMul, GaNear, OvTurn, OvKp, OvRngO, OvRngA, OvStep, JoRefS, VaVal, OvRnq.
-/
import Derived.Test.YtamhfjlffacakaaRows
import Derived.WalkKit
import Derived.ProofKit
import Derived.OpenShut
import Derived.WalkMore
import Derived.ScopeJumps
import Derived.Deep.QuietTactic
import Derived.BigQuiet
import Derived.Lib.Hide
import Derived.Deep.LoopGhost
import Derived.Deep.OwnRows
import Derived.Laws.CopyOwn
import Derived.Carry
import Derived.Lib.SlBytesRow
import Derived.Lib.ItoaNum
import Derived.Lib.ItoaLen
import Derived.Laws.StructEq
import Derived.Laws.Cover1
import Derived.Shelf.Pu.Clone
import Derived.StillTail
import Derived.RangeFuncNested
import Derived.Laws.ComplexArith
import Derived.OwnWalkIn
import Derived.Maps.AppendAt
import Derived.Deep.RegionLaw
import Derived.ControlIn
import Derived.Lib.SmallJoins
import Derived.ShutString
import Derived.Sort.QuietThIn
import Derived.Sort.QuietIn
namespace Go.Proofs.Ytamhfjlffacakaa.Ov
open Go.ChangeShapes Go.WideShapes Go.ChangeAt Go.RowKit
theorem below_drewN {B : Nat} {w w' : World} (h : Below B w w') (m : Nat) : Below B w (w'.drewN m) := ⟨h.os, h.tape, h.output, h.size, h.block⟩
theorem Below.next {w w1 w2 : World} (h : Below w.heap.size w w1) (k : Below w1.heap.size w1 w2) : Below w.heap.size w w2 := h.trans (k.mono h.size)
def Over (w : World) : Type := { x : World // Below w.heap.size w x }
instance (w : World) : Nonempty (Over w) := ⟨⟨w, Below.refl _ _⟩⟩
theorem wp_over {P : Program} {id : Nat} {Q : Exit → Act → World → Prop} {a : Act} {w : World} {l : List Oper} (hm : P.follows .mixedOrders = true) (hB : Region.lexB .any l.toArray = true)
 (h : wpQuiet P l.toArray (fun w' => ∃ q : Over w, w' = q.val) (fun a' => ∀ w', (∃ q : Over w, w' = q.val) → Q .normal a' w') l a) : (Code.region id l.toArray true).wp P Q a w :=
 wp_region_quiet (C := fun w' => ∃ q : Over w, w' = q.val) hm hB ⟨⟨w.drew, below_drewN (Below.refl _ _) 1⟩, rfl⟩ (by simpa using h)
section
variable {w : World}
theorem over_cell (q : Over w) {p : Addr} {v : Value} (h : w.cell? p = some v) : q.val.cell? p = some v := by
 rw [q.property.cell (p := p) (block_lt_of_cell h)]; exact h
theorem over_make {P : Program} {f : FuncId} {args : Array Value} {v : Value} (q : Over w) (h : Calls P f args q.val fun e w' => e = .returned v ∧ Below q.val.heap.size q.val w') :
 Calls P f args q.val fun e w' => e = .returned v ∧ ∃ q' : Over w, w' = q'.val :=
 h.mono fun _ w' ⟨he, hb⟩ => ⟨he, ⟨w', Below.next q.property hb⟩, rfl⟩
end
def Gives (v : Value) (w : World) (e : Ending) (w' : World) : Prop := e = .returned v ∧ Below w.heap.size w w'
theorem over_gives {P : Program} {f : FuncId} {args : Array Value} {v : Value} {w : World} (q : Over w) (h : Calls P f args q.val (Gives v q.val)) :
 Calls P f args q.val fun e w' => e = .returned v ∧ ∃ q' : Over w, w' = q'.val := over_make q h
theorem ret_int {k : IntKind} {a b : Int} (h : a = b) : Ending.returned (.int k a) = .returned (.int k b) := by rw [h]
theorem take_snoc (s : ByteArray) (k : Nat) (h : k < s.size) : s.data.toList.take (k + 1) = s.data.toList.take k ++ [s[k]] := by
 rw [List.take_succ_eq_append_getElem (by simpa using h)]; rfl
def tx (l : List UInt8) : ByteArray := ⟨l.toArray⟩
theorem tx_list (l : List UInt8) : (tx l).data.toList = l := by simp [tx]
theorem tx_size (l : List UInt8) : (tx l).size = l.length := by simp [tx, ByteArray.size]
theorem tx_of (s : ByteArray) : tx s.data.toList = s := by simp [tx]
section
variable {w w0 wr wr' : World} {B : Nat} {ty : TypeId} {n : Nat} {f : Nat → Value} {z : Value} {k : Nat}
end
end Go.Proofs.Ytamhfjlffacakaa.Ov
namespace Go.Proofs.Ytamhfjlffacakaa.Tp
open Go.ChangeShapes Go.WideShapes Go.ChangeAt Go.RowKit Ov
def nb (n : Nat) : List UInt8 := if n < 128 then [UInt8.ofNat n] else UInt8.ofNat (n % 128 + 128) :: nb (n / 128)
termination_by n
decreasing_by omega
def cn : Nat → Nat → List UInt8 → Nat × List UInt8 × Nat
 | _, _, [] => (0, [], 2)
 | i, n, b :: t =>
   if 128 ≤ b.toNat ∧ i + 1 < 8 then cn (i + 1) (n + b.toNat % 128 * 2 ^ (7 * i)) t
   else if 128 ≤ b.toNat ∨ (b.toNat = 0 ∧ 1 < i + 1) ∨ 9007199254740991 < n + b.toNat % 128 * 2 ^ (7 * i) then (0, [], 6)
   else (n + b.toNat % 128 * 2 ^ (7 * i), t, 0)
def wn (n : Int) : Nat := if n < 0 then (-2 * n - 1).toNat else (2 * n).toNat
end Go.Proofs.Ytamhfjlffacakaa.Tp
namespace Go.Proofs.Ytamhfjlffacakaa.Ga
def fb (n : Int) : Bool := decide (-16777216 ≤ n ∧ n ≤ 16777216)
theorem fb_yes {n : Int} (h : fb n = true) : -16777216 ≤ n ∧ n ≤ 16777216 := of_decide_eq_true h
theorem fb_of {n : Int} (h1 : -16777216 ≤ n) (h2 : n ≤ 16777216) : fb n = true := decide_eq_true ⟨h1, h2⟩
theorem fb_neg (n : Int) : fb (-n) = fb n := by unfold fb; rw [decide_eq_decide]; omega
structure Pt where
 x : Int
 y : Int
 deriving DecidableEq
theorem Pt.ext {a b : Pt} (h1 : a.x = b.x) (h2 : a.y = b.y) : a = b := by cases a; cases b; simp_all
def rb (a : Pt) : Bool := fb a.x && fb a.y
theorem rb_yes {a : Pt} (h : rb a = true) : (-16777216 ≤ a.x ∧ a.x ≤ 16777216) ∧ (-16777216 ≤ a.y ∧ a.y ≤ 16777216) := by
 unfold rb at h; rw [Bool.and_eq_true] at h; exact ⟨fb_yes h.1, fb_yes h.2⟩
theorem rb_of {a : Pt} (h : (-16777216 ≤ a.x ∧ a.x ≤ 16777216) ∧ (-16777216 ≤ a.y ∧ a.y ≤ 16777216)) : rb a = true := by
 unfold rb; rw [Bool.and_eq_true]; exact ⟨fb_of h.1.1 h.1.2, fb_of h.2.1 h.2.2⟩
theorem rb_xy {x y : Int} (h : rb ⟨x, y⟩ = true) : (-16777216 ≤ x ∧ x ≤ 16777216) ∧ (-16777216 ≤ y ∧ y ≤ 16777216) := rb_yes h
def near (n d : Int) : Int := (2 * n + d) / (2 * d)
theorem near_spec (n d : Int) (h : 0 < d) : -d ≤ 2 * (n - near n d * d) ∧ 2 * (n - near n d * d) < d := by
 unfold near
 have h1 := Int.emod_add_mul_ediv (2 * n + d) (2 * d)
 have h2 := Int.emod_nonneg (2 * n + d) (show 2 * d ≠ 0 by omega)
 have h3 := Int.emod_lt_of_pos (2 * n + d) (show 0 < 2 * d by omega)
 generalize (2 * n + d) / (2 * d) = q at *
 generalize (2 * n + d) % (2 * d) = r at *
 have e : 2 * d * q = 2 * (q * d) := by grind
 rw [e] at h1
 generalize q * d = p at *
 omega
theorem near_le {n d M : Int} (h : 0 < d) (h1 : -(M * d) ≤ n) (h2 : n ≤ M * d) : -M ≤ near n d ∧ near n d ≤ M := by
 obtain ⟨g1, g2⟩ := near_spec n d h
 generalize near n d = q at *
 refine ⟨?_, ?_⟩
 · rcases Int.lt_or_le q (-M) with hq | hq
   · have : (q + 1) * d ≤ -M * d := Int.mul_le_mul_of_nonneg_right (by omega) (by omega)
     rw [Int.add_mul, Int.neg_mul] at this
     generalize q * d = p at *; generalize M * d = m at *; omega
   · exact hq
 · rcases Int.lt_or_le M q with hq | hq
   · have : (M + 1) * d ≤ q * d := Int.mul_le_mul_of_nonneg_right (by omega) (by omega)
     rw [Int.add_mul] at this
     generalize q * d = p at *; generalize M * d = m at *; omega
   · exact hq
theorem sq_nonneg (a : Int) : 0 ≤ a * a := by
 rcases Int.le_total 0 a with h | h
 · exact Int.mul_nonneg h h
 · exact Int.mul_nonneg_of_nonpos_of_nonpos h h
theorem sq_le {a b : Int} (hb : 0 ≤ b) (h : a * a ≤ b * b) : -b ≤ a ∧ a ≤ b := by
 refine ⟨?_, ?_⟩
 · rcases Int.lt_or_le a (-b) with hq | hq
   · have : (b + 1) * (b + 1) ≤ (-a) * (-a) := Int.mul_le_mul (by omega) (by omega) (by omega) (by omega)
     have e1 : (b + 1) * (b + 1) = b * b + 2 * b + 1 := by grind
     have e2 : (-a) * (-a) = a * a := by grind
     rw [e1, e2] at this; omega
   · exact hq
 · rcases Int.lt_or_le b a with hq | hq
   · have : (b + 1) * (b + 1) ≤ a * a := Int.mul_le_mul (by omega) (by omega) (by omega) (by omega)
     have e1 : (b + 1) * (b + 1) = b * b + 2 * b + 1 := by grind
     rw [e1] at this; omega
   · exact hq
theorem le_sq {a b : Int} (h1 : -b ≤ a) (h2 : a ≤ b) : a * a ≤ b * b := by
 rcases Int.le_total 0 a with h | h
 · exact Int.mul_le_mul h2 h2 h (by omega)
 · have : (-a) * (-a) ≤ b * b := Int.mul_le_mul (by omega) (by omega) (by omega) (by omega)
   rwa [Int.neg_mul_neg] at this
theorem mul_big {a b : Int} (ha : -16777216 ≤ a ∧ a ≤ 16777216) (hb : -16777216 ≤ b ∧ b ≤ 16777216) : -281474976710656 ≤ a * b ∧ a * b ≤ 281474976710656 := by
 have h : (a * b) * (a * b) ≤ 281474976710656 * 281474976710656 := by
  have h1 := le_sq ha.1 ha.2
  have h2 := le_sq hb.1 hb.2
  rw [show (a * b) * (a * b) = (a * a) * (b * b) by grind]
  exact Int.mul_le_mul h1 h2 (sq_nonneg b) (by omega)
 exact sq_le (by omega) h
namespace Pt
def zero : Pt := ⟨0, 0⟩
def one : Pt := ⟨1, 0⟩
def add (a b : Pt) : Pt := ⟨a.x + b.x, a.y + b.y⟩
def sub (a b : Pt) : Pt := ⟨a.x - b.x, a.y - b.y⟩
def mul (a b : Pt) : Pt := ⟨a.x * b.x - a.y * b.y, a.x * b.y + a.y * b.x⟩
def conj (a : Pt) : Pt := ⟨a.x, -a.y⟩
def norm (a : Pt) : Int := a.x * a.x + a.y * a.y
def turn (a : Pt) : Pt := ⟨-a.y, a.x⟩
def quo (a b : Pt) : Pt := ⟨near (a.mul b.conj).x b.norm, near (a.mul b.conj).y b.norm⟩
def rest (a b : Pt) : Pt := a.sub ((a.quo b).mul b)
def turns : Nat → Pt → Pt
 | 0, a => a
 | k + 1, a => (turns k a).turn
theorem norm_nonneg (a : Pt) : 0 ≤ a.norm := by
 have := sq_nonneg a.x; have := sq_nonneg a.y; unfold norm; omega
theorem norm_pos {a : Pt} (h : a ≠ zero) : 0 < a.norm := by
 have h1 := sq_nonneg a.x; have h2 := sq_nonneg a.y
 unfold norm
 by_cases hx : a.x = 0
 · have hy : a.y ≠ 0 := fun hy => h (Pt.ext hx hy)
   have : a.y * a.y ≠ 0 := Int.mul_ne_zero hy hy
   omega
 · have : a.x * a.x ≠ 0 := Int.mul_ne_zero hx hx
   omega
theorem mul_norm (a b : Pt) : (a.mul b).norm = a.norm * b.norm := by unfold mul norm; grind
theorem rest_norm (a : Pt) {b : Pt} (h : b ≠ zero) : 2 * (a.rest b).norm ≤ b.norm := by
 have hp := norm_pos h
 have e1 : ((a.rest b).mul b.conj).x = (a.mul b.conj).x - (a.quo b).x * b.norm := by unfold rest sub mul conj norm; grind
 have e2 : ((a.rest b).mul b.conj).y = (a.mul b.conj).y - (a.quo b).y * b.norm := by unfold rest sub mul conj norm; grind
 have e3 : ((a.rest b).mul b.conj).norm = (a.rest b).norm * b.norm := by rw [mul_norm]; congr 1; unfold conj norm; grind
 obtain ⟨l1, u1⟩ := near_spec (a.mul b.conj).x b.norm hp
 obtain ⟨l2, u2⟩ := near_spec (a.mul b.conj).y b.norm hp
 have f1 : (a.quo b).x = near (a.mul b.conj).x b.norm := rfl
 have f2 : (a.quo b).y = near (a.mul b.conj).y b.norm := rfl
 rw [← f1, ← e1] at l1 u1
 rw [← f2, ← e2] at l2 u2
 unfold norm at e3
 have s1 := le_sq (a := 2 * ((a.rest b).mul b.conj).x) (b := b.norm) (by omega) (by omega)
 have s2 := le_sq (a := 2 * ((a.rest b).mul b.conj).y) (b := b.norm) (by omega) (by omega)
 generalize ((a.rest b).mul b.conj).x = u at *
 generalize ((a.rest b).mul b.conj).y = v at *
 have e4 : u * u + v * v = (a.rest b).norm * b.norm := e3
 generalize (a.rest b).norm = r at *
 generalize b.norm = n at *
 rcases Int.lt_or_le n (2 * r) with hh | hh
 · have h5 : (n + 1) * n ≤ 2 * r * n := Int.mul_le_mul_of_nonneg_right (by omega) (by omega)
   have t1 : 2 * u * (2 * u) = 4 * (u * u) := by grind
   have t2 : 2 * v * (2 * v) = 4 * (v * v) := by grind
   have t3 : (n + 1) * n = n * n + n := by grind
   have t4 : 2 * r * n = 2 * (r * n) := by grind
   rw [t1] at s1; rw [t2] at s2; rw [t3, t4] at h5
   generalize u * u = uu at *; generalize v * v = vv at *; generalize r * n = rn at *; generalize n * n = nn at *
   omega
 · exact hh
theorem turn_right {a : Pt} (h : rb a = true) : rb a.turn = true := by
 obtain ⟨h1, h2⟩ := rb_yes h
 exact rb_of ⟨⟨by show _ ≤ -a.y; omega, by show -a.y ≤ _; omega⟩, h1⟩
theorem turns_right (k : Nat) {a : Pt} (h : rb a = true) : rb (turns k a) = true := by
 induction k with
 | zero => exact h
 | succ k ih => exact turn_right ih
def fs (a : Pt) : Pt :=
 if 0 < a.x ∧ 0 ≤ a.y then a else if a.y < 0 ∧ 0 ≤ a.x then turns 1 a else if a.x < 0 ∧ a.y ≤ 0 then turns 2 a else if 0 < a.y ∧ a.x ≤ 0 then turns 3 a else a
theorem fs_first (a : Pt) : (0 < (fs a).x ∧ 0 ≤ (fs a).y) ∨ (fs a = zero ∧ a = zero) := by
 unfold fs
 split
 · exact .inl ‹_›
 · split
   · refine .inl ?_; show 0 < -a.y ∧ 0 ≤ a.x; omega
   · split
     · refine .inl ?_; show 0 < - a.x ∧ 0 ≤ -a.y; omega
     · split
       · refine .inl ?_; show 0 < - -a.y ∧ 0 ≤ -a.x; omega
       · exact .inr ⟨Pt.ext (by show _ = (0 : Int); omega) (by show _ = (0 : Int); omega), Pt.ext (by show _ = (0 : Int); omega) (by show _ = (0 : Int); omega)⟩
theorem fs_done {a : Pt} (h : (0 < a.x ∧ 0 ≤ a.y) ∨ a = zero) : fs a = a := by
 unfold fs
 rcases h with h | h
 · rw [if_pos h]
 · subst h; rfl
theorem fs_turn {a : Pt} (h : ¬ (0 < a.x ∧ 0 ≤ a.y)) (h0 : a ≠ zero) : fs a.turn = fs a := by
 have hz : ¬ (a.x = 0 ∧ a.y = 0) := fun ⟨hx, hy⟩ => h0 (Pt.ext hx hy)
 unfold fs
 have t1 : turns 1 a = a.turn := rfl
 have t2 : turns 2 a = turns 1 a.turn := rfl
 have t3 : turns 3 a = turns 2 a.turn := rfl
 have tx : a.turn.x = -a.y := rfl
 have ty : a.turn.y = a.x := rfl
 rw [tx, ty, if_neg h]
 by_cases c1 : a.y < 0 ∧ 0 ≤ a.x
 · rw [if_pos (show 0 < -a.y ∧ 0 ≤ a.x by omega), if_pos c1, t1]
 · rw [if_neg c1, if_neg (show ¬ (0 < -a.y ∧ 0 ≤ a.x) by omega)]
   by_cases c2 : a.x < 0 ∧ a.y ≤ 0
   · rw [if_pos c2, if_pos (show a.x < 0 ∧ 0 ≤ -a.y by omega), t2]
   · rw [if_neg c2, if_neg (show ¬ (a.x < 0 ∧ 0 ≤ -a.y) by omega), if_pos (show 0 < a.y ∧ a.x ≤ 0 by omega), if_pos (show -a.y < 0 ∧ a.x ≤ 0 by omega), t3]
theorem rest_lt (a : Pt) {b : Pt} (h : b ≠ zero) : (a.rest b).norm.toNat < b.norm.toNat := by
 have h1 := rest_norm a h; have h2 := norm_nonneg (a.rest b); have h3 := norm_pos h; omega
def cg (a b : Pt) : Pt := if _h : b = zero then fs a else cg b (a.rest b)
termination_by b.norm.toNat
decreasing_by exact rest_lt a _h
theorem cg_zero (a : Pt) : cg a zero = fs a := by rw [cg, dif_pos rfl]
theorem cg_rest (a : Pt) {b : Pt} (h : b ≠ zero) : cg a b = cg b (a.rest b) := by rw [cg, dif_neg h]
theorem norm_le {a : Pt} (h : rb a = true) : a.norm ≤ 562949953421312 := by
 obtain ⟨h1, h2⟩ := rb_yes h
 have s1 := le_sq h1.1 h1.2
 have s2 := le_sq h2.1 h2.2
 unfold norm; omega
theorem right_of_norm {a : Pt} (h : a.norm ≤ 281474976710656) : rb a = true := by
 have s1 := sq_nonneg a.x; have s2 := sq_nonneg a.y
 unfold norm at h
 exact rb_of ⟨sq_le (by omega) (by omega), sq_le (by omega) (by omega)⟩
theorem rest_right {a b : Pt} (hb : rb b = true) (h : b ≠ zero) : rb (a.rest b) = true := by
 have h1 := rest_norm a h; have h2 := norm_le hb
 exact right_of_norm (by omega)
theorem part_le {z N n : Int} (hn : 1 ≤ n) (hz : z * z ≤ N * n) (hN : N ≤ 562949953421312) (h1 : n = 1 → z * z ≤ 281474976710656) : -(16777216 * n) ≤ z ∧ z ≤ 16777216 * n := by
 refine sq_le (by omega) ?_
 by_cases h : n = 1
 · have := h1 h; subst h; omega
 · have t1 : N * n ≤ 562949953421312 * n := Int.mul_le_mul_of_nonneg_right hN (by omega)
   have t2 : 2 * n ≤ n * n := Int.mul_le_mul_of_nonneg_right (by omega) (by omega)
   have t3 : 16777216 * n * (16777216 * n) = 281474976710656 * (n * n) := by grind
   rw [t3]; generalize n * n = nn at *; omega
theorem unit_cases {b : Pt} (h : b.norm = 1) : (b.x * b.x = 1 ∧ b.y = 0) ∨ (b.x = 0 ∧ b.y * b.y = 1) := by
 have s1 := sq_nonneg b.x; have s2 := sq_nonneg b.y
 unfold norm at h
 by_cases hx : b.x = 0
 · exact .inr ⟨hx, by rw [hx] at h; omega⟩
 · have hx2 : b.x * b.x ≠ 0 := Int.mul_ne_zero hx hx
   have hy : b.y = 0 := by
    refine Decidable.byContradiction fun hy => ?_
    have hy2 : b.y * b.y ≠ 0 := Int.mul_ne_zero hy hy
    omega
   exact .inl ⟨by rw [hy] at h; omega, hy⟩
theorem quo_right {a b : Pt} (ha : rb a = true) (h : b ≠ zero) : rb (a.quo b) = true := by
 have hp := norm_pos h
 have hN := norm_le ha
 obtain ⟨hx, hy⟩ := rb_yes ha
 have sx := le_sq hx.1 hx.2
 have sy := le_sq hy.1 hy.2
 have e : (a.mul b.conj).norm = a.norm * b.norm := by rw [mul_norm]; congr 1; unfold conj norm; grind
 have s1 := sq_nonneg (a.mul b.conj).x
 have s2 := sq_nonneg (a.mul b.conj).y
 have e' : (a.mul b.conj).x * (a.mul b.conj).x + (a.mul b.conj).y * (a.mul b.conj).y = a.norm * b.norm := e
 have hu : b.norm = 1 → (a.mul b.conj).x * (a.mul b.conj).x ≤ 281474976710656 ∧ (a.mul b.conj).y * (a.mul b.conj).y ≤ 281474976710656 := by
  intro h1
  have zx : (a.mul b.conj).x = a.x * b.x + a.y * b.y := by unfold mul conj; grind
  have zy : (a.mul b.conj).y = a.y * b.x - a.x * b.y := by unfold mul conj; grind
  rcases unit_cases h1 with ⟨u1, u2⟩ | ⟨u1, u2⟩
  · have t1 : (a.mul b.conj).x * (a.mul b.conj).x = a.x * a.x := by rw [zx, u2]; grind
    have t2 : (a.mul b.conj).y * (a.mul b.conj).y = a.y * a.y := by rw [zy, u2]; grind
    rw [t1, t2]; omega
  · have t1 : (a.mul b.conj).x * (a.mul b.conj).x = a.y * a.y := by rw [zx, u1]; grind
    have t2 : (a.mul b.conj).y * (a.mul b.conj).y = a.x * a.x := by rw [zy, u1]; grind
    rw [t1, t2]; omega
 obtain ⟨p1, p2⟩ := part_le (z := (a.mul b.conj).x) (N := a.norm) (n := b.norm) (by omega) (by omega) hN (fun h1 => (hu h1).1)
 obtain ⟨q1, q2⟩ := part_le (z := (a.mul b.conj).y) (N := a.norm) (n := b.norm) (by omega) (by omega) hN (fun h1 => (hu h1).2)
 exact rb_of ⟨near_le hp p1 p2, near_le hp q1 q2⟩
end Pt
end Go.Proofs.Ytamhfjlffacakaa.Ga
namespace Go.Proofs.Ytamhfjlffacakaa.Va
open Tp Ga
structure Va where
 k : Int
 n : Int
 s : List UInt8
 x : Int
 y : Int
 deriving DecidableEq
def rt (v : Va) : Bool := decide ((v.k = 0 ∧ -9007199254740992 ≤ v.n ∧ v.n ≤ 9007199254740992 ∧ v.s = [] ∧ v.x = 0 ∧ v.y = 0) ∨ (v.k = 1 ∧ v.n = 0 ∧ v.s.length ≤ 4096 ∧ v.x = 0 ∧ v.y = 0) ∨
 (v.k = 2 ∧ v.n = 0 ∧ v.s = [] ∧ rb ⟨v.x, v.y⟩ = true))
theorem rt_yes {v : Va} (h : rt v = true) : (v.k = 0 ∧ -9007199254740992 ≤ v.n ∧ v.n ≤ 9007199254740992 ∧ v.s = [] ∧ v.x = 0 ∧ v.y = 0) ∨ (v.k = 1 ∧ v.n = 0 ∧ v.s.length ≤ 4096 ∧ v.x = 0 ∧ v.y = 0) ∨
 (v.k = 2 ∧ v.n = 0 ∧ v.s = [] ∧ rb ⟨v.x, v.y⟩ = true) := of_decide_eq_true h
def cI (a b : Int) : Int := if a < b then -1 else if b < a then 1 else 0
def cS (a b : List UInt8) : Int := if Op.bytesLess a b = true then -1 else if Op.bytesLess b a = true then 1 else 0
def cP (x y u v : Int) : Int := if x < u ∨ x = u ∧ y < v then -1 else if u < x ∨ u = x ∧ v < y then 1 else 0
def or4 (a b c d : Int) : Int := if a ≠ 0 then a else if b ≠ 0 then b else if c ≠ 0 then c else d
def ord (a b : Va) : Int := or4 (cI a.k b.k) (cI a.n b.n) (cS a.s b.s) (cP a.x a.y b.x b.y)
theorem less_nil (a : List UInt8) : Op.bytesLess a [] = false := by cases a <;> rfl
theorem less_cons (a b : UInt8) (x y : List UInt8) : Op.bytesLess (a :: x) (b :: y) = (a < b || (a == b && Op.bytesLess x y)) := rfl
theorem less_cons_iff (a b : UInt8) (x y : List UInt8) : Op.bytesLess (a :: x) (b :: y) = true ↔ (a.toNat < b.toNat ∨ a = b ∧ Op.bytesLess x y = true) := by
 rw [less_cons]; simp [UInt8.lt_iff_toNat_lt]
theorem less_irrefl (a : List UInt8) : Op.bytesLess a a = false := by
 induction a with
 | nil => rfl
 | cons c t ih =>
   rw [Bool.eq_false_iff]
   intro h
   rcases (less_cons_iff c c t t).1 h with h | ⟨_, h⟩
   · omega
   · rw [ih] at h; cases h
theorem less_total (a b : List UInt8) : Op.bytesLess a b = true ∨ Op.bytesLess b a = true ∨ a = b := by
 induction a generalizing b with
 | nil => cases b with
   | nil => exact .inr (.inr rfl)
   | cons d u => exact .inl rfl
 | cons c t ih => cases b with
   | nil => exact .inr (.inl rfl)
   | cons d u =>
     rw [less_cons_iff, less_cons_iff]
     rcases Nat.lt_trichotomy c.toNat d.toNat with h | h | h
     · exact .inl (.inl h)
     · have e : c = d := UInt8.toNat_inj.1 h
       subst e
       rcases ih u with h | h | h
       · exact .inl (.inr ⟨rfl, h⟩)
       · exact .inr (.inl (.inr ⟨rfl, h⟩))
       · exact .inr (.inr (by rw [h]))
     · exact .inr (.inl (.inl h))
theorem less_trans {a b c : List UInt8} (h1 : Op.bytesLess a b = true) (h2 : Op.bytesLess b c = true) : Op.bytesLess a c = true := by
 induction a generalizing b c with
 | nil => cases c with
   | nil => rw [less_nil] at h2; cases h2
   | cons d u => rfl
 | cons x t ih => cases b with
   | nil => rw [less_nil] at h1; cases h1
   | cons y u => cases c with
     | nil => rw [less_nil] at h2; cases h2
     | cons z v =>
       rw [less_cons_iff] at h1 h2 ⊢
       rcases h1 with h1 | ⟨e1, h1⟩
       · rcases h2 with h2 | ⟨e2, h2⟩
         · exact .inl (by omega)
         · subst e2; exact .inl h1
       · subst e1
         rcases h2 with h2 | ⟨e2, h2⟩
         · exact .inl h2
         · subst e2; exact .inr ⟨rfl, ih h1 h2⟩
theorem less_asymm {a b : List UInt8} (h : Op.bytesLess a b = true) : Op.bytesLess b a = false := by
 rw [Bool.eq_false_iff]; intro h2
 have := less_trans h h2
 rw [less_irrefl] at this; cases this
structure Cmp {α : Type} (f : α → α → Int) : Prop where
 rng : ∀ a b, f a b = -1 ∨ f a b = 0 ∨ f a b = 1
 neg : ∀ a b, f b a = -f a b
 zero : ∀ a b, f a b = 0 ↔ a = b
 trans : ∀ a b c, f a b ≤ 0 → f b c ≤ 0 → f a c ≤ 0
theorem cI_cmp : Cmp cI := ⟨fun a b => by unfold cI; split <;> (try split) <;> omega, fun a b => by unfold cI; split <;> (try split) <;> (try split) <;> omega, fun a b => by unfold cI; split <;> (try split) <;> omega,
 fun a b c h1 h2 => by unfold cI at *; split at h1 <;> split at h2 <;> (try split at h1) <;> (try split at h2) <;> split <;> (try split) <;> omega⟩
theorem cS_lt {a b : List UInt8} (h : Op.bytesLess a b = true) : cS a b = -1 := if_pos h
theorem cS_gt {a b : List UInt8} (h : Op.bytesLess b a = true) : cS a b = 1 := by unfold cS; rw [less_asymm h, if_neg (by decide), if_pos h]
theorem cS_self (a : List UInt8) : cS a a = 0 := by unfold cS; rw [less_irrefl]; rfl
theorem cS_le {a b : List UInt8} : cS a b ≤ 0 ↔ (Op.bytesLess a b = true ∨ a = b) := by
 rcases less_total a b with h | h | h
 · rw [cS_lt h]; simp [h]
 · rw [cS_gt h]
   have h2 := less_asymm h
   constructor
   · intro h; omega
   · rintro (h3 | h3)
     · rw [h2] at h3; cases h3
     · subst h3; rw [less_irrefl] at h; cases h
 · subst h; rw [cS_self]; simp
theorem cS_cmp : Cmp cS := by
 refine ⟨fun a b => ?_, fun a b => ?_, fun a b => ?_, fun a b c h1 h2 => ?_⟩
 · rcases less_total a b with h | h | h
   · exact .inl (cS_lt h)
   · exact .inr (.inr (cS_gt h))
   · subst h; exact .inr (.inl (cS_self a))
 · rcases less_total a b with h | h | h
   · rw [cS_lt h, cS_gt h]; rfl
   · rw [cS_lt h, cS_gt h]
   · subst h; rw [cS_self]; rfl
 · rcases less_total a b with h | h | h
   · rw [cS_lt h]
     exact ⟨fun h => by omega, fun e => by subst e; rw [less_irrefl] at h; cases h⟩
   · rw [cS_gt h]
     exact ⟨fun h => by omega, fun e => by subst e; rw [less_irrefl] at h; cases h⟩
   · subst h; rw [cS_self]; simp
 · rw [cS_le] at *
   rcases h1 with h1 | h1
   · rcases h2 with h2 | h2
     · exact .inl (less_trans h1 h2)
     · subst h2; exact .inl h1
   · subst h1; exact h2
theorem cP_cmp : Cmp (fun (a b : Int × Int) => cP a.1 a.2 b.1 b.2) := by
 refine ⟨fun a b => ?_, fun a b => ?_, fun a b => ?_, fun a b c h1 h2 => ?_⟩
 · obtain ⟨x, y⟩ := a; obtain ⟨u, v⟩ := b
   show cP x y u v = -1 ∨ cP x y u v = 0 ∨ cP x y u v = 1
   unfold cP; split <;> (try split) <;> omega
 · obtain ⟨x, y⟩ := a; obtain ⟨u, v⟩ := b
   show cP u v x y = - cP x y u v
   unfold cP; split <;> (try split) <;> (try split) <;> omega
 · obtain ⟨x, y⟩ := a; obtain ⟨u, v⟩ := b
   show cP x y u v = 0 ↔ _
   rw [Prod.mk.injEq]
   unfold cP; split <;> (try split) <;> omega
 · obtain ⟨x, y⟩ := a; obtain ⟨u, v⟩ := b; obtain ⟨p, q⟩ := c
   change cP x y u v ≤ 0 at h1
   change cP u v p q ≤ 0 at h2
   show cP x y p q ≤ 0
   unfold cP at *; split at h1 <;> split at h2 <;> (try split at h1) <;> (try split at h2) <;> split <;> (try split) <;> omega
theorem or4_zero {a b c d : Int} : or4 a b c d = 0 ↔ a = 0 ∧ b = 0 ∧ c = 0 ∧ d = 0 := by
 unfold or4; split
 · constructor <;> (intro h; omega)
 · split
   · constructor <;> (intro h; omega)
   · split
     · constructor <;> (intro h; omega)
     · constructor
       · intro h; omega
       · intro h; omega
theorem ord_rng (a b : Va) : ord a b = -1 ∨ ord a b = 0 ∨ ord a b = 1 := by
 have h1 := cI_cmp.rng a.k b.k; have h2 := cI_cmp.rng a.n b.n; have h3 := cS_cmp.rng a.s b.s; have h4 := cP_cmp.rng (a.x, a.y) (b.x, b.y)
 unfold ord or4
 split
 · exact h1
 · split
   · exact h2
   · split
     · exact h3
     · exact h4
theorem Va.ext' {a b : Va} (h1 : a.k = b.k) (h2 : a.n = b.n) (h3 : a.s = b.s) (h4 : (a.x, a.y) = (b.x, b.y)) : a = b := by
 cases a; cases b; simp_all
theorem ord_zero (a b : Va) : ord a b = 0 ↔ a = b := by
 unfold ord
 rw [or4_zero, cI_cmp.zero, cI_cmp.zero, cS_cmp.zero, cP_cmp.zero (a.x, a.y) (b.x, b.y)]
 exact ⟨fun ⟨h1, h2, h3, h4⟩ => Va.ext' h1 h2 h3 h4, fun h => by subst h; exact ⟨rfl, rfl, rfl, rfl⟩⟩
def vb (v : Va) : List UInt8 :=
 if v.k = 1 then nb 1 ++ (nb v.s.length ++ v.s)
 else if v.k = 2 then (nb 2 ++ nb (wn v.x)) ++ nb (wn v.y)
 else (nb 0 ++ nb (wn (v.n / 134217728))) ++ nb (v.n % 134217728).toNat
def pl (c : UInt8) : Bool := decide (32 ≤ c.toNat ∧ c.toNat ≤ 126 ∧ c.toNat ≠ 34 ∧ c.toNat ≠ 92)
def hx (n : Nat) : UInt8 := UInt8.ofNat (if n < 10 then 48 + n else 87 + n)
def e1 (c : UInt8) : List UInt8 := if pl c = true then [c] else [92, hx (c.toNat / 16), hx (c.toNat % 16)]
def esc (l : List UInt8) : List UInt8 := l.flatMap e1
def wr (v : Va) : List UInt8 :=
 if v.k = 1 then 34 :: (esc v.s ++ [34])
 else if v.k = 2 then (Lib.itoa v.x ++ [58]) ++ Lib.itoa v.y
 else Lib.itoa v.n
end Go.Proofs.Ytamhfjlffacakaa.Va
namespace Go.Proofs.Ytamhfjlffacakaa
open Go
instance : Coe Va.Va (List Value) := ⟨fun v => [.int .i64 v.k, .int .i64 v.n, .string (Ov.tx v.s), .int .i64 v.x, .int .i64 v.y]⟩
instance : Coe Va.Va (Array Value) := ⟨fun v => #[.int .i64 v.k, .int .i64 v.n, .string (Ov.tx v.s), .int .i64 v.x, .int .i64 v.y]⟩
structure Zr where
instance : Coe Zr (List Value) := ⟨fun _ => [.int .i64 0, .int .i64 0, .string ⟨#[]⟩, .int .i64 0, .int .i64 0]⟩
instance : Coe Zr (Array Value) := ⟨fun _ => #[.int .i64 0, .int .i64 0, .string ⟨#[]⟩, .int .i64 0, .int .i64 0]⟩
def zz : Zr := ⟨⟩

end Go.Proofs.Ytamhfjlffacakaa
namespace Go.Proofs.Ytamhfjlffacakaa.Jo
open Ov Ga Va
def wSum : List UInt8 := [115, 117, 109]
def wMax : List UInt8 := [109, 97, 120]
def wMin : List UInt8 := [109, 105, 110]
def wGcd : List UInt8 := [103, 99, 100]
def isF (w : List UInt8) : Bool := decide (w = wSum ∨ w = wMax ∨ w = wMin ∨ w = wGcd)
def rg (n b : Int) : Int := (n + b) % (2 * b) - b
def vz0 : Va := ⟨0, 0, [], 0, 0⟩
def pp (v : Va) : Pt := ⟨v.x, v.y⟩
def vp (p : Pt) : Va := ⟨2, 0, [], p.x, p.y⟩
def vn (n : Int) : Va := ⟨0, n, [], 0, 0⟩
def okk (w : List UInt8) (k : Int) : Bool := decide (w = wMax ∨ w = wMin ∨ k = 0 ∨ k = 2)
def opf (w : List UInt8) (a b : Va) : Va :=
 if w = wMax ∨ w = wMin then (if decide (ord a b < 0) = decide (w = wMax) then b else a)
 else if a.k = 0 then vn (if w = wSum then rg (a.n + b.n) 9007199254740992 else (Int.gcd a.n b.n : Int))
 else vp (if w = wSum then ⟨rg (a.x + b.x) 16777216, rg (a.y + b.y) 16777216⟩ else Pt.cg (pp a) (pp b))
def fo (w : List UInt8) (a b : Va) : Va × Int :=
 if isF w = true ∧ rt a = true ∧ rt b = true then
  if a.k = b.k ∧ okk w a.k = true then (opf w a b, 0) else (vz0, 13)
 else (vz0, 1)
theorem rt_k0 {v : Va} (h : rt v = true) (hk : v.k = 0) : (-9007199254740992 ≤ v.n ∧ v.n ≤ 9007199254740992) ∧ v = vn v.n := by
 obtain ⟨k, n, s, x, y⟩ := v
 rcases rt_yes h with ⟨h0, h1, h2, h3, h4, h5⟩ | ⟨h0, _⟩ | ⟨h0, _⟩
 · simp only at h0 h1 h2 h3 h4 h5 ⊢; subst h0 h3 h4 h5; exact ⟨⟨h1, h2⟩, rfl⟩
 · simp only at h0 hk; omega
 · simp only at h0 hk; omega
theorem rt_k2 {v : Va} (h : rt v = true) (hk : v.k = 2) : rb (pp v) = true ∧ v = vp (pp v) := by
 obtain ⟨k, n, s, x, y⟩ := v
 rcases rt_yes h with ⟨h0, _⟩ | ⟨h0, _⟩ | ⟨h0, h1, h2, h3⟩
 · simp only at h0 hk; omega
 · simp only at h0 hk; omega
 · simp only at h0 h1 h2 h3 ⊢; subst h0 h1 h2; exact ⟨h3, rfl⟩
theorem fo_yes {w : List UInt8} {a b : Va} (h : isF w = true ∧ rt a = true ∧ rt b = true) : fo w a b = if a.k = b.k ∧ okk w a.k = true then (opf w a b, 0) else (vz0, 13) := if_pos h
theorem fo_no {w : List UInt8} {a b : Va} (h : ¬ (isF w = true ∧ rt a = true ∧ rt b = true)) : fo w a b = (vz0, 1) := if_neg h
end Go.Proofs.Ytamhfjlffacakaa.Jo
namespace Go.Proofs.Ytamhfjlffacakaa.Ov
open Go.ChangeShapes Go.WideShapes Go.ChangeAt Go.RowKit
structure Blk (w : World) (b : Nat) (vs : List Value) : Prop where
 c : ∀ (i : Nat) (v : Value), vs[i]? = some v → w.cell? ⟨b, i, none⟩ = some v
 f : ∀ (i : Nat) (v : Value), vs[i]? = some v → w.frozen? ⟨b, i, none⟩ = false
 lt : b < w.heap.size
section
variable {w w' : World} {b : Nat} {vs : List Value}
theorem Blk.next (h : Blk w b vs) (k : Below w.heap.size w w') : Blk w' b vs :=
 ⟨fun i v e => (k.cell (p := ⟨b, i, none⟩) h.lt).trans (h.c i v e), fun i v e => (k.frozen (p := ⟨b, i, none⟩) h.lt).trans (h.f i v e), Nat.lt_of_lt_of_le h.lt k.size⟩
theorem Blk.old (h : Blk w b vs) (o : Obj) : Blk (w.alloc o) b vs := h.next ((Below.refl _ _).alloc (Nat.le_refl _) _)
theorem Blk.drew (h : Blk w b vs) : Blk w.drew b vs := ⟨h.c, h.f, h.lt⟩
theorem Blk.over (h : Blk w b vs) (q : Over w) : Blk q.val b vs := h.next q.property
theorem Blk.put (h : Blk w b vs) {c : Nat} (hc : c ≠ b) (o : Nat) (z : Value) : Blk (w.setCell ⟨c, o, none⟩ z) b vs :=
 ⟨fun i v e => by rw [World.cell?_setCell_other _ _ _ _ (fun e => hc (congrArg Addr.block e))]; exact h.c i v e,
  fun i v e => by rw [World.frozen?_setCell]; exact h.f i v e, by simpa using h.lt⟩
theorem Blk.set (h : Blk w b vs) (o : Nat) (z : Value) : Blk (w.setCell ⟨b, o, none⟩ z) b (vs.set o z) := by
 refine ⟨fun i v e => ?_, fun i v e => ?_, by simpa using h.lt⟩
 · by_cases ho : o = i
   · subst ho
     have hlt : o < vs.length := by
      have := (List.getElem?_eq_some_iff.1 e).1
      simpa using this
     rw [List.getElem?_set_self hlt] at e
     obtain rfl := Option.some.inj e
     exact World.cell?_setCell_same _ _ _ (h.c o vs[o] (List.getElem?_eq_getElem hlt))
   · rw [List.getElem?_set_ne ho] at e
     rw [World.cell?_setCell_other _ _ _ _ (fun e => ho (by injection e))]
     exact h.c i v e
 · rw [World.frozen?_setCell]
   by_cases ho : o = i
   · subst ho
     have hlt : o < vs.length := by
      have := (List.getElem?_eq_some_iff.1 e).1
      simpa using this
     exact h.f o vs[o] (List.getElem?_eq_getElem hlt)
   · rw [List.getElem?_set_ne ho] at e
     exact h.f i v e
theorem Blk.made (w : World) (t : TypeId) (vs : List Value) {n : Nat} (hn : w.heap.size = n) : Blk (w.alloc (.cells vs.toArray t)) n vs := by
 subst hn
 exact ⟨fun i v e => by simpa [World.cell?_alloc_new] using e, fun i v _ => by simp [World.frozen?_alloc_new], by simp⟩
end
theorem box1 (w : World) (a : Obj) : Below w.heap.size w (w.alloc a) := (Below.refl _ _).alloc (Nat.le_refl _) _
theorem box2 (w : World) (a b : Obj) : Below w.heap.size w ((w.alloc a).alloc b) := (box1 w a).alloc (by simp) _
theorem box3 (w : World) (a b c : Obj) : Below w.heap.size w (((w.alloc a).alloc b).alloc c) := (box2 w a b).alloc (by simp; omega) _
theorem box4 (w : World) (a b c d : Obj) : Below w.heap.size w ((((w.alloc a).alloc b).alloc c).alloc d) := (box3 w a b c).alloc (by simp; omega) _
end Go.Proofs.Ytamhfjlffacakaa.Ov
namespace Go.Proofs.Ytamhfjlffacakaa
open Go
theorem ck5 {w : World} {b : Nat} {x0 x1 x2 x3 x4 : Value} {t : List Value} (h : Ov.Blk w b (x0 :: x1 :: x2 :: x3 :: x4 :: t)) : w.cell? ⟨b, 0, none⟩ = some x0 ∧ w.cell? ⟨b, 1, none⟩ = some x1 ∧ w.cell? ⟨b, 2, none⟩ = some x2 ∧ w.cell? ⟨b, 3, none⟩ = some x3 ∧ w.cell? ⟨b, 4, none⟩ = some x4 :=
 ⟨h.c 0 _ rfl, h.c 1 _ rfl, h.c 2 _ rfl, h.c 3 _ rfl, h.c 4 _ rfl⟩
theorem ck6 {w : World} {b : Nat} {x0 x1 x2 x3 x4 x5 : Value} {t : List Value} (h : Ov.Blk w b (x0 :: x1 :: x2 :: x3 :: x4 :: x5 :: t)) : w.cell? ⟨b, 0, none⟩ = some x0 ∧ w.cell? ⟨b, 1, none⟩ = some x1 ∧ w.cell? ⟨b, 2, none⟩ = some x2 ∧ w.cell? ⟨b, 3, none⟩ = some x3 ∧ w.cell? ⟨b, 4, none⟩ = some x4 ∧ w.cell? ⟨b, 5, none⟩ = some x5 :=
 ⟨h.c 0 _ rfl, h.c 1 _ rfl, h.c 2 _ rfl, h.c 3 _ rfl, h.c 4 _ rfl, h.c 5 _ rfl⟩
theorem ck7 {w : World} {b : Nat} {x0 x1 x2 x3 x4 x5 x6 : Value} {t : List Value} (h : Ov.Blk w b (x0 :: x1 :: x2 :: x3 :: x4 :: x5 :: x6 :: t)) : w.cell? ⟨b, 0, none⟩ = some x0 ∧ w.cell? ⟨b, 1, none⟩ = some x1 ∧ w.cell? ⟨b, 2, none⟩ = some x2 ∧ w.cell? ⟨b, 3, none⟩ = some x3 ∧ w.cell? ⟨b, 4, none⟩ = some x4 ∧ w.cell? ⟨b, 5, none⟩ = some x5 ∧ w.cell? ⟨b, 6, none⟩ = some x6 :=
 ⟨h.c 0 _ rfl, h.c 1 _ rfl, h.c 2 _ rfl, h.c 3 _ rfl, h.c 4 _ rfl, h.c 5 _ rfl, h.c 6 _ rfl⟩
theorem ck11 {w : World} {b : Nat} {x0 x1 x2 x3 x4 x5 x6 x7 x8 x9 x10 : Value} {t : List Value} (h : Ov.Blk w b (x0 :: x1 :: x2 :: x3 :: x4 :: x5 :: x6 :: x7 :: x8 :: x9 :: x10 :: t)) : w.cell? ⟨b, 0, none⟩ = some x0 ∧ w.cell? ⟨b, 1, none⟩ = some x1 ∧ w.cell? ⟨b, 2, none⟩ = some x2 ∧ w.cell? ⟨b, 3, none⟩ = some x3 ∧ w.cell? ⟨b, 4, none⟩ = some x4 ∧ w.cell? ⟨b, 5, none⟩ = some x5 ∧ w.cell? ⟨b, 6, none⟩ = some x6 ∧ w.cell? ⟨b, 7, none⟩ = some x7 ∧ w.cell? ⟨b, 8, none⟩ = some x8 ∧ w.cell? ⟨b, 9, none⟩ = some x9 ∧ w.cell? ⟨b, 10, none⟩ = some x10 :=
 ⟨h.c 0 _ rfl, h.c 1 _ rfl, h.c 2 _ rfl, h.c 3 _ rfl, h.c 4 _ rfl, h.c 5 _ rfl, h.c 6 _ rfl, h.c 7 _ rfl, h.c 8 _ rfl, h.c 9 _ rfl, h.c 10 _ rfl⟩
end Go.Proofs.Ytamhfjlffacakaa
namespace Go.Proofs.Ytamhfjlffacakaa.Va
open Ov Tp Ga
def dg (c : UInt8) : Bool := decide (48 ≤ c.toNat ∧ c.toNat ≤ 57)
def tw (l : List UInt8) : Nat := (l.takeWhile dg).length
def sat (l : List UInt8) : Nat := l.foldl (fun a c => min (10 * a + (c.toNat - 48)) 9007199254740993) 0
def cd (l : List UInt8) : Nat × Nat × Nat :=
 if l = [] then (0, 0, 2) else if tw l = 0 ∨ (1 < tw l ∧ l.head? = some 48) then (0, 0, 6) else (sat (l.take (tw l)), tw l, 0)
end Go.Proofs.Ytamhfjlffacakaa.Va
namespace Go.Proofs.Ytamhfjlffacakaa.Ga
open Go.ChangeShapes Go.WideShapes Go.ChangeAt Go.RowKit Ov
theorem bcell {W w1 : World} (hb : Below W.heap.size W w1) : (∀ b o, b < W.heap.size → w1.cell? ⟨b, o, none⟩ = W.cell? ⟨b, o, none⟩) ∧ (∀ b o, b < W.heap.size → w1.frozen? ⟨b, o, none⟩ = W.frozen? ⟨b, o, none⟩) :=
 ⟨fun b o h => hb.cell (p := ⟨b, o, none⟩) h, fun b o h => hb.frozen (p := ⟨b, o, none⟩) h⟩
theorem below1 (w : World) (a : Obj) : Below w.heap.size w (w.alloc a) := (Below.refl _ _).alloc (Nat.le_refl _) _
theorem below2 (w : World) (a b : Obj) : Below w.heap.size w ((w.alloc a).alloc b) := (below1 w a).alloc (by simp) _
theorem below3 (w : World) (a b c : Obj) : Below w.heap.size w (((w.alloc a).alloc b).alloc c) := (below2 w a b).alloc (by simp; omega) _
theorem fits_any (n : Int) (w : World) : Calls Try.prog 85 #[.int .i64 n] w fun e w' => e = .returned (.bool (fb n)) ∧ w = w' := by
 by_cases h1 : -16777216 ≤ n
 · by_cases h2 : n ≤ 16777216
   · have e : fb n = true := fb_of h1 h2
     rw [e]; clear e
     go_enter Try.func85, Try.ntmps85
     go_wp2_with (fail)
     go_ret
     exact ⟨rfl, rfl⟩
   · have e : fb n = false := decide_eq_false (by omega)
     rw [e]; clear e
     go_enter Try.func85, Try.ntmps85
     go_wp2_with (fail)
     go_ret
     exact ⟨rfl, rfl⟩
 · have e : fb n = false := decide_eq_false (by omega)
   rw [e]; clear e
   go_enter Try.func85, Try.ntmps85
   go_wp2_with (fail)
   go_ret
   exact ⟨rfl, rfl⟩
theorem right_any (x y : Int) (w : World) : Calls Try.prog 73 #[.agg #[.int .i64 x, .int .i64 y]] w fun e w' => e = .returned (.bool (rb ⟨x, y⟩)) ∧ Below w.heap.size w w' := by
 have e : rb ⟨x, y⟩ = (fb x && fb y) := rfl
 rw [e]; clear e
 have HX := Lib.hid (fits_any x)
 have HY := Lib.hid (fits_any y)
 generalize fb x = p at *
 generalize fb y = q at *
 cases p
 · go_enter Try.func73, Try.ntmps73
   go_wp2_with (fail)
   refine (HX.out _).mono ?_
   rintro e w' ⟨rfl, rfl⟩
   go_wp2_with (fail)
   go_ret
   exact ⟨rfl, (Below.refl _ _).alloc (Nat.le_refl _) _⟩
 · go_enter Try.func73, Try.ntmps73
   go_wp2_with (fail)
   refine (HX.out _).mono ?_
   rintro e w' ⟨rfl, rfl⟩
   go_wp2_with (fail)
   refine (HY.out _).mono ?_
   rintro e w' ⟨rfl, rfl⟩
   go_wp2_with (fail)
   go_ret
   exact ⟨rfl, (Below.refl _ _).alloc (Nat.le_refl _) _⟩
theorem both_any (x y u v : Int) (w : World) : Calls Try.prog 90 #[.agg #[.int .i64 x, .int .i64 y], .agg #[.int .i64 u, .int .i64 v]] w fun e w' => e = .returned (.bool (rb ⟨x, y⟩ && rb ⟨u, v⟩)) ∧ Below w.heap.size w w' := by
 have HX := Lib.hid (right_any x y)
 have HY := Lib.hid (right_any u v)
 generalize rb ⟨x, y⟩ = p at *
 generalize rb ⟨u, v⟩ = q at *
 cases p
 · go_enter Try.func90, Try.ntmps90
   go_wp2_with (fail)
   refine (HX.out _).mono ?_
   rintro e w1 ⟨rfl, hb⟩
   have HB := Lib.hid hb; clear hb
   go_wp2_with (fail)
   go_ret
   exact ⟨rfl, Below.next (((Below.refl _ _).alloc (Nat.le_refl _) _).alloc (by simp) _) HB.out⟩
 · go_enter Try.func90, Try.ntmps90
   go_wp2_with (fail)
   refine (HX.out _).mono ?_
   rintro e w1 ⟨rfl, hb⟩
   have HB := Lib.hid hb
   obtain ⟨hc, hf⟩ := bcell hb
   clear hb
   go_wp2_with (fail)
   refine (HY.out _).mono ?_
   rintro e w2 ⟨rfl, hb⟩
   have HB2 := Lib.hid hb; clear hb
   clear hc hf
   go_wp2_with (fail)
   go_ret
   exact ⟨rfl, Below.next (((Below.refl _ _).alloc (Nat.le_refl _) _).alloc (by simp) _) (Below.next HB.out HB2.out)⟩
theorem less_any (x y u v : Int) (w : World) : Calls Try.prog 94 #[.agg #[.int .i64 x, .int .i64 y], .agg #[.int .i64 u, .int .i64 v]] w (Gives (.bool (decide (x < u ∨ x = u ∧ y < v))) w) := by
 by_cases h1 : x = u
 · by_cases h2 : y < v
   · have hd : decide (x < u ∨ x = u ∧ y < v) = true := decide_eq_true (.inr ⟨h1, h2⟩)
     rw [hd]; clear hd
     subst h1
     go_enter Try.func94, Try.ntmps94
     go_wp2_with (fail)
     go_ret
     exact ⟨rfl, below2 w _ _⟩
   · have hd : decide (x < u ∨ x = u ∧ y < v) = false := decide_eq_false (by omega)
     rw [hd]; clear hd
     subst h1
     go_enter Try.func94, Try.ntmps94
     go_wp2_with (fail)
     go_ret
     exact ⟨rfl, below2 w _ _⟩
 · have hne : (x == u) = false := beq_eq_false_iff_ne.2 h1
   by_cases h2 : x < u
   · have hd : decide (x < u ∨ x = u ∧ y < v) = true := decide_eq_true (.inl h2)
     rw [hd]; clear hd h1
     go_enter Try.func94, Try.ntmps94
     go_wp2_with (fail)
     go_ret
     exact ⟨rfl, below2 w _ _⟩
   · have hd : decide (x < u ∨ x = u ∧ y < v) = false := decide_eq_false (by omega)
     rw [hd]; clear hd h1
     go_enter Try.func94, Try.ntmps94
     go_wp2_with (fail)
     go_ret
     exact ⟨rfl, below2 w _ _⟩
end Go.Proofs.Ytamhfjlffacakaa.Ga
namespace Go.Proofs.Ytamhfjlffacakaa.Va
open Go.ChangeShapes Go.WideShapes Go.ChangeAt Go.RowKit Ov
theorem number_any (n : Int) (w : World) : Calls Try.prog 70 #[.int .i64 n] w (Gives (.agg #[.int .i64 0, .int .i64 n, .string ⟨#[]⟩, .int .i64 0, .int .i64 0]) w) := by
 go_enter Try.func70, Try.ntmps70
 go_wp2_with (fail)
 refine bodyPost_ret (v := .agg #[.int .i64 0, .int .i64 n, .string ⟨#[]⟩, .int .i64 0, .int .i64 0]) (by simp [results, Try.results70, go_sem]) rfl ⟨rfl, ?_⟩
 exact box1 w _
theorem text_any (s : ByteArray) (w : World) : Calls Try.prog 71 #[.string s] w (Gives (.agg #[.int .i64 1, .int .i64 0, .string s, .int .i64 0, .int .i64 0]) w) := by
 go_enter Try.func71, Try.ntmps71
 go_wp2_with (fail)
 refine bodyPost_ret (v := .agg #[.int .i64 1, .int .i64 0, .string s, .int .i64 0, .int .i64 0]) (by simp [results, Try.results71, go_sem]) rfl ⟨rfl, ?_⟩
 exact box1 w _
theorem point_any (x y : Int) (w : World) : Calls Try.prog 72 #[.agg #[.int .i64 x, .int .i64 y]] w (Gives (.agg #[.int .i64 2, .int .i64 0, .string ⟨#[]⟩, .int .i64 x, .int .i64 y]) w) := by
 go_enter Try.func72, Try.ntmps72
 go_wp2_with (fail)
 refine bodyPost_ret (v := .agg #[.int .i64 2, .int .i64 0, .string ⟨#[]⟩, .int .i64 x, .int .i64 y]) (by simp [results, Try.results72, go_sem]) rfl ⟨rfl, ?_⟩
 exact box2 w _ _
theorem cmpI_any (a b : Int) (w : World) : Calls Try.prog 60 #[.int .i64 a, .int .i64 b] w fun e w' => e = .returned (.int .i64 (cI a b)) ∧ w = w' := by
 by_cases h1 : a < b
 · have he : cI a b = -1 := if_pos h1
   rw [he]; clear he
   go_enter Try.func60, Try.ntmps60
   go_wp2_with (go_in)
   go_ret
   exact ⟨rfl, rfl⟩
 · by_cases h2 : b < a
   · have he : cI a b = 1 := by unfold cI; rw [if_neg h1, if_pos h2]
     rw [he]; clear he
     go_enter Try.func60, Try.ntmps60
     go_wp2_with (go_in)
     go_ret
     exact ⟨rfl, rfl⟩
   · have he : cI a b = 0 := by unfold cI; rw [if_neg h1, if_neg h2]
     rw [he]; clear he
     go_enter Try.func60, Try.ntmps60
     go_wp2_with (go_in)
     go_ret
     exact ⟨rfl, rfl⟩
theorem cmpS_any (a b : ByteArray) (w : World) : Calls Try.prog 59 #[.string a, .string b] w fun e w' => e = .returned (.int .i64 (cS a.data.toList b.data.toList)) ∧ w = w' := by
 rw [← ByteArray.toList_eq, ← ByteArray.toList_eq]
 rcases less_total a.toList b.toList with h | h | h
 · rw [cS_lt h]
   go_enter Try.func59, Try.ntmps59
   go_wp2_with (go_in)
   go_ret
   exact ⟨rfl, rfl⟩
 · rw [cS_gt h]
   have h1 := less_asymm h
   have h2 : (a.toList == b.toList) = false := by
    rw [beq_eq_false_iff_ne]; intro e; rw [e, less_irrefl] at h; cases h
   go_enter Try.func59, Try.ntmps59
   go_wp2_with (go_in)
   go_ret
   exact ⟨rfl, rfl⟩
 · have h1 : Op.bytesLess a.toList b.toList = false := by rw [h]; exact less_irrefl _
   have h2 : (a.toList == b.toList) = true := by rw [beq_iff_eq]; exact h
   have he : cS a.toList b.toList = 0 := by rw [h]; exact cS_self _
   rw [he]; clear he h
   go_enter Try.func59, Try.ntmps59
   go_wp2_with (go_in)
   go_ret
   exact ⟨rfl, rfl⟩
end Go.Proofs.Ytamhfjlffacakaa.Va
namespace Go.Proofs.Ytamhfjlffacakaa.Ov
open Go.ChangeShapes Go.WideShapes Go.ChangeAt Go.RowKit Go.Shelf
def cloneRen : Ren := ⟨fun | 25 => 54 | n => n, fun | 0 => 0 | 3 => 3 | 4 => 4 | 5 => 5 | 9 => 9 | 37 => 107 | 47 => 108 | n => n, fun n => n⟩
theorem cloneLays : LaysPu.n25 Try.prog cloneRen :=
 { mixed := by kernel_rfl
   f25 := by kernel_rfl
   t0 := by kernel_rfl
   a0 := fun _ => by kernel_rfl
   z0 := fun _ => by kernel_rfl
   v0 := fun _ => by kernel_rfl
   i0 := by kernel_rfl
   t3 := by kernel_rfl
   a3 := fun _ => by kernel_rfl
   z3 := fun _ => by kernel_rfl
   v3 := fun _ => by kernel_rfl
   i3 := by kernel_rfl
   t4 := by kernel_rfl
   a4 := fun _ => by kernel_rfl
   z4 := fun _ => by kernel_rfl
   v4 := fun _ => by kernel_rfl
   i4 := by kernel_rfl
   t5 := by kernel_rfl
   a5 := fun _ => by kernel_rfl
   z5 := fun _ => by kernel_rfl
   v5 := fun _ => by kernel_rfl
   i5 := by kernel_rfl
   t9 := by kernel_rfl
   a9 := fun _ => by kernel_rfl
   z9 := fun _ => by kernel_rfl
   v9 := fun _ => by kernel_rfl
   i9 := by kernel_rfl
   t37 := by kernel_rfl
   a37 := fun _ => by kernel_rfl
   z37 := fun _ => by kernel_rfl
   v37 := fun _ => by kernel_rfl
   i37 := by kernel_rfl
   t47 := by kernel_rfl
   a47 := fun _ => by kernel_rfl
   z47 := fun _ => by kernel_rfl
   v47 := fun _ => by kernel_rfl
   i47 := by kernel_rfl }
theorem sclone_any (s : ByteArray) (w : World) (hs : s.size ≤ 281474976710656) :
 Calls Try.prog 54 #[.string s] w fun e w' => e = .returned (.string s) ∧ Below w.heap.size w w' := AnyPu.stringslite_Clone cloneLays s w hs
set_option maxHeartbeats 400000 in
theorem clone_any (s : ByteArray) (w : World) (hs : s.size ≤ 281474976710656) :
 Calls Try.prog 32 #[.string s] w fun e w' => e = .returned (.string s) ∧ Below w.heap.size w w' := by
 go_enter Try.func32, Try.ntmps32
 go_wp2_with fail
 refine (sclone_any s _ hs).mono ?_
 rintro e w1 ⟨rfl, hb⟩
 have HB := Lib.hid hb; clear hb
 go_wp2_with fail
 go_ret
 exact ⟨rfl, HB.out⟩
end Go.Proofs.Ytamhfjlffacakaa.Ov
namespace Go.Proofs.Ytamhfjlffacakaa.Ov
open Go.ChangeShapes Go.WideShapes Go.ChangeAt Go.RowKit
section
variable {P : Program} {ops : Array Oper} {md : Region.Mode} {C : World → Prop}
def Heads (P : Program) (md : Region.Mode) (ops : Array Oper) (C : World → Prop) (n : Nat) (L : Array Bool → Act → Prop) : Nat → Array Bool → Act → Prop
 | 0, listed, a => L listed a
 | f + 1, listed, a => Region.ready md ops listed ≠ [] ∧ ∀ i ∈ Region.ready md ops listed, i < n ∧ qOp P ops C i (Heads P md ops C n L f (listed.setIfInBounds i true)) a
theorem Heads.any {n g : Nat} {L : Array Bool → Act → Prop} {Q' : Exit → Act → World → Prop} (hL : ∀ listed a w, C w → L listed a → wpAny P md ops Q' g listed a w) :
 ∀ (f : Nat) (listed : Array Bool) (a : Act) (w : World), C w → Heads P md ops C n L f listed a → wpAny P md ops Q' (f + g) listed a w
 | 0, listed, a, w, hw, h => by rw [Nat.zero_add]; exact hL _ _ _ hw h
 | f + 1, listed, a, w, hw, h => by
   rw [show f + 1 + g = (f + g) + 1 by omega]
   exact ⟨fun h0 => absurd h0 h.1, fun i hi => wpOp_of_qOp hw (fun a' w' hw' h' => Heads.any hL f _ a' w' hw' h') (h.2 i hi).2⟩
theorem Heads.first {n i : Nat} {oi : Oper} {v : Value} {L : Array Bool → Act → Prop} (hi : ops[i]? = some oi) (hsel : ∀ (j : Nat) (o : Oper) cs b, ops[j]? = some o → o.op ≠ .select cs b)
 (hs : Region.sinkB md ops n = true) (hc : Region.chainB md ops n = true) (hn : n < ops.size) (hin : i < n) (hdone : ∀ listed a, L listed a → ∀ j ∈ Region.ready md ops listed, n ≤ j) (f : Nat) :
 ∀ (listed : Array Bool) (a : Act), HeadInv md ops n listed →
  (∀ j oj, ops[j]? = some oj → j ≠ i → listed.getD j true = false → (∀ e ∈ oj.after, Region.binds md e = true → e.on ≠ i) → oi.apart ops oj = true) →
  i ∈ Region.ready md ops listed → YieldsIn P ops C oi v a →
  Heads P md ops C n L f (listed.setIfInBounds i true) (a.put oi.dst v) → Heads P md ops C n L (f + 1) listed a := by
 induction f with
 | zero =>
   intro listed a inv hfree hr hy H
   have hun := (mem_ready.1 hr).1
   refine ⟨List.ne_nil_of_mem hr, fun j hj => ?_⟩
   have hjn : j < n := Nat.lt_of_not_le fun h => tail_waits hs hc hn inv _ i rfl hin hun j h hj
   refine ⟨hjn, ?_⟩
   rcases Nat.decEq j i with e | rfl
   · exact absurd (hdone _ _ H j (ready_mono hj e)) (by omega)
   · exact hy.qOp hi H
 | succ f ih =>
   intro listed a inv hfree hr hy H
   have hun := (mem_ready.1 hr).1
   refine ⟨List.ne_nil_of_mem hr, fun j hj => ?_⟩
   have hjn : j < n := Nat.lt_of_not_le fun h => tail_waits hs hc hn inv _ i rfl hin hun j h hj
   refine ⟨hjn, ?_⟩
   rcases Nat.decEq j i with e | rfl
   · obtain ⟨hjun, oj, hoj, hall⟩ := mem_ready.1 hj
     have hnot : ∀ e ∈ oj.after, Region.binds md e = true → e.on ≠ i := by
      intro d hd hb he
      have h1 := hall d hd hb
      rw [he, getD_both hun] at h1
      cases h1
     refine qOp_mono (fun a' h3 => ih (listed.setIfInBounds j true) a' (inv.set hj hjn) ?_ (ready_mono hr (Ne.symm e)) h3.1 ?_)
      (qOp_put hoj (hfree j oj hoj e hjun hnot) (fun cs b => hsel i oi cs b hi) (fun cs b => hsel j oj cs b hoj) hy (H.2 j (ready_mono hj e)).2)
     · intro k ok hk hki hku hno
       refine hfree k ok hk hki ?_ hno
       rcases Nat.decEq j k with d | rfl
       · rwa [getD_set_ne true d] at hku
       · exact hjun
     · rw [Array.setIfInBounds_comm _ _ e]; exact h3.2
   · exact hy.qOp hi H
theorem Heads.lex {n g : Nat} {Lq : Act → Prop} (hsel : Region.noSelect ops = true) (hs : Region.sinkB md ops n = true) (hc : Region.chainB md ops n = true) (hn : n < ops.size) :
 ∀ (l : List Oper) (k : Nat) (listed : Array Bool) (a : Act), (∀ j, j < l.length → l[j]? = ops[k + j]?) → k + l.length = n → HeadInv md ops n listed →
 Region.lexHead md ops g l.length k listed = true → wpQuiet P ops C Lq l a →
 Heads P md ops C n (fun listed' a' => Region.seqB md ops g n listed' = true ∧ Lq a') l.length listed a
 | [], k, listed, a, _, hk, _, hB, h => by
   obtain rfl : k = n := by simpa using hk
   exact ⟨by simpa [Region.lexHead] using hB, h⟩
 | o :: l, k, listed, a, hl, hk, inv, hB, h => by
   have h0 : ops[k]? = some o := by simpa using (hl 0 (by simp)).symm
   simp only [List.length_cons, Region.lexHead, Bool.and_eq_true] at hB
   obtain ⟨⟨hr, hf⟩, hB'⟩ := hB
   have hr' : k ∈ Region.ready md ops listed := by simpa using hr
   have hk' : k + 1 + l.length = n := by rw [← hk, List.length_cons]; omega
   have hkn : k < n := by omega
   obtain ⟨v, hy, hK⟩ := yieldsIn_of_qOp h0 (show qOp P ops C k (wpQuiet P ops C Lq l) a by unfold qOp; simp only [h0]; exact h)
   exact Heads.first h0 (Region.noSelect_spec hsel) hs hc hn hkn (fun listed' a' hL => seqB_ready hL.1) l.length listed a inv (Region.free_spec h0 hf) hr' hy
    (Heads.lex hsel hs hc hn l (k + 1) _ _ (fun j hj => by have := hl (j + 1) (by simp; omega); simpa [Nat.add_assoc, Nat.add_comm 1 j] using this) hk' (inv.set hr' hkn) hB' hK)
theorem wp_quiet_tail {id : Nat} {Q : Exit → Act → World → Prop} {a : Act} {w : World} {l : List Oper} (n : Nat) (hm : P.follows .mixedOrders = true) (hB : Region.lexTailB .any l.toArray n = true) (hC : C { w with drawn := w.drawn + 1 })
 (h : wpQuiet P l.toArray C (fun a' => ∀ w', C w' → wpList P l.toArray Q (l.drop n) a' w') (l.take n) a) : (Code.region id l.toArray true).wp P Q a w := by
 simp only [Region.lexTailB, Bool.and_eq_true, decide_eq_true_eq] at hB
 obtain ⟨⟨⟨⟨hsel, hn⟩, hs⟩, hc⟩, hlex⟩ := hB
 have hn' : n < l.length := by simpa using hn
 have htl : (l.take n).length = n := by simp; omega
 have hdl : (l.drop n).length = l.toArray.size - n := by simp
 have inv0 : HeadInv .any l.toArray n (Array.replicate l.toArray.size false) :=
  ⟨by simp, fun j oj _ hl => (by rw [getD_replicate_false] at hl; cases hl), fun t _ ht => getD_in (by simpa using ht) (getD_replicate_false _ _)⟩
 have H := Heads.lex (md := .any) (g := l.toArray.size - n) hsel hs hc hn (l.take n) 0 _ a (fun j hj => by
  have hj' : j < n := by rw [htl] at hj; exact hj
  simp [hj']) (by simpa using htl) inv0 (by rw [htl]; exact hlex) h
 refine wp_region_any hm ?_
 have H2 := Heads.any (Q' := Q) (g := l.toArray.size - n) (fun listed a' w' hw hL => by
  have h1 := wpAny_of_seq (md := .any) (Q' := Q) (l.drop n) n listed a' w' (fun j => by simp [List.getElem?_drop]) (by rw [hdl]; exact hL.1) (hL.2 w' hw)
  rwa [hdl] at h1) _ _ _ _ hC H
 rw [htl, show n + (l.toArray.size - n) = l.toArray.size by omega] at H2
 exact H2
end
theorem wp_over_tail {P : Program} {id : Nat} {Q : Exit → Act → World → Prop} {a : Act} {w : World} {l : List Oper} (n : Nat) (hm : P.follows .mixedOrders = true) (hB : Region.lexTailB .any l.toArray n = true)
 (h : wpQuiet P l.toArray (fun w' => ∃ q : Over w, w' = q.val) (fun a' => ∀ w', (∃ q : Over w, w' = q.val) → wpList P l.toArray Q (l.drop n) a' w') (l.take n) a) : (Code.region id l.toArray true).wp P Q a w :=
 wp_quiet_tail (C := fun w' => ∃ q : Over w, w' = q.val) n hm hB ⟨⟨w.drew, below_drewN (Below.refl _ _) 1⟩, rfl⟩ h
theorem wp_scope_once {P : Program} {a : Act} {w : World} {Q : Exit → Act → World → Prop} {c rest : Code} (l : Nat) (J : Act → World → Prop) (m : Act → World → Nat) (hf : findLabel c l = some (.seq .skip rest))
 (first : Hid (∀ a w, J a w → rest.wp P (Exit.jump l J Q) a w) → c.wp P (Exit.jump l J Q) a w)
 (pass : ∀ a w, J a w → rest.wp P (Exit.jump l (fun a' w' => J a' w' ∧ m a' w' < m a w) Q) a w) : (Code.scope c).wp P Q a w :=
 wp_scope_jumps l J m hf (first (Lib.hid fun a w h => Code.wp_mono (fun e a' w' q => by
  cases e with
  | goto l' => exact ⟨q.1, q.2.1⟩
  | _ => exact q) (pass a w h))) (fun a w h => wp_seq (wp_skip (pass a w h)))
end Go.Proofs.Ytamhfjlffacakaa.Ov
namespace Go.Proofs.Ytamhfjlffacakaa.Tp
open Go.ChangeShapes Go.WideShapes Go.ChangeAt Go.RowKit Ov
def JC (s : ByteArray) (w : World) (a' : Act) (w' : World) : Prop := ∃ (i n : Nat) (u7 u8 u9 u10 u11 u12 u13 u14 u15 u16 u17 u18 u19 u20 u21 u22 u23 u24 u25 u26 u27 u28 u29 u30 u31 u32 u33 u34 u35 u36 u37 u38 u39 u40 u41 u42 u43 u44 u45 u46 u47 u48 : Value),
 i < 8 ∧ i ≤ s.size ∧ n < 2 ^ (7 * i) ∧ cn 0 0 s.data.toList = cn i n (s.data.toList.drop i) ∧ w' = w ∧
 a' = { tmps := #[.string s, undef, .int .i64 0, .string ⟨#[]⟩, .int .i64 0, .int .i64 (n : Int), .int .i64 (i : Int), u7, u8, u9, u10, u11, u12, u13, u14, u15, u16, u17, u18, u19, u20, u21, u22, u23, u24, u25, u26, u27, u28, u29, u30, u31, u32, u33, u34, u35, u36, u37, u38, u39, u40, u41, u42, u43, u44, u45, u46, u47, u48], defers := [] }
def muC (a : Act) (_ : World) : Nat := 8 - (intOf (a.tmps.getD 6 undef)).toNat
def cv (r : Nat × List UInt8 × Nat) : Value := .tuple #[.int .i64 (r.1 : Int), .string (tx r.2.1), .int .i64 (r.2.2 : Int)]
def cc (most : Int) (l : List UInt8) : Nat × List UInt8 × Nat :=
 if (cn 0 0 l).2.2 = 0 then (if most < ((cn 0 0 l).1 : Int) then (0, [], 3) else cn 0 0 l) else cn 0 0 l
end Go.Proofs.Ytamhfjlffacakaa.Tp
namespace Go.Proofs.Ytamhfjlffacakaa.Va
open Ov Tp Ga
def cw (l : List UInt8) : Int × Nat × Nat :=
 if l.head? = some 45 then
  (if (cd l.tail).2.2 ≠ 0 then (0, 0, (cd l.tail).2.2) else if (cd l.tail).1 = 0 then (0, 0, 6) else (-((cd l.tail).1 : Int), (cd l.tail).2.1 + 1, 0))
 else (((cd l).1 : Int), (cd l).2.1, (cd l).2.2)
theorem rt_int_in {n x y : Int} {s : List UInt8} (h : rt ⟨0, n, s, x, y⟩ = true) : (-9007199254740992 ≤ n ∧ n ≤ 9007199254740992) ∧ s = [] ∧ x = 0 ∧ y = 0 := by
 rcases rt_yes h with ⟨_, h1, h2, h3, h4, h5⟩ | ⟨h, _⟩ | ⟨h, _⟩
 · exact ⟨⟨h1, h2⟩, h3, h4, h5⟩
 · change (0 : Int) = 1 at h; omega
 · change (0 : Int) = 2 at h; omega
theorem rt_point_in {n x y : Int} {s : List UInt8} (h : rt ⟨2, n, s, x, y⟩ = true) : ((-16777216 ≤ x ∧ x ≤ 16777216) ∧ (-16777216 ≤ y ∧ y ≤ 16777216)) ∧ s = [] ∧ n = 0 := by
 rcases rt_yes h with ⟨h, _⟩ | ⟨h, _⟩ | ⟨_, h1, h2, h3⟩
 · change (2 : Int) = 0 at h; omega
 · change (2 : Int) = 1 at h; omega
 · exact ⟨rb_xy h3, h2, h1⟩
theorem rt_text_in {n x y : Int} {s : List UInt8} (h : rt ⟨1, n, s, x, y⟩ = true) : s.length ≤ 4096 ∧ n = 0 ∧ x = 0 ∧ y = 0 := by
 rcases rt_yes h with ⟨h, _⟩ | ⟨_, h1, h2, h3, h4⟩ | ⟨h, _⟩
 · change (1 : Int) = 0 at h; omega
 · exact ⟨h2, h1, h3, h4⟩
 · change (1 : Int) = 2 at h; omega
end Go.Proofs.Ytamhfjlffacakaa.Va
namespace Go.Proofs.Ytamhfjlffacakaa.Ov
open Go.RowKit Go.Proofs
section
def Its {α : Type} (F : Fence) (n : Nat) (P : Program) (g : Nat) (lb : Array Value) (encs : α → Array Value) (M : World → Prop) (Fx : List α → α → World → Prop) (S Sp : List α → Prop) : Prop :=
 ∀ (l : Nat) (J Jx : List α → World → Prop) (W : World), (∀ s X Y, J s X → Below X.heap.size X Y → J s Y) → (∀ s X Y, Jx s X → Below X.heap.size X Y → Jx s Y) → (∀ s X, J s X → M X) →
  (∀ pre x X, J pre X → Fx pre x X → YieldAt F (n - 1) P l (encs x) X fun e Y => (e = .returned (.bool true) ∧ J (pre ++ [x]) Y) ∨ (e = .returned (.bool false) ∧ Jx (pre ++ [x]) Y)) →
  J [] W → CallsIn F n P g (#[.func (.yield l) #[] #[]] ++ lb) W fun e Y => (∃ v, e = .returned v) ∧ ((∃ xs, S xs ∧ J xs Y) ∨ (∃ pre, Sp pre ∧ Jx pre Y))
theorem below_put {B l : Nat} {X : World} (o : Obj) (h : B ≤ l) (hX : B ≤ X.heap.size) : Below B X (X.putObj l o) := (Below.refl B X).grown (grownBy_putObj' X l o) hX fun k e => by cases e; exact h
variable {F : Fence} {n : Nat} {P : Program}
end
end Go.Proofs.Ytamhfjlffacakaa.Ov
namespace Go.Proofs.Ytamhfjlffacakaa.Jo
open Go.ChangeShapes Go.WideShapes Go.ChangeAt Go.RowKit Ov Ga Va
theorem rest_emod {n b : Int} (hb : 0 < b) : (n.tmod b + b).tmod b = n % b := by
 by_cases h : 0 ≤ n
 · rw [Int.tmod_eq_emod_of_nonneg h, Int.tmod_eq_emod_of_nonneg (by have := Int.emod_nonneg n (show b ≠ 0 by omega); omega), Int.add_emod_right, Int.emod_emod]
 · have h2 := Int.lt_tmod_of_pos n hb
   rw [Int.tmod_eq_emod_of_nonneg (by omega), Int.add_emod_right]
   conv => rhs; rw [← Int.tmod_add_mul_tdiv n b, Int.add_mul_emod_self_left]
set_option maxRecDepth 100000 in
theorem rest_any (n b : Int) (hb : 0 < b ∧ b ≤ 18014398509481984) (w : World) : Calls Try.prog 89 #[.int .i64 n, .int .i64 b] w (Gives (.int .i64 (n % b)) w) := by
 have h1 := Int.lt_tmod_of_pos n hb.1
 have h2 := Int.tmod_lt_of_pos n hb.1
 have h3 : wrap64 (n.tmod b + b) = n.tmod b + b := IntWalk.wrap64_in _ (by omega)
 have h4 := rest_emod (n := n) hb.1
 have h5 : (b == 0) = false := beq_eq_false_iff_ne.2 (by omega)
 go_enter Try.func89, Try.ntmps89
 go_wp2_with (fail)
 go_ret
 exact ⟨rfl, Below.refl _ _⟩
set_option maxRecDepth 100000 in
theorem round_any (n b : Int) (hb : 0 < b ∧ b ≤ 9007199254740992) (hn : -36028797018963968 ≤ n ∧ n ≤ 36028797018963968) (w : World) : Calls Try.prog 79 #[.int .i64 n, .int .i64 b] w (Gives (.int .i64 (rg n b)) w) := by
 have HC := Lib.hid (fun w => rest_any (n + b) (2 * b) ⟨by omega, by omega⟩ w)
 have h1 : wrap64 (n + b) = n + b := IntWalk.wrap64_in _ (by omega)
 have h2 : wrap64 (2 * b) = 2 * b := IntWalk.wrap64_in _ (by omega)
 have h3 := Int.emod_nonneg (n + b) (show 2 * b ≠ 0 by omega)
 have h4 := Int.emod_lt_of_pos (n + b) (show 0 < 2 * b by omega)
 have h5 : wrap64 ((n + b) % (2 * b) - b) = rg n b := IntWalk.wrap64_in _ (by omega)
 clear h3 h4 hb hn
 go_enter Try.func79, Try.ntmps79
 go_wp2_with (fail)
 refine (HC.out _).mono ?_
 rintro e w1 ⟨rfl, hb⟩
 have HB := Lib.hid hb; clear hb
 go_wp2_with (fail)
 go_ret
 exact ⟨by rw [h5]; rfl, HB.out⟩
theorem isF_text (s : ByteArray) : isF s.data.toList = (s.toList == [115, 117, 109] || s.toList == [109, 97, 120] || s.toList == [109, 105, 110] || s.toList == [103, 99, 100]) := by
 rw [ByteArray.toList_eq, Bool.eq_iff_iff]
 unfold isF wSum wMax wMin wGcd
 rw [decide_eq_true_iff]
 simp only [Bool.or_eq_true, beq_iff_eq, or_assoc]
theorem isF_any (s : ByteArray) (w : World) : Calls Try.prog 63 #[.string s] w (Gives (.bool (isF s.data.toList)) w) := by
 go_enter Try.func63, Try.ntmps63
 go_wp2_with (fail)
 all_goals
  go_ret
  refine ⟨?_, Below.refl _ _⟩
  rw [isF_text]; simp_all
theorem gcd_tmod (a b : Int) : Int.gcd b (a.tmod b) = Int.gcd a b := by
 rw [Int.gcd_comm a b]
 have h : a = a.tmod b + b * a.tdiv b := (Int.tmod_add_mul_tdiv a b).symm
 conv => rhs; rw [h]
 rw [Int.gcd_add_mul_left_right]
def JC (a b : Int) (w : World) (a' : Act) (w' : World) : Prop := ∃ (p q : Int) (u2 u3 u5 u6 u7 u8 u9 u10 u11 u12 u13 u14 : Value),
 (-9007199254740992 ≤ p ∧ p ≤ 9007199254740992) ∧ (-9007199254740992 ≤ q ∧ q ≤ 9007199254740992) ∧ Int.gcd p q = Int.gcd a b ∧ Below w.heap.size w w' ∧
 a' = { tmps := #[.int .i64 p, .int .i64 q, u2, u3, .int .i64 0, u5, u6, u7, u8, u9, u10, u11, u12, u13, u14], defers := [] }
def muC (a' : Act) (_ : World) : Nat := match a'.tmps[1]! with
 | .int _ q => q.natAbs
 | _ => 0
set_option maxRecDepth 100000 in
theorem common_any (a b : Int) (ha : -9007199254740992 ≤ a ∧ a ≤ 9007199254740992) (hb : -9007199254740992 ≤ b ∧ b ≤ 9007199254740992) (w : World) : Calls Try.prog 80 #[.int .i64 a, .int .i64 b] w (Gives (.int .i64 (Int.gcd a b : Int)) w) := by
 have HA := Lib.hid ha; have HH := Lib.hid hb; clear ha hb
 go_enter Try.func80, Try.ntmps80
 go_wp2_with (fail)
 refine wp_scope_once 0 (JC a b w) muC rfl (fun NX => ?_) ?_
 · go_wp2_with (fail)
   go_step3
   rename_i hK
   exact hK _ _ (NX.out _ _ ⟨a, b, _, _, _, _, _, _, _, _, _, _, _, _, HA.out, HH.out, rfl, Below.refl _ _, rfl⟩)
 · rintro a' w' ⟨p, q, u2, u3, u5, u6, u7, u8, u9, u10, u11, u12, u13, u14, hp, hq, hg, hbl, rfl⟩
   have HP := Lib.hid hp; have HQ := Lib.hid hq; have HG := Lib.hid hg; have HB := Lib.hid hbl; clear hp hq hg hbl
   by_cases h0 : q = 0
   · subst h0
     have HE : Hid (max p (wrap64 (-p)) = (Int.gcd a b : Int)) := by
      show _ = _
      have := HP.out
      rw [IntWalk.wrap64_in _ (by omega), ← HG.out, Int.gcd_zero_right]; omega
     go_wp2_with (fail)
     go_ret
     exact ⟨by rw [HE.out]; rfl, HB.out⟩
   · have h1 : (q == 0) = false := beq_eq_false_iff_ne.2 h0
     go_wp2_with (fail)
     go_region
     go_wp2_with (fail)
     go_step3
     have h2 : (p.tmod q).natAbs < q.natAbs := by rw [Int.natAbs_tmod]; exact Nat.mod_lt _ (by omega)
     have hq := HQ.out
     exact ⟨rfl, ⟨q, p.tmod q, _, _, _, _, _, _, _, _, _, _, _, _, HQ.out, by omega, by rw [gcd_tmod]; exact HG.out, HB.out.drew, rfl⟩, h2⟩
end Go.Proofs.Ytamhfjlffacakaa.Jo
namespace Go.Proofs.Ytamhfjlffacakaa.Ov
open Ieee
theorem log2_shift {v : Nat} (hv : v ≠ 0) (k : Nat) : (v * 2 ^ k).log2 = v.log2 + k := by
 have h2 : 0 < 2 ^ k := Nat.two_pow_pos k
 rw [Nat.log2_eq_iff (Nat.mul_ne_zero hv (Nat.ne_of_gt h2))]
 refine ⟨?_, ?_⟩
 · rw [Nat.pow_add]; exact Nat.mul_le_mul_right _ (Nat.log2_self_le hv)
 · rw [show v.log2 + k + 1 = v.log2 + 1 + k by omega, Nat.pow_add]; exact Nat.mul_lt_mul_of_pos_right Nat.lt_log2_self h2
theorem cut_whole (way : Toward) (s : Bool) (v k : Nat) : way.cut s (v * 2 ^ k) k = v := by
 have h2 : 0 < 2 ^ k := Nat.two_pow_pos k
 have hg : (v * 2 ^ k) / (1 <<< min k ((v * 2 ^ k).log2 + 2)) = v ∧ (v * 2 ^ k) % (1 <<< min k ((v * 2 ^ k).log2 + 2)) = 0 ∧ 1 <<< min k ((v * 2 ^ k).log2 + 2) ≠ 0 := by
  by_cases hv : v = 0
  · subst hv; simp
  · rw [log2_shift hv, Nat.min_eq_left (by omega), Nat.one_shiftLeft]
    exact ⟨Nat.mul_div_cancel _ h2, Nat.mul_mod_left _ _, Nat.ne_of_gt h2⟩
 obtain ⟨h1, h3, h4⟩ := hg
 unfold Toward.cut
 simp only [h1, h3]
 generalize 1 <<< min k ((v * 2 ^ k).log2 + 2) = g at *
 cases way <;> simp [h4]
def DIs (d : Datum) (n : Int) : Prop := ∃ (s : Bool) (v k : Nat), d = .number s (v * 2 ^ k) (-(k : Int)) ∧ n = if s then -(v : Int) else v
theorem DIs.num (s : Bool) (v k : Nat) : DIs (.number s (v * 2 ^ k) (-(k : Int))) (if s then -(v : Int) else v) := ⟨s, v, k, rfl, rfl⟩
theorem dsw : Ieee.double.signWeight = 9223372036854775808 := by decide +kernel
theorem dbi : Ieee.double.binade = 4503599627370496 := by decide +kernel
theorem din : Ieee.double.infRung = 9218868437227405312 := by decide +kernel
theorem dlp : Ieee.double.leastPlace = -1074 := by decide +kernel
theorem dfb : Ieee.double.fractionBits = 52 := rfl
theorem rung_mod {e m B : Nat} (h : m < B) : (e * B + (B + m)) % B = m ∧ (e * B + (B + m)) / B - 1 = e := by
 have e1 : e * B + (B + m) = m + (e + 1) * B := by rw [Nat.add_mul, Nat.one_mul]; omega
 rw [e1, Nat.add_mul_mod_self_right, Nat.mod_eq_of_lt h, Nat.add_mul_div_right _ _ (by omega), Nat.div_eq_of_lt h]
 exact ⟨rfl, by omega⟩
theorem read_word (s : Bool) (e m : Nat) (he : e < 2046) (hm : m < 4503599627370496) :
 Ieee.double.read (Ieee.double.word s (e * 4503599627370496 + (4503599627370496 + m))) = .number s (4503599627370496 + m) (-1074 + (e : Int)) := by
 have hw : Ieee.double.word s (e * 4503599627370496 + (4503599627370496 + m)) = (if s then 1 else 0) * 9223372036854775808 + (e * 4503599627370496 + (4503599627370496 + m)) := by
  unfold Format.word; rw [dsw]; cases s <;> simp
 unfold Format.read
 simp only [hw, dsw, dbi, din, dlp]
 obtain ⟨b, hb⟩ : ∃ b : Nat, b = if s then 1 else 0 := ⟨_, rfl⟩
 rw [← hb]
 have hb1 : b < 2 ∧ (b = 1 ↔ s = true) := by subst hb; cases s <;> simp
 clear hw hb
 have h1 : (b * 9223372036854775808 + (e * 4503599627370496 + (4503599627370496 + m))) % 9223372036854775808 = e * 4503599627370496 + (4503599627370496 + m) := by omega
 have h2 : ((b * 9223372036854775808 + (e * 4503599627370496 + (4503599627370496 + m))) / 9223372036854775808 % 2 == 1) = s := by
  have : (b * 9223372036854775808 + (e * 4503599627370496 + (4503599627370496 + m))) / 9223372036854775808 % 2 = b := by omega
  rw [this, Bool.eq_iff_iff, beq_iff_eq]; exact hb1.2
 rw [h1, h2, if_neg (by omega), if_pos (by omega)]
 obtain ⟨h3, h4⟩ := rung_mod (e := e) hm
 rw [h3, h4]
theorem read_zero (s : Bool) : Ieee.double.read (Ieee.double.word s 0) = .number s 0 (-1074) := by
 cases s <;> decide +kernel
theorem nearest_read (s : Bool) (v k : Nat) (hv : v < 9007199254740992) : ∃ j : Nat, Ieee.double.read (Ieee.double.nearest s (v * 2 ^ k) (-(k : Int))) = .number s (v * 2 ^ j) (-(j : Int)) := by
 by_cases h0 : v = 0
 · subst h0
   obtain ⟨j, hj⟩ : ∃ j : Nat, -(j : Int) = -1074 := ⟨1074, rfl⟩
   refine ⟨j, ?_⟩
   rw [Nat.zero_mul, Nat.zero_mul, hj]
   exact read_zero s
 · have hL : v.log2 < 53 := (Nat.log2_lt h0).2 hv
   obtain ⟨d, hd⟩ : ∃ d, d = 52 - v.log2 := ⟨_, rfl⟩
   have hp : 0 < 2 ^ k := Nat.two_pow_pos k
   have hne : v * 2 ^ k ≠ 0 := Nat.mul_ne_zero h0 (Nat.ne_of_gt hp)
   have hlo : 4503599627370496 ≤ v * 2 ^ d := by
    have h1 : 2 ^ v.log2 * 2 ^ d ≤ v * 2 ^ d := Nat.mul_le_mul_right _ (Nat.log2_self_le h0)
    rw [← Nat.pow_add, show v.log2 + d = 52 by omega] at h1; exact h1
   have hhi : v * 2 ^ d < 9007199254740992 := by
    have h1 : v * 2 ^ d < 2 ^ (v.log2 + 1) * 2 ^ d := Nat.mul_lt_mul_of_pos_right Nat.lt_log2_self (Nat.two_pow_pos d)
    rw [← Nat.pow_add, show v.log2 + 1 + d = 53 by omega] at h1; exact h1
   refine ⟨d, ?_⟩
   have hlast : max (-(k : Int) + ((v * 2 ^ k).log2 : Nat) - (Ieee.double.fractionBits : Nat)) Ieee.double.leastPlace = -(d : Int) := by
    rw [log2_shift h0, dfb, dlp]; omega
   have hk : Toward.even.cut s ((v * 2 ^ k) <<< (-(k : Int) - -(d : Int)).toNat) (-(d : Int) - -(k : Int)).toNat = v * 2 ^ d := by
    rcases Nat.le_total k d with h | h
    · rw [show (-(d : Int) - -(k : Int)).toNat = 0 by omega, show (-(k : Int) - -(d : Int)).toNat = d - k by omega, Nat.shiftLeft_eq, Nat.mul_assoc, ← Nat.pow_add, show k + (d - k) = d by omega]
      have := cut_whole .even s (v * 2 ^ d) 0
      rwa [Nat.pow_zero, Nat.mul_one] at this
    · rw [show (-(d : Int) - -(k : Int)).toNat = k - d by omega, show (-(k : Int) - -(d : Int)).toNat = 0 by omega, Nat.shiftLeft_zero]
      have := cut_whole .even s (v * 2 ^ d) (k - d)
      rwa [Nat.mul_assoc, ← Nat.pow_add, show d + (k - d) = k by omega] at this
   unfold Format.nearest
   simp only [if_neg hne]
   rw [hlast, hk, dlp, dbi, din]
   obtain ⟨m, hm⟩ : ∃ m, v * 2 ^ d = 4503599627370496 + m := ⟨v * 2 ^ d - 4503599627370496, by omega⟩
   rw [hm, show (-(d : Int) - -1074).toNat = 1074 - d by omega, Nat.min_eq_left (by omega), read_word s (1074 - d) m (by omega) (by omega)]
   have : -1074 + ((1074 - d : Nat) : Int) = -(d : Int) := by omega
   rw [this]
theorem DIs.write {d : Datum} {n : Int} (h : DIs d n) (hn : n.natAbs < 9007199254740992) : DIs (Ieee.double.read (Ieee.double.write d)) n := by
 obtain ⟨s, v, k, rfl, rfl⟩ := h
 obtain ⟨j, hj⟩ := nearest_read s v k (by cases s <;> simpa using hn)
 exact ⟨s, v, j, hj, rfl⟩
theorem signed_whole (s : Bool) (v i k : Nat) (h : i ≤ k) : signed s (v * 2 ^ i) (k - i) = (if s then -(v : Int) else v) * ((2 ^ k : Nat) : Int) := by
 unfold signed
 rw [Nat.shiftLeft_eq, Nat.mul_assoc, ← Nat.pow_add, show i + (k - i) = k by omega]
 cases s <;> simp [Int.neg_mul]
theorem DIs.opposite {d : Datum} {n : Int} (h : DIs d n) : DIs d.opposite (-n) := by
 obtain ⟨s, v, k, rfl, rfl⟩ := h
 refine ⟨!s, v, k, rfl, ?_⟩
 cases s <;> simp
theorem DIs.sum {d e : Datum} {n m : Int} (h : DIs d n) (g : DIs e m) : ∃ x, d.sum e = some x ∧ DIs x (n + m) := by
 obtain ⟨s, v, i, rfl, hn⟩ := h
 obtain ⟨t, u, j, rfl, hm⟩ := g
 obtain ⟨k, hk⟩ : ∃ k, k = max i j := ⟨_, rfl⟩
 have hb : min (-(i : Int)) (-(j : Int)) = -(k : Int) := by omega
 have h1 : (-(i : Int) - -(k : Int)).toNat = k - i := by omega
 have h2 : (-(j : Int) - -(k : Int)).toNat = k - j := by omega
 have hp : (0 : Int) < ((2 ^ k : Nat) : Int) := by have := Nat.two_pow_pos k; omega
 have ht : signed s (v * 2 ^ i) (k - i) + signed t (u * 2 ^ j) (k - j) = (n + m) * ((2 ^ k : Nat) : Int) := by
  rw [signed_whole s v i k (by omega), signed_whole t u j k (by omega), ← hn, ← hm, Int.add_mul]
 refine ⟨_, rfl, ?_⟩
 simp only [hb, h1, h2, ht]
 refine ⟨if (n + m) * ((2 ^ k : Nat) : Int) = 0 then s && t else decide ((n + m) * ((2 ^ k : Nat) : Int) < 0), (n + m).natAbs, k, ?_, ?_⟩
 · rw [Int.natAbs_mul, Int.natAbs_natCast]
 · by_cases h0 : n + m = 0
   · rw [h0]; simp
   · have hne : (n + m) * ((2 ^ k : Nat) : Int) ≠ 0 := Int.mul_ne_zero h0 (by omega)
     rw [if_neg hne]
     by_cases hl : n + m < 0
     · have : (n + m) * ((2 ^ k : Nat) : Int) < 0 := Int.mul_neg_of_neg_of_pos hl hp
       rw [if_pos (by simpa using this)]; omega
     · have : ¬ (n + m) * ((2 ^ k : Nat) : Int) < 0 := Int.not_lt.2 (Int.mul_nonneg (by omega) (by omega))
       rw [if_neg (by simpa using this)]; omega
theorem DIs.product {d e : Datum} {n m : Int} (h : DIs d n) (g : DIs e m) : ∃ x, d.product e = some x ∧ DIs x (n * m) := by
 obtain ⟨s, v, i, rfl, rfl⟩ := h
 obtain ⟨t, u, j, rfl, rfl⟩ := g
 refine ⟨_, rfl, s ^^ t, v * u, i + j, ?_, ?_⟩
 · congr 1
   · rw [Nat.pow_add]; exact Nat.mul_mul_mul_comm ..
   · omega
 · cases s <;> cases t <;> simp [Int.neg_mul, Int.mul_neg]
theorem DIs.toInt {d : Datum} {n : Int} (h : DIs d n) : d.toInt .zero = some n := by
 obtain ⟨s, v, k, rfl, rfl⟩ := h
 have e : Toward.zero.cut s ((v * 2 ^ k) <<< (-(k : Int)).toNat) (- -(k : Int)).toNat = v := by
  rw [show (-(k : Int)).toNat = 0 by omega, show (- -(k : Int)).toNat = k by omega, Nat.shiftLeft_zero]
  exact cut_whole .zero s v k
 unfold Datum.toInt Datum.integral
 simp only [e]
 unfold signed
 rw [Nat.shiftLeft_zero]
def Is (b : Nat) (n : Int) : Prop := DIs (Ieee.double.read b) n
theorem Is.ofInt {n : Int} (h : n.natAbs < 9007199254740992) : Is (floatOfInt .f64 n) n := by
 refine DIs.write (d := .number (n < 0) n.natAbs 0) ⟨decide (n < 0), n.natAbs, 0, by simp, ?_⟩ h
 by_cases h0 : n < 0
 · rw [if_pos (by simpa using h0)]; omega
 · rw [if_neg (by simpa using h0)]; omega
theorem Is.zero : Is 0 0 := by
 show DIs (Ieee.double.read 0) 0
 obtain ⟨j, hj⟩ : ∃ j : Nat, -(j : Int) = -1074 := ⟨1074, rfl⟩
 have : Ieee.double.read 0 = .number false (0 * 2 ^ j) (-(j : Int)) := by rw [Nat.zero_mul, hj]; decide +kernel
 rw [this]; exact DIs.num false 0 j
theorem Is.one : Is 4607182418800017408 1 := by
 show DIs (Ieee.double.read 4607182418800017408) 1
 have : Ieee.double.read 4607182418800017408 = .number false (1 * 2 ^ 52) (-((52 : Nat) : Int)) := by decide +kernel
 rw [this]; exact DIs.num false 1 52
theorem Is.toInt {b : Nat} {n : Int} (h : Is b n) (lo : -9007199254740992 < n) (hi : n < 9007199254740992) : floatToIntVal .f64 b .i64 = some n := by
 have e : (FloatKind.f64.decode b).toInt .zero = some n := DIs.toInt h
 unfold floatToIntVal
 rw [e]
 have h1 : IntKind.i64.min ≤ n := by show (-9223372036854775808 : Int) ≤ n; omega
 have h2 : n ≤ IntKind.i64.max := by show n ≤ (9223372036854775807 : Int); omega
 simp only [h1, h2, and_self, if_true]
theorem Is.add {x y : Nat} {n m : Int} (h : Is x n) (g : Is y m) (hb : (n + m).natAbs < 9007199254740992) : ∃ r, floatBits .add .f64 x y = some r ∧ Is r (n + m) := by
 obtain ⟨d, hd, hi⟩ := DIs.sum h g
 refine ⟨Ieee.double.write d, ?_, hi.write hb⟩
 show ((Ieee.double.read x).sum (Ieee.double.read y)).map Ieee.double.write = _
 rw [hd]; rfl
theorem Is.sub {x y : Nat} {n m : Int} (h : Is x n) (g : Is y m) (hb : (n - m).natAbs < 9007199254740992) : ∃ r, floatBits .sub .f64 x y = some r ∧ Is r (n - m) := by
 obtain ⟨d, hd, hi⟩ := DIs.sum h (DIs.opposite g)
 rw [← Int.sub_eq_add_neg] at hi
 refine ⟨Ieee.double.write d, ?_, hi.write hb⟩
 show ((Ieee.double.read x).sum (Ieee.double.read y).opposite).map Ieee.double.write = _
 rw [hd]; rfl
theorem Is.mul {x y : Nat} {n m : Int} (h : Is x n) (g : Is y m) (hb : (n * m).natAbs < 9007199254740992) : ∃ r, floatBits .mul .f64 x y = some r ∧ Is r (n * m) := by
 obtain ⟨d, hd, hi⟩ := DIs.product h g
 refine ⟨Ieee.double.write d, ?_, hi.write hb⟩
 show ((Ieee.double.read x).product (Ieee.double.read y)).map Ieee.double.write = _
 rw [hd]; rfl
theorem cmul {a b c d : Nat} {x y u v : Int} (ha : Is a x) (hb : Is b y) (hc : Is c u) (hd : Is d v) (h1 : (x * u).natAbs < 4503599627370496) (h2 : (y * v).natAbs < 4503599627370496)
 (h3 : (x * v).natAbs < 4503599627370496) (h4 : (y * u).natAbs < 4503599627370496) : ∃ re im, cMulBits a b c d = some (re, im) ∧ Is re (x * u - y * v) ∧ Is im (x * v + y * u) := by
 obtain ⟨r1, e1, i1⟩ := ha.mul hc (by omega)
 obtain ⟨r2, e2, i2⟩ := hb.mul hd (by omega)
 obtain ⟨r3, e3, i3⟩ := i1.sub i2 (by omega)
 obtain ⟨r4, e4, i4⟩ := ha.mul hd (by omega)
 obtain ⟨r5, e5, i5⟩ := hb.mul hc (by omega)
 obtain ⟨r6, e6, i6⟩ := i4.add i5 (by omega)
 refine ⟨r3, r6, ?_, i3, i6⟩
 unfold cMulBits
 simp only [e1, e2, e3, e4, e5, e6, Option.bind_some]
theorem csub {a b c d : Nat} {x y u v : Int} (ha : Is a x) (hb : Is b y) (hc : Is c u) (hd : Is d v) (h1 : (x - u).natAbs < 9007199254740992) (h2 : (y - v).natAbs < 9007199254740992) :
 ∃ re im, cSumBits .sub .f64 a b c d = some (re, im) ∧ Is re (x - u) ∧ Is im (y - v) := by
 obtain ⟨r1, e1, i1⟩ := ha.sub hc h1
 obtain ⟨r2, e2, i2⟩ := hb.sub hd h2
 refine ⟨r1, r2, ?_, i1, i2⟩
 unfold cSumBits
 simp only [e1, e2, Option.bind_some]
end Go.Proofs.Ytamhfjlffacakaa.Ov
namespace Go.Proofs.Ytamhfjlffacakaa.Ga
open Go.ChangeShapes Go.WideShapes Go.ChangeAt Go.RowKit Ov
theorem complex_any (x y : Int) (w : World) : Calls Try.prog 96 #[.agg #[.int .i64 x, .int .i64 y]] w fun e w' => e = .returned (.complex .f64 (floatOfInt .f64 x) (floatOfInt .f64 y)) ∧ Below w.heap.size w w' := by
 go_enter Try.func96, Try.ntmps96
 go_wp2_with (fail)
 go_ret
 exact ⟨rfl, (Below.refl _ _).alloc (Nat.le_refl _) _⟩
theorem spot_any {re im : Nat} {x y : Int} (hx : Is re x) (hy : Is im y) (bx : -9007199254740992 < x ∧ x < 9007199254740992) (by_ : -9007199254740992 < y ∧ y < 9007199254740992) (w : World) :
 Calls Try.prog 95 #[.complex .f64 re im] w fun e w' => e = .returned (.agg #[.int .i64 x, .int .i64 y]) ∧ Below w.heap.size w w' := by
 have r1 : ∀ w : World, (convert 125 3 (.float .f64 re)).run Try.prog w = .ok (.int .i64 x) w := fun w => run_convert_float_int w 125 3 .f64 .i64 re x (by rw [Try.underlying125]; rfl) Try.underlying3 (hx.toInt bx.1 bx.2)
 have r2 : ∀ w : World, (convert 125 3 (.float .f64 im)).run Try.prog w = .ok (.int .i64 y) w := fun w => run_convert_float_int w 125 3 .f64 .i64 im y (by rw [Try.underlying125]; rfl) Try.underlying3 (hy.toInt by_.1 by_.2)
 clear hx hy bx by_
 go_enter Try.func95, Try.ntmps95
 go_wp2_with (fail)
 refine bodyPost_ret (v := .agg #[.int .i64 x, .int .i64 y]) (by simp [results, Try.results95, go_sem]) rfl ⟨rfl, ?_⟩
 exact (Below.refl _ _).alloc (Nat.le_refl _) _
theorem mirror_any {x y : Int} (by_ : -16777216 ≤ y ∧ y ≤ 16777216) (w : World) : Calls Try.prog 97 #[.agg #[.int .i64 x, .int .i64 y]] w fun e w' => e = .returned (.agg #[.int .i64 x, .int .i64 (-y)]) ∧ Below w.heap.size w w' := by
 obtain ⟨h1, h2⟩ := by_
 go_enter Try.func97, Try.ntmps97
 go_wp2_with (fail)
 refine bodyPost_ret (v := .agg #[.int .i64 x, .int .i64 (-y)]) (by simp [results, Try.results97, go_sem]) rfl ⟨rfl, ?_⟩
 exact ((Below.refl _ _).alloc (Nat.le_refl _) _).alloc (by simp) _
theorem norm_any {x y : Int} (bx : -16777216 ≤ x ∧ x ≤ 16777216) (by_ : -16777216 ≤ y ∧ y ≤ 16777216) (w : World) : Calls Try.prog 98 #[.agg #[.int .i64 x, .int .i64 y]] w fun e w' => e = .returned (.int .i64 (x * x + y * y)) ∧ Below w.heap.size w w' := by
 obtain ⟨h1, h2⟩ := mul_big bx bx
 obtain ⟨h3, h4⟩ := mul_big by_ by_
 clear bx by_
 go_enter Try.func98, Try.ntmps98
 go_wp2_with (fail)
 go_ret
 exact ⟨rfl, (Below.refl _ _).alloc (Nat.le_refl _) _⟩
theorem natAbs_big {n : Int} (h : -281474976710656 ≤ n ∧ n ≤ 281474976710656) : n.natAbs < 4503599627370496 := by omega
theorem run_cmul {x y u v : Int} (hx : -16777216 ≤ x ∧ x ≤ 16777216) (hy : -16777216 ≤ y ∧ y ≤ 16777216) (hu : -16777216 ≤ u ∧ u ≤ 16777216) (hv : -16777216 ≤ v ∧ v ≤ 16777216) :
 ∃ re im, (∀ w : World, (binOp .mul 122 (.complex .f64 (floatOfInt .f64 x) (floatOfInt .f64 y)) (.complex .f64 (floatOfInt .f64 u) (floatOfInt .f64 v))).run Try.prog w = .ok (.complex .f64 re im) w) ∧
  Is re (x * u - y * v) ∧ Is im (x * v + y * u) := by
 obtain ⟨re, im, h, h1, h2⟩ := cmul (Is.ofInt (n := x) (by omega)) (Is.ofInt (n := y) (by omega)) (Is.ofInt (n := u) (by omega)) (Is.ofInt (n := v) (by omega))
  (natAbs_big (mul_big hx hu)) (natAbs_big (mul_big hy hv)) (natAbs_big (mul_big hx hv)) (natAbs_big (mul_big hy hu))
 exact ⟨re, im, fun w => run_complex_mul w _ _ _ _ _ _ _ h, h1, h2⟩
theorem cut_cases (t d : Int) (hd : 0 < d) : (0 ≤ t.tmod d ∧ t.tdiv d = t / d ∧ t.tdiv d * d ≤ t) ∨ (t.tmod d < 0 ∧ t.tdiv d - 1 = t / d ∧ t < t.tdiv d * d) := by
 have h1 := Int.mul_tdiv_add_tmod t d
 have h2 := Int.tmod_lt_of_pos t hd
 have h3 : -d < t.tmod d := by
  have := Int.lt_tmod_of_pos t hd; omega
 generalize t.tdiv d = q at *
 generalize t.tmod d = r at *
 rw [Int.mul_comm] at h1
 by_cases hr : 0 ≤ r
 · refine .inl ⟨hr, ?_, by omega⟩
   rw [← h1, show q * d + r = r + q * d by omega, Int.add_mul_ediv_right _ _ (by omega), Int.ediv_eq_zero_of_lt hr h2]; omega
 · refine .inr ⟨by omega, ?_, by omega⟩
   rw [← h1, show q * d + r = (r + d) + (q - 1) * d by rw [Int.sub_mul]; omega, Int.add_mul_ediv_right _ _ (by omega), Int.ediv_eq_zero_of_lt (by omega) (by omega)]; omega
theorem tdiv_le (t d M : Int) (h1 : -M ≤ t) (h2 : t ≤ M) (hM : 0 ≤ M) : -M ≤ t.tdiv d ∧ t.tdiv d ≤ M := by
 have h : (t.tdiv d).natAbs ≤ t.natAbs := by rw [Int.natAbs_tdiv]; exact Nat.div_le_self _ _
 omega
set_option maxHeartbeats 1000000 in
theorem nearest_any {n d : Int} (h1 : -1125899906842624 ≤ n) (h2 : n ≤ 1125899906842624) (h3 : 0 < d) (h4 : d ≤ 1125899906842624) (w : World) :
 Calls Try.prog 99 #[.int .i64 n, .int .i64 d] w fun e w' => e = .returned (.int .i64 (near n d)) ∧ w = w' := by
 obtain ⟨t1, t2⟩ := tdiv_le (2 * n + d) (2 * d) 4503599627370496 (by omega) (by omega) (by omega)
 have hn : near n d = (2 * n + d) / (2 * d) := rfl
 rcases cut_cases (2 * n + d) (2 * d) (by omega) with ⟨c1, c2, _⟩ | ⟨c1, c2, _⟩
 · have HE := Lib.hid (hn.trans c2.symm); clear hn c2
   go_enter Try.func99, Try.ntmps99
   go_wp2_with (fail)
   go_ret
   exact ⟨ret_int (by rw [HE.out]), rfl⟩
 · have HE := Lib.hid (hn.trans c2.symm); clear hn c2
   go_enter Try.func99, Try.ntmps99
   go_wp2_with (fail)
   go_ret
   exact ⟨ret_int (by rw [HE.out]), rfl⟩
end Go.Proofs.Ytamhfjlffacakaa.Ga
namespace Go.Proofs.Ytamhfjlffacakaa.Ov
open Go.ChangeShapes Go.WideShapes Go.ChangeAt Go.RowKit
section
variable {w w' w'' : World} {b : Nat}
variable {t : TypeId} {v u : Value}
end
structure Kp (O : Nat → Prop) (w w' : World) : Prop where
 os : w'.os = w.os
 tape : w'.tape = w.tape
 output : w'.output = w.output
 size : w.heap.size ≤ w'.heap.size
 block : ∀ k, k < w.heap.size → ¬ O k → w'.heap[k]? = w.heap[k]?
section
variable {O O' : Nat → Prop} {w w' w'' : World}
theorem Kp.refl (O : Nat → Prop) (w : World) : Kp O w w := ⟨rfl, rfl, rfl, Nat.le_refl _, fun _ _ _ => rfl⟩
theorem Kp.mono (h : Kp O w w') (k : ∀ b, O b → O' b) : Kp O' w w' := ⟨h.os, h.tape, h.output, h.size, fun b hb hn => h.block b hb fun e => hn (k b e)⟩
theorem Kp.trans (h : Kp O w w') (k : Kp O' w' w'') (hO : ∀ b, O' b → O b ∨ w.heap.size ≤ b) : Kp O w w'' :=
 ⟨k.os.trans h.os, k.tape.trans h.tape, k.output.trans h.output, Nat.le_trans h.size k.size, fun b hb hn =>
  (k.block b (Nat.lt_of_lt_of_le hb h.size) fun e => (hO b e).elim hn fun e => by omega).trans (h.block b hb hn)⟩
theorem Below.kp (O : Nat → Prop) (h : Below w.heap.size w w') : Kp O w w' := ⟨h.os, h.tape, h.output, h.size, fun k hk _ => h.block k hk⟩
theorem Kp.next (h : Kp O w w') (k : Below w'.heap.size w' w'') : Kp O w w'' := h.trans (Below.kp O k) fun _ e => .inl e
theorem Kp.below {lo : Nat} (h : Kp O w w') (hO : ∀ b, O b → lo ≤ b) (hl : lo ≤ w.heap.size) : Below lo w w' :=
 ⟨h.os, h.tape, h.output, h.size, fun k hk => h.block k (by omega) fun e => by have := hO k e; omega⟩
theorem Kp.drewN (h : Kp O w w') (m : Nat) : Kp O w (w'.drewN m) := ⟨h.os, h.tape, h.output, h.size, h.block⟩
theorem Kp.setCell (h : Kp O w w') {b : Nat} (hb : O b) (j : Nat) (v : Value) : Kp O w (w'.setCell ⟨b, j, none⟩ v) :=
 h.trans (O' := fun k => k = b) ⟨rfl, rfl, rfl, by simp [World.setCell], fun k _ hk => Below.heap_setCell _ _ _ _ hk⟩ fun k e => .inl (by subst e; exact hb)
theorem Kp.alloc (h : Kp O w w') (o : Obj) : Kp O w (w'.alloc o) := h.next ((Below.refl _ w').alloc (Nat.le_refl _) o)
theorem Kp.grown {row : Option Nat} (h : Kp O w w') (g : w'.grownBy w'' row) (hr : ∀ b, row = some b → O b ∨ w.heap.size ≤ b) : Kp O w w'' :=
 h.trans (O' := fun k => row = some k) ⟨g.os, g.tape, g.output, g.size, fun k hk hn => g.block k hk fun e => hn e.symm⟩ hr
theorem Kp.cell (h : Kp O w w') {p : Addr} (hp : ¬ O p.block) (hl : p.block < w.heap.size) : w'.cell? p = w.cell? p := World.cell?_of_block (w := w) (h.block _ hl hp)
theorem Kp.frozen (h : Kp O w w') {p : Addr} (hp : ¬ O p.block) (hl : p.block < w.heap.size) : w'.frozen? p = w.frozen? p := by
 unfold World.frozen?; rw [h.block _ hl hp]
theorem Blk.kp {b : Nat} {vs : List Value} (h : Blk w b vs) (k : Kp O w w') (hb : ¬ O b) : Blk w' b vs :=
 ⟨fun i v e => (k.cell (p := ⟨b, i, none⟩) hb h.lt).trans (h.c i v e), fun i v e => (k.frozen (p := ⟨b, i, none⟩) hb h.lt).trans (h.f i v e), Nat.lt_of_lt_of_le h.lt k.size⟩
theorem own_kp {base size n : Nat} {e : TypeId} {v : Value} {xs : List Value} (h : w.ownsRow base e size v n xs) (k : Kp O w w') (hv : ∀ g, v.ownBlock = some g → ¬ O g) : w'.ownsRow base e size v n xs := by
 refine ⟨h.1, ?_⟩
 rcases h.2 with h1 | ⟨g, cap, cur, rfl, hg, hc, rest⟩
 · exact .inl h1
 · exact .inr ⟨g, cap, cur, rfl, hg, (k.block g (Array.getElem?_eq_some_iff.1 hc).1 (hv g rfl)).trans hc, rest⟩
end
end Go.Proofs.Ytamhfjlffacakaa.Ov
namespace Go.Proofs.Ytamhfjlffacakaa.Ov
open Go.RowKit Go.Proofs
theorem Kp.putObj {O : Nat → Prop} (w : World) (b : Nat) (o : Obj) (hb : O b) : Kp O w (w.putObj b o) := (Kp.refl O w).grown (grownBy_putObj' w b o) fun k e => .inl (by cases e; exact hb)
def ItsO {α : Type} (F : Fence) (n : Nat) (P : Program) (g : Nat) (lb : Array Value) (encs : α → Array Value) (M : World → Prop) (Fx : List α → α → World → Prop) (S Sp : List α → Prop) : Prop :=
 ∀ (l : Nat) (J : List α → (Nat → Prop) → World → Prop) (Jx : List α → World → Prop) (W : World), (∀ s O O' X Y, J s O X → Kp O X Y → (∀ b, O' b → b < Y.heap.size ∧ (O b ∨ X.heap.size ≤ b)) → J s O' Y) →
  (∀ s X Y, Jx s X → Below X.heap.size X Y → Jx s Y) → (∀ s O X, J s O X → M X) →
  (∀ pre x O X, J pre O X → Fx pre x X → YieldAt F (n - 1) P l (encs x) X fun e Y => (e = .returned (.bool true) ∧ J (pre ++ [x]) O Y ∧ ∀ b, O b → b < X.heap.size → Y.heap[b]? = X.heap[b]?) ∨ (e = .returned (.bool false) ∧ Jx (pre ++ [x]) Y)) →
  J [] (fun _ => False) W → CallsIn F n P g (#[.func (.yield l) #[] #[]] ++ lb) W fun e Y => (∃ v, e = .returned v) ∧ ((∃ xs, S xs ∧ ∃ O, J xs O Y) ∨ (∃ pre, Sp pre ∧ Jx pre Y))
theorem Its.toO {α : Type} {F : Fence} {n : Nat} {P : Program} {g : Nat} {lb : Array Value} {encs : α → Array Value} {M : World → Prop} {Fx : List α → α → World → Prop} {S Sp : List α → Prop} (h : Its F n P g lb encs M Fx S Sp) :
 ItsO F n P g lb encs M Fx S Sp := by
 intro l J Jx W hJ hJx hM hY h0
 refine (h l (fun s X => J s (fun _ => False) X) Jx W (fun s X Y hj k => hJ _ _ _ _ _ hj (Below.kp _ k) (fun b hb => hb.elim)) hJx (fun s X => hM s _ X) ?_ h0).mono ?_
 · intro pre x X hj hx
   obtain ⟨fn, tmps, assign, body, hy, hR⟩ := hY pre x _ X hj hx
   exact ⟨fn, tmps, assign, body, hy, hR.mono fun e Y => by rintro (⟨e1, e2, _⟩ | e1); exact .inl ⟨e1, e2⟩; exact .inr e1⟩
 · rintro e Y ⟨hv, (⟨xs, hS, hj⟩ | h2)⟩
   · exact ⟨hv, .inl ⟨xs, hS, _, hj⟩⟩
   · exact ⟨hv, .inr h2⟩
def rngPostO {α : Type} (O : Nat → Prop) (I : List α → (Nat → Prop) → World → Prop) (Ix : List α → World → Prop) (xs : List α) (X : World) : Exit → Act → World → Prop
 | .normal, _, Y => X.heap.size ≤ Y.heap.size ∧ (∀ b, O b → b < X.heap.size → Y.heap[b]? = X.heap[b]?) ∧ I xs O Y
 | .ret, _, Y => X.heap.size ≤ Y.heap.size ∧ (∀ b, O b → b < X.heap.size → Y.heap[b]? = X.heap[b]?) ∧ Ix xs Y
 | _, _, _ => False
section
variable {F : Fence} {n : Nat} {P : Program}
theorem wpListIn_append_at (w : World) {ops : Array Oper} {rest : List Oper} {o : Oper} {a : Act} {Q : Exit → Act → World → Prop}
 (hg : o.guard = none) (s x : Operand) (t : TypeId) (hop : o.op = Op.call { callee := Callee.builtin Builtin.append, args := #[s, x], argTypes := #[t, t] })
 (base : Nat) (e : TypeId) (i : TypeInfo) (z : Value) (size bytes : Nat) (h1 : P.underlying t = some (.slice e)) (h2 : P.info? e = some i) (h3 : i.zero = some z) (h4 : i.size = size) (h5 : i.bytes = bytes) (h6 : z.cells.size = size) (h7 : 0 < size)
 (v : Value) (k : Nat) (xs : List Value) (hs : a.eval s = v) (hown : w.ownsRow base e size v k xs) (ad : Addr) (m c : Nat) (news : List Value) (hx : a.eval x = .slice (some ad) m c) (hn : news.length = m * size)
 (hc : ∀ j u, news[j]? = some u → w.cell? (ad.add j) = some u) (h1c : ∀ u ∈ news, u.oneCell' = true) (b1 : k + m ≤ maxLen) (b2 : (k + m) * bytes ≤ 140737488355328) (b3 : base ≤ w.heap.size)
 (hK : ∀ v' w', w'.ownsRow base e size v' (k + m) (xs ++ news) → w.grownBy w' v.ownBlock → (v'.ownBlock = v.ownBlock ∨ v'.ownBlock = some w.heap.size) → wpListIn F n P ops Q rest (a.put o.dst v') w') :
 wpListIn F n P ops Q (o :: rest) a w := by
 refine wpListIn_plain hg fun K hK' => ?_
 obtain ⟨v', w', hrun, r1, r2, _, r4⟩ := run_append_own_at (P := P) w base t o.type e i z size bytes h1 h2 h3 h4 h5 h6 h7 v k xs hown ad m c news hn hc h1c b1 b2 b3
 unfold Oper.wpIn
 refine ⟨?_, ?_⟩
 · simp [Oper.about, hop, resolve, Target.leads, Sem.run_pure]
 · rw [Oper.semAt_plain F _ _ (by rw [hop]; intro c hc'; cases hc')]
   simp [execOp, hop, resolve, invoke, builtin, hs, hx, hrun, Result.andThen]
   exact hK' _ _ (hK v' w' r1 r2 r4)
theorem wpIn_rngA {α : Type} {g : Operand} {ps : Array Tmp} {assign body : Code} {Q : Exit → Act → World → Prop} {a : Act} {w : World}
 (hro : F.round = none) (h1 : 1 ≤ n) {gf : Nat} {lb : Array Value} (hg : a.eval g = .func (.func gf) #[] lb) (hFg : F.fn gf) (eg : ∀ args w, (callFunc gf args).run P w = .ok (.enter gf args) w)
 {encs : α → Array Value} {M : World → Prop} {Fx : List α → α → World → Prop} {S Sp : List α → Prop} (hseq : ItsO F (n - 1) P gf lb encs M Fx S Sp) (hps : ∀ x, (encs x).size = ps.size)
 (I : List α → (Nat → Prop) → World → Prop) (Ix : List α → World → Prop) (hI : ∀ s O O' X Y, I s O X → Kp O X Y → (∀ b, O' b → b < Y.heap.size ∧ (O b ∨ X.heap.size ≤ b)) → I s O' Y) (hIO : ∀ s O X, I s O X → ∀ b, O b → b < X.heap.size)
 (hIx : ∀ s X Y, Ix s X → Below w.heap.size X Y → Ix s Y) (hM : ∀ s O X, I s O X → M X) (h0 : I [] (fun _ => False) w)
 (hFx : ∀ pre x X l o o', Fx pre x X → X.heap[l]? = some o → o.isCells = false → Fx pre x (X.putObj l o'))
 (a₁ : α → World → Act) (w₁ : α → World → World) (hw₁ : ∀ x W, Below W.heap.size W (w₁ x W)) (hFx2 : ∀ pre x X, Fx pre x X → Fx pre x (w₁ x X))
 (hassign : ∀ (l : Nat) (x : α) (W : World) (K : Act → World → Prop), K (a₁ x W) (w₁ x W) →
   assign.wpIn (F.inRound l) (n - 1 - 1) P (Exit.then K (fun _ _ _ => False)) { tmps := (ps.zip (encs x)).foldl (fun t (p, v) => t.setIfInBounds p v) a.tmps, defers := [] } W)
 (hbody : ∀ (l : Nat) (pre : List α) (x : α) (O : Nat → Prop) (W V : World), I pre O V → Fx pre x V → Kp (fun b => b = w.heap.size + 1) (w₁ x W) V → w.heap.size + 1 < W.heap.size → body.wpIn (F.inRound l) (n - 1 - 1) P (rngPostO O I Ix (pre ++ [x]) V) (a₁ x W) V)
 (hdone : ∀ (D : Nat) (xs : List α) (O : Nat → Prop) (W : World), w.heap.size ≤ D → S xs → I xs O W → W.heap[D]? = some (.deferred (some [])) → Q .normal { a with defers := { target := .collected D, args := #[] } :: a.defers } W)
 (hstop : ∀ (D : Nat) (pre : List α) (W : World), w.heap.size ≤ D → Sp pre → Ix pre W → W.heap[D]? = some (.deferred (some [])) → Code.ret.wpIn F n P Q { a with defers := { target := .collected D, args := #[] } :: a.defers } W) :
 (Code.rangeFunc g ps assign body).wpIn F n P Q a w := by
 obtain ⟨B, hB⟩ : ∃ B, B = w.heap.size := ⟨_, rfl⟩
 rw [← hB] at hIx hdone hstop hbody
 refine wpIn_rangeFunc fun fn hfn => ?_
 rw [hro]
 obtain ⟨rec, hrec⟩ : ∃ rec : LoopState → Option Code → Loop, rec = fun st pe => { state := st, pending := pe, fn, tmps := a.tmps, params := ps, assign, body, defers := B } := ⟨_, rfl⟩
 obtain ⟨W1, hW1⟩ : ∃ W1, W1 = (w.alloc (.deferred (some []))).alloc (.loop (rec .ready none)) := ⟨_, rfl⟩
 obtain ⟨Two, hTwo⟩ : ∃ Two : LoopState → Option Code → World → Prop, Two = fun st pe W => W.heap[B]? = some (.deferred (some [])) ∧ W.heap[B + 1]? = some (.loop (rec st pe)) := ⟨_, rfl⟩
 have hlt : ∀ {st pe W}, Two st pe W → B + 1 < W.heap.size := fun h => by rw [hTwo] at h; exact (Array.getElem?_eq_some_iff.1 h.2).1
 -- the loop's two blocks are of what the caller does not speak of
 obtain ⟨U, hU⟩ : ∃ U : (Nat → Prop) → Nat → Prop, U = fun O b => O b ∨ b = B ∨ b = B + 1 := ⟨_, rfl⟩
 have hU1 : ∀ O, U O (B + 1) := fun O => by rw [hU]; exact .inr (.inr rfl)
 have hU0 : ∀ O, U O B := fun O => by rw [hU]; exact .inr (.inl rfl)
 have hUm : ∀ {O : Nat → Prop} b, O b → U O b := fun b h => by rw [hU]; exact .inl h
 have hup : ∀ {st pe O X Y}, Two st pe X → Kp O X Y → ¬ O B → ¬ O (B + 1) → Two st pe Y := fun {st pe O X Y} h k n0 n1 => by
  have := hlt h
  rw [hTwo] at h ⊢
  exact ⟨(k.block B (by omega) n0).trans h.1, (k.block (B + 1) this n1).trans h.2⟩
 have hupB : ∀ {st pe X Y}, Two st pe X → Below X.heap.size X Y → Two st pe Y := fun {st pe X Y} h k => by
  have := hlt h
  rw [hTwo] at h ⊢
  exact ⟨(k.block B (by omega)).trans h.1, (k.block (B + 1) this).trans h.2⟩
 have hturn : ∀ {st pe W} (st' : LoopState) (pe' : Option Code), Two st pe W → Two st' pe' (W.putObj (B + 1) (.loop (rec st' pe'))) := fun {st pe W} st' pe' h => by
  have hl := hlt h
  rw [hTwo] at h ⊢
  exact ⟨(World.putObj_heap_other (by omega)).trans h.1, World.putObj_heap_same hl⟩
 have hrecs : ∀ {st pe W}, Two st pe W → W.heap[B + 1]? = some (.loop (rec st pe)) := fun h => by rw [hTwo] at h; exact h.2
 have hdef : ∀ {st pe W}, Two st pe W → W.heap[B]? = some (.deferred (some [])) := fun h => by rw [hTwo] at h; exact h.1
 have hI2 : ∀ {s O W} (o : Obj), I s (U O) W → I s (U O) (W.putObj (B + 1) o) := fun {s O W} o hi => hI s _ _ _ _ hi (Kp.putObj W _ o (hU1 O)) fun b hb => ⟨by simpa using hIO _ _ _ hi b hb, .inl hb⟩
 have hIx2 : ∀ {s st pe W} (o : Obj), Two st pe W → Ix s W → Ix s (W.putObj (B + 1) o) := fun {s st pe W} o h hi => hIx s _ _ hi (below_put o (by omega) (by have := hlt h; omega))
 have hT1 : Two .ready none W1 := by
  rw [hTwo, hW1, hB]
  refine ⟨(Below.heap_alloc _ _ _ (by simp)).trans (World.alloc_heap_new w _), ?_⟩
  have := World.alloc_heap_new (w.alloc (.deferred (some []))) (.loop (rec .ready none)); rwa [World.size_alloc] at this
 have hI1 : I [] (U fun _ => False) W1 := hI _ _ _ _ _ h0 (Below.kp _ (by rw [hW1]; exact ((Below.refl _ w).alloc (Nat.le_refl _) _).alloc (by simp) _)) fun b hb => by
  have h2 : B + 1 < W1.heap.size := hlt hT1
  rw [hU] at hb
  rcases hb with hb | hb | hb
  · exact hb.elim
  · exact ⟨by omega, .inr (by omega)⟩
  · exact ⟨by omega, .inr (by omega)⟩
 refine ⟨B + 1, [{ target := .collected B, args := #[] }], W1, { target := .fn (.func gf) lb, args := #[.func (.yield (B + 1)) #[] #[]] }, W1, gf, #[.func (.yield (B + 1)) #[] #[]] ++ lb, W1, ?_, ?_, ?_, ?_, fun _ => h1, ?_⟩
 · rw [hW1, hrec, hB]; exact run_enterLoop_outer _ _ _ _ _
 · simp only [resolve, hg]
   simp [go_sem]
 · intro f' hf'; simp [Target.leads] at hf'; subst hf'; exact hFg
 · simp [invoke, go_sem, eg]
 · refine (hseq (B + 1) (fun pre O W => I pre (U O) W ∧ Two .ready none W ∧ ¬ O B ∧ ¬ O (B + 1)) (fun pre W => Ix pre W ∧ Two .done (some .ret) W) W1
    (fun s O O' X Y h k hO => ?_) (fun s X Y h k => ⟨hIx s X Y h.1 (k.mono (by have := hlt h.2; omega)), hupB h.2 k⟩) (fun s O X h => hM s _ X h.1) ?_ ⟨hI1, hT1, fun h => h, fun h => h⟩).mono ?_
   · have := hlt h.2.1
     have hT' := hup h.2.1 k h.2.2.1 h.2.2.2
     have hlY := hlt hT'
     refine ⟨hI s _ _ X Y h.1 (k.mono fun b hb => hUm b hb) (fun b hb => ?_), hT', fun e => ?_, fun e => ?_⟩
     · rw [hU] at hb ⊢
       rcases hb with hb | hb
       · obtain ⟨hb1, hb2⟩ := hO b hb
         rcases hb2 with e | e
         · exact ⟨hb1, .inl (.inl e)⟩
         · exact ⟨hb1, .inr e⟩
       · exact ⟨by omega, .inl (.inr hb)⟩
     · rcases (hO _ e).2 with e | e
       · exact h.2.2.1 e
       · omega
     · rcases (hO _ e).2 with e | e
       · exact h.2.2.2 e
       · omega
   · rintro pre x O W0 ⟨hi, hT0, hn0, hn1⟩ hx0
     have hl0 := hrecs hT0
     have hy := run_yield (P := P) (args := encs x) hl0 (by rw [hrec]; exact hps x)
     rw [hrec] at hy
     obtain ⟨W, hWW⟩ : ∃ W, W = w₁ x W0 := ⟨_, rfl⟩
     have hbw : Below W0.heap.size W0 W := by rw [hWW]; exact hw₁ x W0
     have hT := hupB hT0 hbw
     have hl := hrecs hT
     have hiW := hI _ _ (U O) _ _ hi (Below.kp (U O) hbw) fun b hb => ⟨Nat.lt_of_lt_of_le (hIO _ _ _ hi b hb) hbw.size, .inl hb⟩
     have hx : Fx pre x W := by rw [hWW]; exact hFx2 pre x W0 hx0
     refine ⟨fn, _, assign, body, hy, roundIn_of_wpIn hfn (hassign _ x W0 _ ⟨_, run_beginRound (by rw [← hWW]; exact hl) (by rw [hrec]), ?_⟩)⟩
     rw [← hWW]
     have ebusy : ({ rec .ready none with state := .busy } : Loop) = rec .busy none := by rw [hrec]
     rw [ebusy]
     have hTb := hturn .busy none hT
     refine wpIn_mono (hbody _ pre x (U O) W0 _ (hI2 _ hiW) (hFx pre x W _ _ _ hx hl rfl) (by rw [← hWW]; exact Kp.putObj W _ _ rfl) (hlt hT0)) ?_
     have fin : ∀ (st : LoopState) (jump : Option Code) (Y : World), st = (if jump.isNone then .ready else .done) → (∀ b, U O b → b < (W.putObj (B + 1) (.loop (rec .busy none))).heap.size → Y.heap[b]? = (W.putObj (B + 1) (.loop (rec .busy none))).heap[b]?) →
      (Instr.endRound (B + 1) jump).run P Y = .ok (.bool jump.isNone) (Y.putObj (B + 1) (.loop (rec st jump))) ∧ Two .busy none Y ∧ Two st jump (Y.putObj (B + 1) (.loop (rec st jump))) := fun st jump Y hst k => by
      have hTY : Two .busy none Y := by
       have h1 := hdef hTb; have h2 := hrecs hTb; have h3 := hlt hTb
       rw [hTwo]; exact ⟨(k B (hU0 O) (by omega)).trans h1, (k (B + 1) (hU1 O) h3).trans h2⟩
      have hr := run_endRound (P := P) jump (hrecs hTY)
      have e : ({ rec .busy none with state := if jump.isNone then .ready else .done, pending := jump } : Loop) = rec st jump := by rw [hst, hrec]
      rw [e] at hr
      exact ⟨hr, hTY, hturn st jump hTY⟩
     rintro e a3 Y hp
     cases e with
     | normal =>
       obtain ⟨hz, hk, hi3⟩ := hp
       obtain ⟨hr, hTY, hT4⟩ := fin .ready none Y rfl hk
       refine ⟨_, _, hr, .inl ⟨rfl, ⟨hI2 _ hi3, hT4, hn0, hn1⟩, fun b hb hbl => ?_⟩⟩
       have hne : b ≠ B + 1 := fun e => hn1 (e ▸ hb)
       rw [World.putObj_heap_other hne, hk b (hUm b hb) (by have := hbw.size; simp; omega), World.putObj_heap_other hne, hbw.block b hbl]
     | ret =>
       obtain ⟨hz, hk, hi3⟩ := hp
       obtain ⟨hr, hTY, hT4⟩ := fin .done (some .ret) Y rfl hk
       exact ⟨_, _, hr, .inr ⟨rfl, hIx2 _ hTY hi3, hT4⟩⟩
     | exit id => exact hp.elim
     | goto t => exact hp.elim
     | panic ch => exact hp.elim
     | outgrown => exact hp.elim
   · have fin : ∀ (st : LoopState) (pe : Option Code) (W : World), st ≠ .busy → Two st pe W → (Instr.endLoop (B + 1)).run P W = .ok pe (W.putObj (B + 1) (.loop (rec .exhausted pe))) := fun st pe W hs hT => by
      have := run_endLoop (P := P) (hrecs hT) (by rw [hrec]; exact hs)
      have e : ({ rec st pe with state := .exhausted } : Loop) = rec .exhausted pe := by rw [hrec]
      rw [e] at this
      rw [this, hrec]
     rintro e W2 ⟨⟨v, rfl⟩, (⟨xs, hS, O, hi, hT, _⟩ | ⟨pre, hSp, hi, hT⟩)⟩
     · exact ⟨none, _, fin _ _ _ (by simp) hT, hdone B xs _ _ (by omega) hS (hI2 _ hi) (hdef (hturn .exhausted none hT))⟩
     · exact ⟨some .ret, _, fin _ _ _ (by simp) hT, hstop B pre _ (by omega) hSp (hIx2 _ hT hi) (hdef (hturn .exhausted (some .ret) hT))⟩
end
end Go.Proofs.Ytamhfjlffacakaa.Ov
namespace Go.Proofs.Ytamhfjlffacakaa.Ov
open Go.ChangeShapes Go.WideShapes Go.ChangeAt Go.RowKit Go.Proofs
theorem step_app {P : Program} (w : World) {ops : Array Oper} {o : Oper} {a : Act} {K : Act → World → Prop} {Q : Exit → Act → World → Prop} {E : Prop} (hgd : o.guard = none) (s x : Operand) (t : TypeId)
 (ho : o.op = .call { callee := .builtin .append, args := #[s, x], argTypes := #[t, t] })
 (base : Nat) (e : TypeId) (i : TypeInfo) (z : Value) (size bytes : Nat) (ht : P.underlying t = some (.slice e)) (hi : P.info? e = some i) (hz : i.zero = some z)
 (hsize : i.size = size) (hby : i.bytes = bytes) (hzs : z.cells.size = size) (hsz : 0 < size)
 (v : Value) (n : Nat) (xs : List Value) (hs : a.eval s = v) (hown : w.ownsRow base e size v n xs)
 (ad : Addr) (m c : Nat) (news : List Value) (hx : a.eval x = .slice (some ad) m c) (hl : news.length = m * size) (hnews : ∀ j u, news[j]? = some u → w.cell? (ad.add j) = some u) (h1 : ∀ u ∈ news, u.oneCell' = true)
 (h63 : n + m ≤ maxLen) (hbytes : (n + m) * bytes ≤ 140737488355328) (hbase : base ≤ w.heap.size)
 (h : ∀ v' w', w'.ownsRow base e size v' (n + m) (xs ++ news) → w.grownBy w' v.ownBlock → (v'.ownBlock = v.ownBlock ∨ v'.ownBlock = some w.heap.size) → K (a.put o.dst v') w') :
 if Region.wanted o (yielded ops a.tmps) = true then Oper.wp P o a w K Q else E := by
 have hw : Region.wanted o (yielded ops a.tmps) = true := by simp [Region.wanted, hgd]
 rw [if_pos hw]
 obtain ⟨v', w', hr, h2, h3, _, h5⟩ := run_append_own_at (P := P) w base t o.type e i z size bytes ht hi hz hsize hby hzs hsz v n xs hown ad m c news hl hnews h1 h63 hbytes hbase
 unfold Oper.wp execOp
 simp only [ho, resolve, invoke, builtin, Sem.run_bind, Sem.run_pure, Result.andThen_ok, List.map_toArray, List.map_cons, List.map_nil, hs, hx, hr]
 exact h v' w' h2 h3 h5
theorem wpw_scope_once {P : Program} {n : Nat} {a : Act} {w : World} {Q : Exit → Act → World → Prop} {c rest : Code} (l : Nat) (J : Act → World → Prop) (m : Act → World → Nat) (hf : findLabel c l = some (.seq .skip rest))
 (first : Hid (∀ a w, J a w → rest.wpIn Fence.wide n P (Exit.jump l J Q) a w) → c.wpIn Fence.wide n P (Exit.jump l J Q) a w)
 (pass : ∀ a w, J a w → rest.wpIn Fence.wide n P (Exit.jump l (fun a' w' => J a' w' ∧ m a' w' < m a w) Q) a w) : (Code.scope c).wpIn Fence.wide n P Q a w :=
 wpIn_wide.2 (wp_scope_once l J m hf (fun h => wpIn_wide.1 (first (Lib.hid fun a w j => wpIn_wide.2 (h a w j)))) fun a w j => wpIn_wide.1 (pass a w j))
end Go.Proofs.Ytamhfjlffacakaa.Ov
namespace Go.Proofs.Ytamhfjlffacakaa.Jo
open Go.ChangeShapes Go.WideShapes Go.ChangeAt Go.RowKit Ov Va
theorem rfolds_any (s : ByteArray) (w : World) : Calls Try.prog 47 #[.string s] w (Gives (.bool (isF s.data.toList)) w) := by
 go_enter Try.func47, Try.ntmps47
 go_wp2_with (fail)
 all_goals
  go_ret
  refine ⟨?_, Below.refl _ _⟩
  rw [isF_text]; simp_all
end Go.Proofs.Ytamhfjlffacakaa.Jo
namespace Go.Proofs.Ytamhfjlffacakaa.Va
open Go.ChangeShapes Go.WideShapes Go.ChangeAt Go.RowKit Ov Tp
section
variable {H : Type} {enc : TypeId × Value → H} {w : World} {base : Nat} {spare : Nat → Bool} {held : Bool}
end
end Go.Proofs.Ytamhfjlffacakaa.Va
namespace Go.Proofs.Ytamhfjlffacakaa.Ov
open Go.RowKit Go.Proofs
section
variable {F : Fence} {n : Nat} {P : Program} {md : Region.Mode} {ops : Array Oper} {Q : Exit → Act → World → Prop}
theorem operIn_round (l : Nat) (hro : F.round = none) {o : Oper} (hd : ∀ c, o.op ≠ .defer c) {a : Act} {w : World} {next next' : Act → World → Prop} (h : o.wpIn F n P a w next Q) (hn : ∀ a w, next a w → next' a w) : o.wpIn (F.inRound l) n P a w next' Q := by
 have h1 := Oper.wpIn_mono hn h
 refine ⟨h1.1, ?_⟩
 have h2 := h1.2
 rw [hro, Oper.semAt_eq _ _ _ hd] at h2
 rw [Oper.semAt_eq _ _ _ hd]
 exact h2
theorem wpAnyIn_round (l : Nat) (hro : F.round = none) (hd : ∀ (i : Nat) (o : Oper), ops[i]? = some o → ∀ c, o.op ≠ .defer c) :
 ∀ (fuel : Nat) (listed : Array Bool) (a : Act) (w : World), wpAnyIn F n P md ops Q fuel listed a w → wpAnyIn (F.inRound l) n P md ops Q fuel listed a w
 | 0, _, _, _, h => h
 | fuel + 1, listed, a, w, h => ⟨h.1, fun i hi => by
   have hh := h.2 i hi
   have ih := wpAnyIn_round l hro hd fuel (listed.setIfInBounds i true)
   unfold wpOpIn at hh ⊢
   split
   · rename_i ho
     simp only [ho] at hh
     exact ih _ _ hh
   · rename_i o ho
     simp only [ho] at hh
     split
     · rename_i hw
       simp only [hw, if_true] at hh
       exact operIn_round l hro (hd i o ho) hh ih
     · rename_i hw
       simp only [hw] at hh
       exact ⟨hh.1, ih _ _ hh.2⟩⟩
def plainOp (o : Oper) : Bool := match o.op with | .defer _ => false | _ => true
theorem plain_ops {l : List Oper} (h : l.all plainOp = true) : ∀ (i : Nat) (o : Oper), l.toArray[i]? = some o → ∀ c, o.op ≠ .defer c := fun i o ho c e => by
 have hm : o ∈ l := List.mem_of_getElem? (by simpa using ho)
 have := List.all_eq_true.1 h o hm
 unfold plainOp at this
 rw [e] at this; cases this
theorem region_round {id r : Nat} {a : Act} {w : World} {l : List Oper} (hro : F.round = none) (hm : P.follows .mixedOrders = true) (hB : Region.lexB .any l.toArray = true) (hp : l.all plainOp = true)
 (h : wpQuietIn F n P l.toArray (fun w' => ∃ n, w' = w.drewN n) (fun a' => ∀ w', (∃ n, w' = w.drewN n) → Q .normal a' w') l a) : (Code.region id l.toArray true).wpIn (F.inRound r) n P Q a w := by
 simp only [Region.lexB, Bool.and_eq_true] at hB
 refine wpIn_region_any hm (wpAnyIn_round r hro (plain_ops hp) _ _ _ _ (wpAnyIn_of_quiet (C := fun w' => ∃ n, w' = w.drewN n) (Q := fun a' => ∀ w', (∃ n, w' = w.drewN n) → Q .normal a' w') hro (fun _ w' hw' h => h w' hw') _ _ _ _ ⟨1, rfl⟩ ?_))
 have := wpAnyQIn_lex (F := F) (n := n) (C := fun w' => ∃ n, w' = w.drewN n) (md := .any) hB.1 l.toArray.toList 0 (Array.replicate l.toArray.size false) a (by simp) (by simpa using hB.2) (by simpa using h)
 simpa using this
end
end Go.Proofs.Ytamhfjlffacakaa.Ov

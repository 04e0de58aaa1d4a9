/-
  Small texts of this claim, together: OvBase, OvTab, OvLaid, TpMath, GaMath, VaMath, VaDig, VaNum, VaTxt, VaPz, ExMath, ExRun, ExTab, OvBlk, GaCalls, GaLess, VaSmall, OvByte, OvJump, VaByte, VaCut, OvPre, OvText, OvOwn, OvTail, VaVal, JoMath, JoSmall, JoName, EvMath, EvGood.
-/
import Derived.Test.YtimllihegnokeaaGreatDoorRows
import Derived.WalkKit
import Derived.ProofKit
import Derived.OpenShut
import Derived.WalkMore
import Derived.ScopeJumps
import Derived.Deep.QuietTactic
import Derived.BigQuiet
import Derived.Lib.Hide
import Derived.Deep.LoopGhost
import Derived.Deep.OwnRows
import Derived.Laws.CopyOwn
import Derived.Carry
import Derived.Lib.SlBytesRow
import Derived.Shelf.Strconv.Itoa3
import Derived.Lib.LaidTab
import Derived.LaidMore
import Derived.Lib.ItoaNum
import Derived.Lib.ItoaLen
import Derived.Lib.Bytealg
import Derived.Laws.StructEq
import Derived.Laws.Cover1
import Derived.Shelf.Small.Strs
import Derived.Shelf.Strings.Prefix
import Derived.Deep.RegionLaw
import Derived.StillTail
import Derived.Lib.SmallJoins
import Derived.ShutString
namespace Go.Proofs.YtimllihegnokeaaGreatDoor.Ov
open Go.ChangeShapes Go.WideShapes Go.ChangeAt Go.RowKit
theorem below_drewN {B : Nat} {w w' : World} (h : Below B w w') (m : Nat) : Below B w (w'.drewN m) := ⟨h.os, h.tape, h.output, h.size, h.block⟩
theorem Below.next {w w1 w2 : World} (h : Below w.heap.size w w1) (k : Below w1.heap.size w1 w2) : Below w.heap.size w w2 := h.trans (k.mono h.size)
def Over (w : World) : Type := { x : World // Below w.heap.size w x }
instance (w : World) : Nonempty (Over w) := ⟨⟨w, Below.refl _ _⟩⟩
theorem wp_over {P : Program} {id : Nat} {Q : Exit → Act → World → Prop} {a : Act} {w : World} {l : List Oper} (hm : P.follows .mixedOrders = true) (hB : Region.lexB .any l.toArray = true)
 (h : wpQuiet P l.toArray (fun w' => ∃ q : Over w, w' = q.val) (fun a' => ∀ w', (∃ q : Over w, w' = q.val) → Q .normal a' w') l a) : (Code.region id l.toArray true).wp P Q a w :=
 wp_region_quiet (C := fun w' => ∃ q : Over w, w' = q.val) hm hB ⟨⟨w.drew, below_drewN (Below.refl _ _) 1⟩, rfl⟩ (by simpa using h)
section
variable {w : World}
theorem over_make {P : Program} {f : FuncId} {args : Array Value} {v : Value} (q : Over w) (h : Calls P f args q.val fun e w' => e = .returned v ∧ Below q.val.heap.size q.val w') :
 Calls P f args q.val fun e w' => e = .returned v ∧ ∃ q' : Over w, w' = q'.val :=
 h.mono fun _ w' ⟨he, hb⟩ => ⟨he, ⟨w', Below.next q.property hb⟩, rfl⟩
end
def Gives (v : Value) (w : World) (e : Ending) (w' : World) : Prop := e = .returned v ∧ Below w.heap.size w w'
theorem over_gives {P : Program} {f : FuncId} {args : Array Value} {v : Value} {w : World} (q : Over w) (h : Calls P f args q.val (Gives v q.val)) :
 Calls P f args q.val fun e w' => e = .returned v ∧ ∃ q' : Over w, w' = q'.val := over_make q h
theorem ret_int {k : IntKind} {a b : Int} (h : a = b) : Ending.returned (.int k a) = .returned (.int k b) := by rw [h]
theorem ret_str {a b : ByteArray} (h : a = b) : Ending.returned (.string a) = .returned (.string b) := by rw [h]
theorem take_snoc (s : ByteArray) (k : Nat) (h : k < s.size) : s.data.toList.take (k + 1) = s.data.toList.take k ++ [s[k]] := by
 rw [List.take_succ_eq_append_getElem (by simpa using h)]; rfl
def tx (l : List UInt8) : ByteArray := ⟨l.toArray⟩
theorem tx_list (l : List UInt8) : (tx l).data.toList = l := by simp [tx]
theorem tx_size (l : List UInt8) : (tx l).size = l.length := by simp [tx, ByteArray.size]
theorem tx_of (s : ByteArray) : tx s.data.toList = s := by simp [tx]
theorem tx_ext {s : ByteArray} {l : List UInt8} (h : s.data.toList = l) : s = tx l := by rw [← h, tx_of]
theorem tx_append (a b : List UInt8) : tx a ++ tx b = tx (a ++ b) := ByteArray.mk_append_mk a b
structure RowTo (w : World) (B : Nat) (ty : TypeId) (n : Nat) (f : Nat → Value) (z : Value) (k : Nat) (wr : World) : Prop where
 row : wr.rowIs B ty n (fun i => if i < k then f i else z)
 below : Below w.heap.size w wr
 lo : w.heap.size ≤ B
section
variable {w w0 wr wr' : World} {B : Nat} {ty : TypeId} {n : Nat} {f : Nat → Value} {z : Value} {k : Nat}
theorem RowTo.start (h : Below w.heap.size w w0) (z : Value) (n : Nat) (ty : TypeId) (f : Nat → Value) : RowTo w w0.heap.size ty n f z 0 (w0.alloc (.cells (madeCells #[z] n) ty)) :=
 ⟨(World.rowIs_made w0 _ n _).congr (fun j _ => by simp), h.alloc h.size _, h.size⟩
theorem RowTo.set (h : RowTo w B ty n f z k wr) {v : Value} (e : f k = v) : RowTo w B ty n f z (k + 1) (wr.setCell ⟨B, k, none⟩ v) :=
 ⟨(h.row.set k v).congr (fun j _ => by
   by_cases q : j = k
   · subst q; rw [if_pos rfl, if_pos (by omega), e]
   · rw [if_neg q]
     by_cases hlt : j < k
     · rw [if_pos hlt, if_pos (by omega)]
     · rw [if_neg hlt, if_neg (by omega)]), h.below.setCell h.lo _, h.lo⟩
theorem RowTo.cell (h : RowTo w B ty n f z k wr) (hk : k < n) : wr.cell? ⟨B, k, none⟩ = some z := by
 have := h.row.cell hk; rwa [if_neg (Nat.lt_irrefl k)] at this
theorem RowTo.drewN (h : RowTo w B ty n f z k wr) (m : Nat) : RowTo w B ty n f z k (wr.drewN m) := ⟨h.row, below_drewN h.below m, h.lo⟩
end
end Go.Proofs.YtimllihegnokeaaGreatDoor.Ov
namespace Go.Proofs.YtimllihegnokeaaGreatDoor.Ov
open Go.ChangeShapes Go.WideShapes Go.ChangeAt Go.RowKit Go.Shelf
def itoRen : Ren := ⟨fun | 129 => 227 | 171 => 29 | 243 => 68 | 246 => 110 | 283 => 174 | 284 => 175 | 285 => 176 | 286 => 177 | 317 => 226 | 318 => 228 | 319 => 229 | 320 => 230 | 337 => 248 | 338 => 249 | n => n, fun | 0 => 0 | 2 => 2 | 3 => 3 | 4 => 4 | 5 => 5 | 9 => 9 | 20 => 20 | 37 => 59 | 46 => 192 | 51 => 101 | 53 => 200 | 171 => 199 | 173 => 203 | 212 => 237 | 213 => 238 | 232 => 262 | 233 => 263 | n => n, fun | 17 => 3 | 18 => 4 | 19 => 5 | n => n⟩
theorem itoLays : LaysM.n171 Tryz.prog itoRen :=
 { mixed := by kernel_rfl
   f129 := by kernel_rfl
   f171 := by kernel_rfl
   f243 := by kernel_rfl
   f246 := by kernel_rfl
   f283 := by kernel_rfl
   f284 := by kernel_rfl
   f285 := by kernel_rfl
   f286 := by kernel_rfl
   f317 := by kernel_rfl
   f318 := by kernel_rfl
   f319 := by kernel_rfl
   f320 := by kernel_rfl
   f337 := by kernel_rfl
   f338 := by kernel_rfl
   t0 := by kernel_rfl
   a0 := fun _ => by kernel_rfl
   z0 := fun _ => by kernel_rfl
   v0 := fun _ => by kernel_rfl
   t2 := by kernel_rfl
   a2 := fun _ => by kernel_rfl
   z2 := fun _ => by kernel_rfl
   v2 := fun _ => by kernel_rfl
   t3 := by kernel_rfl
   a3 := fun _ => by kernel_rfl
   z3 := fun _ => by kernel_rfl
   v3 := fun _ => by kernel_rfl
   t4 := by kernel_rfl
   a4 := fun _ => by kernel_rfl
   z4 := fun _ => by kernel_rfl
   v4 := fun _ => by kernel_rfl
   t5 := by kernel_rfl
   a5 := fun _ => by kernel_rfl
   z5 := fun _ => by kernel_rfl
   v5 := fun _ => by kernel_rfl
   t9 := by kernel_rfl
   a9 := fun _ => by kernel_rfl
   z9 := fun _ => by kernel_rfl
   v9 := fun _ => by kernel_rfl
   t20 := by kernel_rfl
   a20 := fun _ => by kernel_rfl
   z20 := fun _ => by kernel_rfl
   v20 := fun _ => by kernel_rfl
   t37 := by kernel_rfl
   a37 := fun _ => by kernel_rfl
   z37 := fun _ => by kernel_rfl
   v37 := fun _ => by kernel_rfl
   t46 := by kernel_rfl
   a46 := fun _ => by kernel_rfl
   z46 := fun _ => by kernel_rfl
   v46 := fun _ => by kernel_rfl
   t51 := by kernel_rfl
   a51 := fun _ => by kernel_rfl
   z51 := fun _ => by kernel_rfl
   v51 := fun _ => by kernel_rfl
   t53 := by kernel_rfl
   a53 := fun _ => by kernel_rfl
   z53 := fun _ => by kernel_rfl
   v53 := fun _ => by kernel_rfl
   t171 := by kernel_rfl
   a171 := fun _ => by kernel_rfl
   z171 := fun _ => by kernel_rfl
   v171 := fun _ => by kernel_rfl
   t173 := by kernel_rfl
   a173 := fun _ => by kernel_rfl
   z173 := fun _ => by kernel_rfl
   v173 := fun _ => by kernel_rfl
   t212 := by kernel_rfl
   a212 := fun _ => by kernel_rfl
   z212 := fun _ => by kernel_rfl
   v212 := fun _ => by kernel_rfl
   t213 := by kernel_rfl
   a213 := fun _ => by kernel_rfl
   z213 := fun _ => by kernel_rfl
   t232 := by kernel_rfl
   a232 := fun _ => by kernel_rfl
   z232 := fun _ => by kernel_rfl
   v232 := fun _ => by kernel_rfl
   t233 := by kernel_rfl
   a233 := fun _ => by kernel_rfl
   z233 := fun _ => by kernel_rfl
   v233 := fun _ => by kernel_rfl
   g17 := by kernel_rfl
   g18 := by kernel_rfl
   g19 := by kernel_rfl
   i0 := by kernel_rfl
   i2 := by kernel_rfl
   i3 := by kernel_rfl
   i4 := by kernel_rfl
   i5 := by kernel_rfl
   i9 := by kernel_rfl
   i20 := by kernel_rfl
   i37 := by kernel_rfl
   i46 := by kernel_rfl
   i51 := by kernel_rfl
   i53 := by kernel_rfl
   i171 := by kernel_rfl
   i173 := by kernel_rfl
   i212 := by kernel_rfl
   i232 := by kernel_rfl
   i233 := by kernel_rfl
   m17 := by kernel_rfl
   m18 := by kernel_rfl
   m19 := by kernel_rfl }
def Tab (w : World) : Prop := Lib.TabIs Tryz.prog w "internal/strconv.uint64pow10" .u64 Lib.pow10Tab
theorem Tab.at {w : World} (h : Tab w) : Lib.TabIs Tryz.prog w "internal/strconv.uint64pow10" .u64 Lib.pow10Tab := h
theorem tab_global : Tryz.prog.globalNamed "internal/strconv.uint64pow10" = some 3 := by kernel_rfl
theorem Tab.lt {w : World} (h : Tab w) : 3 < w.heap.size := block_lt_of_cell (Lib.TabIs.cell h tab_global 0 (by decide))
theorem Tab.next {w w' : World} (h : Tab w) (k : Below w.heap.size w w') : Tab w' := by
 have e : w'.var? Tryz.prog "internal/strconv.uint64pow10" = w.var? Tryz.prog "internal/strconv.uint64pow10" := by
  unfold World.var?
  rw [tab_global]
  simp only [Option.bind_some]
  rw [k.block _ h.lt]
 exact e.trans h
theorem below_grow {B : Nat} {w w' : World} (h : Below B w w') (hB : B ≤ w'.heap.size) (os : Array Obj) : Below B w (Sort.grow w' os) :=
 ⟨h.os, h.tape, h.output, by rw [Sort.size_grow]; exact Nat.le_trans h.size (Nat.le_add_right _ _), fun i hi => (Sort.heap_grow_old w' os (by omega)).trans (h.block i hi)⟩
theorem itoa_any (n : Int) (h0 : -9223372036854775808 ≤ n) (h1 : n ≤ 9223372036854775807) (w : World) (ht : Tab w) :
 Calls Tryz.prog 29 #[.int .i64 n] w (Gives (.string (tx (Lib.itoa n))) w) :=
 (Any.strconv_Itoa itoLays n h0 h1 w ht).mono fun _ _ ⟨he, k, os, hw⟩ => ⟨he, by rw [hw]; exact below_grow (below_drewN (Below.refl _ _) k) (Nat.le_refl _) os⟩
theorem tab_of {w : World} (d : DataW Unit) (hd : d = Lib.tabData .u64 Lib.pow10Tab) (h : ∃ g t cs fuel p, Tryz.prog.globalNamed "internal/strconv.uint64pow10" = some g ∧ (Tryz.prog.globals[g]?).map (·.type) = some t ∧ w.var? Tryz.prog "internal/strconv.uint64pow10" = some cs ∧
 DataW.trod (fun _ => ()) Tryz.prog w 0 (fun _ => true) false fuel t cs.toList = some (d, p)) : Tab w := by
 obtain ⟨g, t, cs, fuel, p, hg, ht, hv, hr⟩ := h
 subst hd
 obtain rfl := Option.some.inj (tab_global.symm.trans hg)
 obtain rfl := Option.some.inj ((show (Tryz.prog.globals[3]?).map (·.type) = some 237 by kernel_rfl).symm.trans ht)
 show w.var? _ _ = _
 rw [hv, ← Lib.cells_of_tab Tryz.underlying237 Tryz.underlying200 (by kernel_rfl) (by kernel_rfl) hr]
end Go.Proofs.YtimllihegnokeaaGreatDoor.Ov
namespace Go.Proofs.YtimllihegnokeaaGreatDoor.Ov
open Go.ChangeShapes Go.WideShapes Go.ChangeAt Go.RowKit
theorem laid_reads {P : Program} {w : World} : ∀ {l : List (String × DataW Unit)} {ps : List MemPlace}, DataW.LaidVars P w l ps → ∀ n d, (n, d) ∈ l →
 ∃ g t cs fuel p, P.globalNamed n = some g ∧ (P.globals[g]?).map (·.type) = some t ∧ w.var? P n = some cs ∧ DataW.trod (fun _ => ()) P w 0 (fun _ => true) false fuel t cs.toList = some (d, p)
 | [], _, _, _, _, hm => by cases hm
 | (n', d') :: r, ps, h, n, d, hm => by
  obtain ⟨g, t, cs, fuel, p, q, h1, h2, h3, h4, h5, _⟩ := h
  rcases List.mem_cons.1 hm with e | e
  · cases e
    exact ⟨g, t, cs, fuel, p, h1, h2, h3, h4⟩
  · exact laid_reads h5 n d e
theorem tab_met {w : World} {l : List (String × DataW Unit)} {d : DataW Unit} (hd : d = Lib.tabData .u64 Lib.pow10Tab) (hm : ("internal/strconv.uint64pow10", d) ∈ l) (h : laidMet Tryz.prog l w) : Tab w :=
 let ⟨_, hv, _⟩ := h
 tab_of d hd (laid_reads hv _ d hm)
end Go.Proofs.YtimllihegnokeaaGreatDoor.Ov
namespace Go.Proofs.YtimllihegnokeaaGreatDoor.Tp
open Go.ChangeShapes Go.WideShapes Go.ChangeAt Go.RowKit Ov
def nb (n : Nat) : List UInt8 := if n < 128 then [UInt8.ofNat n] else UInt8.ofNat (n % 128 + 128) :: nb (n / 128)
termination_by n
decreasing_by omega
theorem u8_nat {n : Nat} (h : n < 256) : (UInt8.ofNat n).toNat = n := by
 rw [UInt8.toNat_ofNat']; omega
def cn : Nat → Nat → List UInt8 → Nat × List UInt8 × Nat
 | _, _, [] => (0, [], 2)
 | i, n, b :: t =>
   if 128 ≤ b.toNat ∧ i + 1 < 8 then cn (i + 1) (n + b.toNat % 128 * 2 ^ (7 * i)) t
   else if 128 ≤ b.toNat ∨ (b.toNat = 0 ∧ 1 < i + 1) ∨ 9007199254740991 < n + b.toNat % 128 * 2 ^ (7 * i) then (0, [], 6)
   else (n + b.toNat % 128 * 2 ^ (7 * i), t, 0)
end Go.Proofs.YtimllihegnokeaaGreatDoor.Tp
namespace Go.Proofs.YtimllihegnokeaaGreatDoor.Ga
def fb (n : Int) : Bool := decide (-16777216 ≤ n ∧ n ≤ 16777216)
theorem fb_yes {n : Int} (h : fb n = true) : -16777216 ≤ n ∧ n ≤ 16777216 := of_decide_eq_true h
theorem fb_of {n : Int} (h1 : -16777216 ≤ n) (h2 : n ≤ 16777216) : fb n = true := decide_eq_true ⟨h1, h2⟩
structure Pt where
 x : Int
 y : Int
 deriving DecidableEq
theorem Pt.ext {a b : Pt} (h1 : a.x = b.x) (h2 : a.y = b.y) : a = b := by cases a; cases b; simp_all
def rb (a : Pt) : Bool := fb a.x && fb a.y
theorem rb_yes {a : Pt} (h : rb a = true) : (-16777216 ≤ a.x ∧ a.x ≤ 16777216) ∧ (-16777216 ≤ a.y ∧ a.y ≤ 16777216) := by
 unfold rb at h; rw [Bool.and_eq_true] at h; exact ⟨fb_yes h.1, fb_yes h.2⟩
theorem rb_of {a : Pt} (h : (-16777216 ≤ a.x ∧ a.x ≤ 16777216) ∧ (-16777216 ≤ a.y ∧ a.y ≤ 16777216)) : rb a = true := by
 unfold rb; rw [Bool.and_eq_true]; exact ⟨fb_of h.1.1 h.1.2, fb_of h.2.1 h.2.2⟩
theorem rb_xy {x y : Int} (h : rb ⟨x, y⟩ = true) : (-16777216 ≤ x ∧ x ≤ 16777216) ∧ (-16777216 ≤ y ∧ y ≤ 16777216) := rb_yes h
def near (n d : Int) : Int := (2 * n + d) / (2 * d)
theorem near_spec (n d : Int) (h : 0 < d) : -d ≤ 2 * (n - near n d * d) ∧ 2 * (n - near n d * d) < d := by
 unfold near
 have h1 := Int.emod_add_mul_ediv (2 * n + d) (2 * d)
 have h2 := Int.emod_nonneg (2 * n + d) (show 2 * d ≠ 0 by omega)
 have h3 := Int.emod_lt_of_pos (2 * n + d) (show 0 < 2 * d by omega)
 generalize (2 * n + d) / (2 * d) = q at *
 generalize (2 * n + d) % (2 * d) = r at *
 have e : 2 * d * q = 2 * (q * d) := by grind
 rw [e] at h1
 generalize q * d = p at *
 omega
theorem near_le {n d M : Int} (h : 0 < d) (h1 : -(M * d) ≤ n) (h2 : n ≤ M * d) : -M ≤ near n d ∧ near n d ≤ M := by
 obtain ⟨g1, g2⟩ := near_spec n d h
 generalize near n d = q at *
 refine ⟨?_, ?_⟩
 · rcases Int.lt_or_le q (-M) with hq | hq
   · have : (q + 1) * d ≤ -M * d := Int.mul_le_mul_of_nonneg_right (by omega) (by omega)
     rw [Int.add_mul, Int.neg_mul] at this
     generalize q * d = p at *; generalize M * d = m at *; omega
   · exact hq
 · rcases Int.lt_or_le M q with hq | hq
   · have : (M + 1) * d ≤ q * d := Int.mul_le_mul_of_nonneg_right (by omega) (by omega)
     rw [Int.add_mul] at this
     generalize q * d = p at *; generalize M * d = m at *; omega
   · exact hq
theorem sq_nonneg (a : Int) : 0 ≤ a * a := by
 rcases Int.le_total 0 a with h | h
 · exact Int.mul_nonneg h h
 · exact Int.mul_nonneg_of_nonpos_of_nonpos h h
theorem sq_le {a b : Int} (hb : 0 ≤ b) (h : a * a ≤ b * b) : -b ≤ a ∧ a ≤ b := by
 refine ⟨?_, ?_⟩
 · rcases Int.lt_or_le a (-b) with hq | hq
   · have : (b + 1) * (b + 1) ≤ (-a) * (-a) := Int.mul_le_mul (by omega) (by omega) (by omega) (by omega)
     have e1 : (b + 1) * (b + 1) = b * b + 2 * b + 1 := by grind
     have e2 : (-a) * (-a) = a * a := by grind
     rw [e1, e2] at this; omega
   · exact hq
 · rcases Int.lt_or_le b a with hq | hq
   · have : (b + 1) * (b + 1) ≤ a * a := Int.mul_le_mul (by omega) (by omega) (by omega) (by omega)
     have e1 : (b + 1) * (b + 1) = b * b + 2 * b + 1 := by grind
     rw [e1] at this; omega
   · exact hq
theorem le_sq {a b : Int} (h1 : -b ≤ a) (h2 : a ≤ b) : a * a ≤ b * b := by
 rcases Int.le_total 0 a with h | h
 · exact Int.mul_le_mul h2 h2 h (by omega)
 · have : (-a) * (-a) ≤ b * b := Int.mul_le_mul (by omega) (by omega) (by omega) (by omega)
   rwa [Int.neg_mul_neg] at this
theorem mul_big {a b : Int} (ha : -16777216 ≤ a ∧ a ≤ 16777216) (hb : -16777216 ≤ b ∧ b ≤ 16777216) : -281474976710656 ≤ a * b ∧ a * b ≤ 281474976710656 := by
 have h : (a * b) * (a * b) ≤ 281474976710656 * 281474976710656 := by
  have h1 := le_sq ha.1 ha.2
  have h2 := le_sq hb.1 hb.2
  rw [show (a * b) * (a * b) = (a * a) * (b * b) by grind]
  exact Int.mul_le_mul h1 h2 (sq_nonneg b) (by omega)
 exact sq_le (by omega) h
namespace Pt
def zero : Pt := ⟨0, 0⟩
def one : Pt := ⟨1, 0⟩
def add (a b : Pt) : Pt := ⟨a.x + b.x, a.y + b.y⟩
def sub (a b : Pt) : Pt := ⟨a.x - b.x, a.y - b.y⟩
def mul (a b : Pt) : Pt := ⟨a.x * b.x - a.y * b.y, a.x * b.y + a.y * b.x⟩
def conj (a : Pt) : Pt := ⟨a.x, -a.y⟩
def norm (a : Pt) : Int := a.x * a.x + a.y * a.y
def turn (a : Pt) : Pt := ⟨-a.y, a.x⟩
def quo (a b : Pt) : Pt := ⟨near (a.mul b.conj).x b.norm, near (a.mul b.conj).y b.norm⟩
def rest (a b : Pt) : Pt := a.sub ((a.quo b).mul b)
def turns : Nat → Pt → Pt
 | 0, a => a
 | k + 1, a => (turns k a).turn
theorem norm_nonneg (a : Pt) : 0 ≤ a.norm := by
 have := sq_nonneg a.x; have := sq_nonneg a.y; unfold norm; omega
theorem norm_pos {a : Pt} (h : a ≠ zero) : 0 < a.norm := by
 have h1 := sq_nonneg a.x; have h2 := sq_nonneg a.y
 unfold norm
 by_cases hx : a.x = 0
 · have hy : a.y ≠ 0 := fun hy => h (Pt.ext hx hy)
   have : a.y * a.y ≠ 0 := Int.mul_ne_zero hy hy
   omega
 · have : a.x * a.x ≠ 0 := Int.mul_ne_zero hx hx
   omega
theorem mul_norm (a b : Pt) : (a.mul b).norm = a.norm * b.norm := by unfold mul norm; grind
theorem mul_comm (a b : Pt) : a.mul b = b.mul a := Pt.ext (by unfold mul; grind) (by unfold mul; grind)
theorem mul_assoc (a b c : Pt) : (a.mul b).mul c = a.mul (b.mul c) := Pt.ext (by unfold mul; grind) (by unfold mul; grind)
theorem add_mul (a b c : Pt) : (a.add b).mul c = (a.mul c).add (b.mul c) := Pt.ext (by unfold mul add; grind) (by unfold mul add; grind)
theorem sub_mul (a b c : Pt) : (a.sub b).mul c = (a.mul c).sub (b.mul c) := Pt.ext (by unfold mul sub; grind) (by unfold mul sub; grind)
theorem one_mul (a : Pt) : one.mul a = a := Pt.ext (by unfold mul one; simp) (by unfold mul one; simp)
theorem mul_zero (a : Pt) : a.mul zero = zero := Pt.ext (by unfold mul zero; simp) (by unfold mul zero; simp)
theorem rest_norm (a : Pt) {b : Pt} (h : b ≠ zero) : 2 * (a.rest b).norm ≤ b.norm := by
 have hp := norm_pos h
 have e1 : ((a.rest b).mul b.conj).x = (a.mul b.conj).x - (a.quo b).x * b.norm := by unfold rest sub mul conj norm; grind
 have e2 : ((a.rest b).mul b.conj).y = (a.mul b.conj).y - (a.quo b).y * b.norm := by unfold rest sub mul conj norm; grind
 have e3 : ((a.rest b).mul b.conj).norm = (a.rest b).norm * b.norm := by rw [mul_norm]; congr 1; unfold conj norm; grind
 obtain ⟨l1, u1⟩ := near_spec (a.mul b.conj).x b.norm hp
 obtain ⟨l2, u2⟩ := near_spec (a.mul b.conj).y b.norm hp
 have f1 : (a.quo b).x = near (a.mul b.conj).x b.norm := rfl
 have f2 : (a.quo b).y = near (a.mul b.conj).y b.norm := rfl
 rw [← f1, ← e1] at l1 u1
 rw [← f2, ← e2] at l2 u2
 unfold norm at e3
 have s1 := le_sq (a := 2 * ((a.rest b).mul b.conj).x) (b := b.norm) (by omega) (by omega)
 have s2 := le_sq (a := 2 * ((a.rest b).mul b.conj).y) (b := b.norm) (by omega) (by omega)
 generalize ((a.rest b).mul b.conj).x = u at *
 generalize ((a.rest b).mul b.conj).y = v at *
 have e4 : u * u + v * v = (a.rest b).norm * b.norm := e3
 generalize (a.rest b).norm = r at *
 generalize b.norm = n at *
 rcases Int.lt_or_le n (2 * r) with hh | hh
 · have h5 : (n + 1) * n ≤ 2 * r * n := Int.mul_le_mul_of_nonneg_right (by omega) (by omega)
   have t1 : 2 * u * (2 * u) = 4 * (u * u) := by grind
   have t2 : 2 * v * (2 * v) = 4 * (v * v) := by grind
   have t3 : (n + 1) * n = n * n + n := by grind
   have t4 : 2 * r * n = 2 * (r * n) := by grind
   rw [t1] at s1; rw [t2] at s2; rw [t3, t4] at h5
   generalize u * u = uu at *; generalize v * v = vv at *; generalize r * n = rn at *; generalize n * n = nn at *
   omega
 · exact hh
def Dv (b a : Pt) : Prop := ∃ q : Pt, a = q.mul b
theorem Dv.trans {a b c : Pt} (h : Dv a b) (g : Dv b c) : Dv a c := by
 obtain ⟨p, rfl⟩ := h; obtain ⟨q, rfl⟩ := g; exact ⟨q.mul p, (mul_assoc _ _ _).symm⟩
theorem Dv.refl (a : Pt) : Dv a a := ⟨one, (one_mul a).symm⟩
theorem Dv.zero (a : Pt) : Dv a Pt.zero := ⟨Pt.zero, by rw [mul_comm, mul_zero]⟩
theorem Dv.add {a b c : Pt} (h : Dv a b) (g : Dv a c) : Dv a (b.add c) := by
 obtain ⟨p, rfl⟩ := h; obtain ⟨q, rfl⟩ := g; exact ⟨p.add q, (add_mul _ _ _).symm⟩
theorem Dv.sub {a b c : Pt} (h : Dv a b) (g : Dv a c) : Dv a (b.sub c) := by
 obtain ⟨p, rfl⟩ := h; obtain ⟨q, rfl⟩ := g; exact ⟨p.sub q, (sub_mul _ _ _).symm⟩
theorem Dv.mul {a b : Pt} (h : Dv a b) (c : Pt) : Dv a (c.mul b) := by
 obtain ⟨p, rfl⟩ := h; exact ⟨c.mul p, (mul_assoc _ _ _).symm⟩
theorem turn_right {a : Pt} (h : rb a = true) : rb a.turn = true := by
 obtain ⟨h1, h2⟩ := rb_yes h
 exact rb_of ⟨⟨by show _ ≤ -a.y; omega, by show -a.y ≤ _; omega⟩, h1⟩
theorem turns_right (k : Nat) {a : Pt} (h : rb a = true) : rb (turns k a) = true := by
 induction k with
 | zero => exact h
 | succ k ih => exact turn_right ih
def fs (a : Pt) : Pt :=
 if 0 < a.x ∧ 0 ≤ a.y then a else if a.y < 0 ∧ 0 ≤ a.x then turns 1 a else if a.x < 0 ∧ a.y ≤ 0 then turns 2 a else if 0 < a.y ∧ a.x ≤ 0 then turns 3 a else a
theorem fs_done {a : Pt} (h : (0 < a.x ∧ 0 ≤ a.y) ∨ a = zero) : fs a = a := by
 unfold fs
 rcases h with h | h
 · rw [if_pos h]
 · subst h; rfl
theorem fs_turn {a : Pt} (h : ¬ (0 < a.x ∧ 0 ≤ a.y)) (h0 : a ≠ zero) : fs a.turn = fs a := by
 have hz : ¬ (a.x = 0 ∧ a.y = 0) := fun ⟨hx, hy⟩ => h0 (Pt.ext hx hy)
 unfold fs
 have t1 : turns 1 a = a.turn := rfl
 have t2 : turns 2 a = turns 1 a.turn := rfl
 have t3 : turns 3 a = turns 2 a.turn := rfl
 have tx : a.turn.x = -a.y := rfl
 have ty : a.turn.y = a.x := rfl
 rw [tx, ty, if_neg h]
 by_cases c1 : a.y < 0 ∧ 0 ≤ a.x
 · rw [if_pos (show 0 < -a.y ∧ 0 ≤ a.x by omega), if_pos c1, t1]
 · rw [if_neg c1, if_neg (show ¬ (0 < -a.y ∧ 0 ≤ a.x) by omega)]
   by_cases c2 : a.x < 0 ∧ a.y ≤ 0
   · rw [if_pos c2, if_pos (show a.x < 0 ∧ 0 ≤ -a.y by omega), t2]
   · rw [if_neg c2, if_neg (show ¬ (a.x < 0 ∧ 0 ≤ -a.y) by omega), if_pos (show 0 < a.y ∧ a.x ≤ 0 by omega), if_pos (show -a.y < 0 ∧ a.x ≤ 0 by omega), t3]
theorem rest_lt (a : Pt) {b : Pt} (h : b ≠ zero) : (a.rest b).norm.toNat < b.norm.toNat := by
 have h1 := rest_norm a h; have h2 := norm_nonneg (a.rest b); have h3 := norm_pos h; omega
def cg (a b : Pt) : Pt := if _h : b = zero then fs a else cg b (a.rest b)
termination_by b.norm.toNat
decreasing_by exact rest_lt a _h
theorem cg_zero (a : Pt) : cg a zero = fs a := by rw [cg, dif_pos rfl]
theorem cg_rest (a : Pt) {b : Pt} (h : b ≠ zero) : cg a b = cg b (a.rest b) := by rw [cg, dif_neg h]
theorem norm_le {a : Pt} (h : rb a = true) : a.norm ≤ 562949953421312 := by
 obtain ⟨h1, h2⟩ := rb_yes h
 have s1 := le_sq h1.1 h1.2
 have s2 := le_sq h2.1 h2.2
 unfold norm; omega
theorem right_of_norm {a : Pt} (h : a.norm ≤ 281474976710656) : rb a = true := by
 have s1 := sq_nonneg a.x; have s2 := sq_nonneg a.y
 unfold norm at h
 exact rb_of ⟨sq_le (by omega) (by omega), sq_le (by omega) (by omega)⟩
theorem rest_right {a b : Pt} (hb : rb b = true) (h : b ≠ zero) : rb (a.rest b) = true := by
 have h1 := rest_norm a h; have h2 := norm_le hb
 exact right_of_norm (by omega)
theorem part_le {z N n : Int} (hn : 1 ≤ n) (hz : z * z ≤ N * n) (hN : N ≤ 562949953421312) (h1 : n = 1 → z * z ≤ 281474976710656) : -(16777216 * n) ≤ z ∧ z ≤ 16777216 * n := by
 refine sq_le (by omega) ?_
 by_cases h : n = 1
 · have := h1 h; subst h; omega
 · have t1 : N * n ≤ 562949953421312 * n := Int.mul_le_mul_of_nonneg_right hN (by omega)
   have t2 : 2 * n ≤ n * n := Int.mul_le_mul_of_nonneg_right (by omega) (by omega)
   have t3 : 16777216 * n * (16777216 * n) = 281474976710656 * (n * n) := by grind
   rw [t3]; generalize n * n = nn at *; omega
theorem unit_cases {b : Pt} (h : b.norm = 1) : (b.x * b.x = 1 ∧ b.y = 0) ∨ (b.x = 0 ∧ b.y * b.y = 1) := by
 have s1 := sq_nonneg b.x; have s2 := sq_nonneg b.y
 unfold norm at h
 by_cases hx : b.x = 0
 · exact .inr ⟨hx, by rw [hx] at h; omega⟩
 · have hx2 : b.x * b.x ≠ 0 := Int.mul_ne_zero hx hx
   have hy : b.y = 0 := by
    refine Decidable.byContradiction fun hy => ?_
    have hy2 : b.y * b.y ≠ 0 := Int.mul_ne_zero hy hy
    omega
   exact .inl ⟨by rw [hy] at h; omega, hy⟩
theorem quo_right {a b : Pt} (ha : rb a = true) (h : b ≠ zero) : rb (a.quo b) = true := by
 have hp := norm_pos h
 have hN := norm_le ha
 obtain ⟨hx, hy⟩ := rb_yes ha
 have sx := le_sq hx.1 hx.2
 have sy := le_sq hy.1 hy.2
 have e : (a.mul b.conj).norm = a.norm * b.norm := by rw [mul_norm]; congr 1; unfold conj norm; grind
 have s1 := sq_nonneg (a.mul b.conj).x
 have s2 := sq_nonneg (a.mul b.conj).y
 have e' : (a.mul b.conj).x * (a.mul b.conj).x + (a.mul b.conj).y * (a.mul b.conj).y = a.norm * b.norm := e
 have hu : b.norm = 1 → (a.mul b.conj).x * (a.mul b.conj).x ≤ 281474976710656 ∧ (a.mul b.conj).y * (a.mul b.conj).y ≤ 281474976710656 := by
  intro h1
  have zx : (a.mul b.conj).x = a.x * b.x + a.y * b.y := by unfold mul conj; grind
  have zy : (a.mul b.conj).y = a.y * b.x - a.x * b.y := by unfold mul conj; grind
  rcases unit_cases h1 with ⟨u1, u2⟩ | ⟨u1, u2⟩
  · have t1 : (a.mul b.conj).x * (a.mul b.conj).x = a.x * a.x := by rw [zx, u2]; grind
    have t2 : (a.mul b.conj).y * (a.mul b.conj).y = a.y * a.y := by rw [zy, u2]; grind
    rw [t1, t2]; omega
  · have t1 : (a.mul b.conj).x * (a.mul b.conj).x = a.y * a.y := by rw [zx, u1]; grind
    have t2 : (a.mul b.conj).y * (a.mul b.conj).y = a.x * a.x := by rw [zy, u1]; grind
    rw [t1, t2]; omega
 obtain ⟨p1, p2⟩ := part_le (z := (a.mul b.conj).x) (N := a.norm) (n := b.norm) (by omega) (by omega) hN (fun h1 => (hu h1).1)
 obtain ⟨q1, q2⟩ := part_le (z := (a.mul b.conj).y) (N := a.norm) (n := b.norm) (by omega) (by omega) hN (fun h1 => (hu h1).2)
 exact rb_of ⟨near_le hp p1 p2, near_le hp q1 q2⟩
end Pt
end Go.Proofs.YtimllihegnokeaaGreatDoor.Ga
namespace Go.Proofs.YtimllihegnokeaaGreatDoor.Va
open Tp Ga
structure Va where
 k : Int
 n : Int
 s : List UInt8
 x : Int
 y : Int
 deriving DecidableEq
def rt (v : Va) : Bool := decide ((v.k = 0 ∧ -9007199254740992 ≤ v.n ∧ v.n ≤ 9007199254740992 ∧ v.s = [] ∧ v.x = 0 ∧ v.y = 0) ∨ (v.k = 1 ∧ v.n = 0 ∧ v.s.length ≤ 4096 ∧ v.x = 0 ∧ v.y = 0) ∨
 (v.k = 2 ∧ v.n = 0 ∧ v.s = [] ∧ rb ⟨v.x, v.y⟩ = true))
theorem rt_yes {v : Va} (h : rt v = true) : (v.k = 0 ∧ -9007199254740992 ≤ v.n ∧ v.n ≤ 9007199254740992 ∧ v.s = [] ∧ v.x = 0 ∧ v.y = 0) ∨ (v.k = 1 ∧ v.n = 0 ∧ v.s.length ≤ 4096 ∧ v.x = 0 ∧ v.y = 0) ∨
 (v.k = 2 ∧ v.n = 0 ∧ v.s = [] ∧ rb ⟨v.x, v.y⟩ = true) := of_decide_eq_true h
def cI (a b : Int) : Int := if a < b then -1 else if b < a then 1 else 0
def cS (a b : List UInt8) : Int := if Op.bytesLess a b = true then -1 else if Op.bytesLess b a = true then 1 else 0
def cP (x y u v : Int) : Int := if x < u ∨ x = u ∧ y < v then -1 else if u < x ∨ u = x ∧ v < y then 1 else 0
def or4 (a b c d : Int) : Int := if a ≠ 0 then a else if b ≠ 0 then b else if c ≠ 0 then c else d
def ord (a b : Va) : Int := or4 (cI a.k b.k) (cI a.n b.n) (cS a.s b.s) (cP a.x a.y b.x b.y)
theorem less_nil (a : List UInt8) : Op.bytesLess a [] = false := by cases a <;> rfl
theorem less_cons (a b : UInt8) (x y : List UInt8) : Op.bytesLess (a :: x) (b :: y) = (a < b || (a == b && Op.bytesLess x y)) := rfl
theorem less_cons_iff (a b : UInt8) (x y : List UInt8) : Op.bytesLess (a :: x) (b :: y) = true ↔ (a.toNat < b.toNat ∨ a = b ∧ Op.bytesLess x y = true) := by
 rw [less_cons]; simp [UInt8.lt_iff_toNat_lt]
theorem less_irrefl (a : List UInt8) : Op.bytesLess a a = false := by
 induction a with
 | nil => rfl
 | cons c t ih =>
   rw [Bool.eq_false_iff]
   intro h
   rcases (less_cons_iff c c t t).1 h with h | ⟨_, h⟩
   · omega
   · rw [ih] at h; cases h
theorem less_total (a b : List UInt8) : Op.bytesLess a b = true ∨ Op.bytesLess b a = true ∨ a = b := by
 induction a generalizing b with
 | nil => cases b with
   | nil => exact .inr (.inr rfl)
   | cons d u => exact .inl rfl
 | cons c t ih => cases b with
   | nil => exact .inr (.inl rfl)
   | cons d u =>
     rw [less_cons_iff, less_cons_iff]
     rcases Nat.lt_trichotomy c.toNat d.toNat with h | h | h
     · exact .inl (.inl h)
     · have e : c = d := UInt8.toNat_inj.1 h
       subst e
       rcases ih u with h | h | h
       · exact .inl (.inr ⟨rfl, h⟩)
       · exact .inr (.inl (.inr ⟨rfl, h⟩))
       · exact .inr (.inr (by rw [h]))
     · exact .inr (.inl (.inl h))
theorem less_trans {a b c : List UInt8} (h1 : Op.bytesLess a b = true) (h2 : Op.bytesLess b c = true) : Op.bytesLess a c = true := by
 induction a generalizing b c with
 | nil => cases c with
   | nil => rw [less_nil] at h2; cases h2
   | cons d u => rfl
 | cons x t ih => cases b with
   | nil => rw [less_nil] at h1; cases h1
   | cons y u => cases c with
     | nil => rw [less_nil] at h2; cases h2
     | cons z v =>
       rw [less_cons_iff] at h1 h2 ⊢
       rcases h1 with h1 | ⟨e1, h1⟩
       · rcases h2 with h2 | ⟨e2, h2⟩
         · exact .inl (by omega)
         · subst e2; exact .inl h1
       · subst e1
         rcases h2 with h2 | ⟨e2, h2⟩
         · exact .inl h2
         · subst e2; exact .inr ⟨rfl, ih h1 h2⟩
theorem less_asymm {a b : List UInt8} (h : Op.bytesLess a b = true) : Op.bytesLess b a = false := by
 rw [Bool.eq_false_iff]; intro h2
 have := less_trans h h2
 rw [less_irrefl] at this; cases this
theorem cS_lt {a b : List UInt8} (h : Op.bytesLess a b = true) : cS a b = -1 := if_pos h
theorem cS_gt {a b : List UInt8} (h : Op.bytesLess b a = true) : cS a b = 1 := by unfold cS; rw [less_asymm h, if_neg (by decide), if_pos h]
theorem cS_self (a : List UInt8) : cS a a = 0 := by unfold cS; rw [less_irrefl]; rfl
def pl (c : UInt8) : Bool := decide (32 ≤ c.toNat ∧ c.toNat ≤ 126 ∧ c.toNat ≠ 34 ∧ c.toNat ≠ 92)
def hx (n : Nat) : UInt8 := UInt8.ofNat (if n < 10 then 48 + n else 87 + n)
def e1 (c : UInt8) : List UInt8 := if pl c = true then [c] else [92, hx (c.toNat / 16), hx (c.toNat % 16)]
def esc (l : List UInt8) : List UInt8 := l.flatMap e1
def wr (v : Va) : List UInt8 :=
 if v.k = 1 then 34 :: (esc v.s ++ [34])
 else if v.k = 2 then (Lib.itoa v.x ++ [58]) ++ Lib.itoa v.y
 else Lib.itoa v.n
theorem wr_text (n x y : Int) (s : List UInt8) : wr ⟨1, n, s, x, y⟩ = 34 :: (esc s ++ [34]) := if_pos rfl
theorem wr_point (n x y : Int) (s : List UInt8) : wr ⟨2, n, s, x, y⟩ = (Lib.itoa x ++ [58]) ++ Lib.itoa y := by
 unfold wr; rw [if_neg (show ¬ (2 : Int) = 1 by decide), if_pos rfl]
theorem wr_int (n x y : Int) (s : List UInt8) : wr ⟨0, n, s, x, y⟩ = Lib.itoa n := by
 unfold wr; rw [if_neg (show ¬ (0 : Int) = 1 by decide), if_neg (show ¬ (0 : Int) = 2 by decide)]
theorem esc_nil : esc [] = [] := rfl
theorem esc_cons (c : UInt8) (l : List UInt8) : esc (c :: l) = e1 c ++ esc l := rfl
theorem esc_append (a b : List UInt8) : esc (a ++ b) = esc a ++ esc b := by unfold esc; rw [List.flatMap_append]
theorem e1_le (c : UInt8) : (e1 c).length ≤ 3 := by unfold e1; split <;> simp
theorem esc_le (l : List UInt8) : (esc l).length ≤ 3 * l.length := by
 induction l with
 | nil => simp [esc_nil]
 | cons c t ih => rw [esc_cons, List.length_append, List.length_cons]; have := e1_le c; omega
end Go.Proofs.YtimllihegnokeaaGreatDoor.Va
namespace Go.Proofs.YtimllihegnokeaaGreatDoor
open Go
instance : Coe Va.Va (List Value) := ⟨fun v => [.int .i64 v.k, .int .i64 v.n, .string (Ov.tx v.s), .int .i64 v.x, .int .i64 v.y]⟩
instance : Coe Va.Va (Array Value) := ⟨fun v => #[.int .i64 v.k, .int .i64 v.n, .string (Ov.tx v.s), .int .i64 v.x, .int .i64 v.y]⟩
structure Zr where
instance : Coe Zr (List Value) := ⟨fun _ => [.int .i64 0, .int .i64 0, .string ⟨#[]⟩, .int .i64 0, .int .i64 0]⟩
instance : Coe Zr (Array Value) := ⟨fun _ => #[.int .i64 0, .int .i64 0, .string ⟨#[]⟩, .int .i64 0, .int .i64 0]⟩
def zz : Zr := ⟨⟩

end Go.Proofs.YtimllihegnokeaaGreatDoor
namespace Go.Proofs.YtimllihegnokeaaGreatDoor.Va
open Ov Tp Ga
def dg (c : UInt8) : Bool := decide (48 ≤ c.toNat ∧ c.toNat ≤ 57)
def tw (l : List UInt8) : Nat := (l.takeWhile dg).length
def sat (l : List UInt8) : Nat := l.foldl (fun a c => min (10 * a + (c.toNat - 48)) 9007199254740993) 0
theorem dec_small {m : Nat} (h : m < 10) : Lib.decDigits m = [UInt8.ofNat (48 + m)] := by rw [Lib.decDigits, dif_pos h]
theorem dec_big {m : Nat} (h : ¬ m < 10) : Lib.decDigits m = Lib.decDigits (m / 10) ++ [UInt8.ofNat (48 + m % 10)] := by rw [Lib.decDigits, dif_neg h]
def cd (l : List UInt8) : Nat × Nat × Nat :=
 if l = [] then (0, 0, 2) else if tw l = 0 ∨ (1 < tw l ∧ l.head? = some 48) then (0, 0, 6) else (sat (l.take (tw l)), tw l, 0)
def cw (l : List UInt8) : Int × Nat × Nat :=
 if l.head? = some 45 then
  (if (cd l.tail).2.2 ≠ 0 then (0, 0, (cd l.tail).2.2) else if (cd l.tail).1 = 0 then (0, 0, 6) else (-((cd l.tail).1 : Int), (cd l.tail).2.1 + 1, 0))
 else (((cd l).1 : Int), (cd l).2.1, (cd l).2.2)
def vz : Va := ⟨0, 0, [], 0, 0⟩
def cnum (l : List UInt8) : Va × Nat × Nat :=
 if (cw l).2.2 ≠ 0 then (vz, 0, (cw l).2.2)
 else if (l.drop (cw l).2.1).head? = some 58 then
  (if (cw (l.drop ((cw l).2.1 + 1))).2.2 ≠ 0 then (vz, 0, (cw (l.drop ((cw l).2.1 + 1))).2.2)
   else if rt ⟨2, 0, [], (cw l).1, (cw (l.drop ((cw l).2.1 + 1))).1⟩ = true then (⟨2, 0, [], (cw l).1, (cw (l.drop ((cw l).2.1 + 1))).1⟩, (cw l).2.1 + 1 + (cw (l.drop ((cw l).2.1 + 1))).2.1, 0)
   else (vz, 0, 14))
 else if rt ⟨0, (cw l).1, [], 0, 0⟩ = true then (⟨0, (cw l).1, [], 0, 0⟩, (cw l).2.1, 0) else (vz, 0, 14)
theorem rt_int_in {n x y : Int} {s : List UInt8} (h : rt ⟨0, n, s, x, y⟩ = true) : (-9007199254740992 ≤ n ∧ n ≤ 9007199254740992) ∧ s = [] ∧ x = 0 ∧ y = 0 := by
 rcases rt_yes h with ⟨_, h1, h2, h3, h4, h5⟩ | ⟨h, _⟩ | ⟨h, _⟩
 · exact ⟨⟨h1, h2⟩, h3, h4, h5⟩
 · change (0 : Int) = 1 at h; omega
 · change (0 : Int) = 2 at h; omega
theorem rt_point_in {n x y : Int} {s : List UInt8} (h : rt ⟨2, n, s, x, y⟩ = true) : ((-16777216 ≤ x ∧ x ≤ 16777216) ∧ (-16777216 ≤ y ∧ y ≤ 16777216)) ∧ s = [] ∧ n = 0 := by
 rcases rt_yes h with ⟨h, _⟩ | ⟨h, _⟩ | ⟨_, h1, h2, h3⟩
 · change (2 : Int) = 0 at h; omega
 · change (2 : Int) = 1 at h; omega
 · exact ⟨rb_xy h3, h2, h1⟩
theorem rt_text_in {n x y : Int} {s : List UInt8} (h : rt ⟨1, n, s, x, y⟩ = true) : s.length ≤ 4096 ∧ n = 0 ∧ x = 0 ∧ y = 0 := by
 rcases rt_yes h with ⟨h, _⟩ | ⟨_, h1, h2, h3, h4⟩ | ⟨h, _⟩
 · change (1 : Int) = 0 at h; omega
 · exact ⟨h2, h1, h3, h4⟩
 · change (1 : Int) = 2 at h; omega
def sixL : List UInt8 := [48, 49, 50, 51, 52, 53, 54, 55, 56, 57, 97, 98, 99, 100, 101, 102]
def sv (c : UInt8) : Int := Lib.indexByte sixL c
def cb3 (n : Nat) : List UInt8 → UInt8 × Nat × Nat
 | [] => (0, 0, 2)
 | b :: _ => if sv b < 0 then (0, 0, 6) else if pl (UInt8.ofNat (16 * n + (sv b).toNat)) = true then (0, 0, 6) else (UInt8.ofNat (16 * n + (sv b).toNat), 3, 0)
def cb2 : List UInt8 → UInt8 × Nat × Nat
 | [] => (0, 0, 2)
 | a :: u => if sv a < 0 then (0, 0, 6) else cb3 (sv a).toNat u
def cb : List UInt8 → UInt8 × Nat × Nat
 | [] => (0, 0, 2)
 | c :: t => if pl c = true then (c, 1, 0) else if c ≠ 92 then (0, 0, 6) else cb2 t
def ct : List UInt8 → List UInt8 × Nat × Nat
 | [] => ([], 0, 2)
 | c :: t => if c = 34 then ([], 1, 0) else if (cb (c :: t)).2.2 ≠ 0 then ([], 0, (cb (c :: t)).2.2) else
   if (ct (t.drop ((cb (c :: t)).2.1 - 1))).2.2 ≠ 0 then ([], 0, (ct (t.drop ((cb (c :: t)).2.1 - 1))).2.2)
   else ((cb (c :: t)).1 :: (ct (t.drop ((cb (c :: t)).2.1 - 1))).1, (cb (c :: t)).2.1 + (ct (t.drop ((cb (c :: t)).2.1 - 1))).2.1, 0)
termination_by l => l.length
decreasing_by all_goals (simp; omega)
def pre (a : List UInt8) (k : Nat) (r : List UInt8 × Nat × Nat) : List UInt8 × Nat × Nat := if r.2.2 ≠ 0 then ([], 0, r.2.2) else (a ++ r.1, k + r.2.1, 0)
def ctx (l : List UInt8) : Va × Nat × Nat :=
 if (ct l.tail).2.2 ≠ 0 then (vz, 0, (ct l.tail).2.2) else if 4096 < (ct l.tail).1.length then (vz, 0, 3) else (⟨1, 0, (ct l.tail).1, 0, 0⟩, (ct l.tail).2.1 + 1, 0)
def pz (l : List UInt8) : Va × Nat × Nat :=
 if l.head? = some 34 then ctx l else if l.head? = some 45 ∨ (∃ c, l.head? = some c ∧ dg c = true) then cnum l else (vz, 0, 10)
theorem wr_le {v : Va} (h : rt v = true) : (wr v).length ≤ 12290 := by
 obtain ⟨k, n, s, x, y⟩ := v
 rcases rt_yes h with ⟨h0, h1, h2, h3, h4, h5⟩ | ⟨h0, h1, h2, h3, h4⟩ | ⟨h0, h1, h2, h3⟩
 · dsimp only at h0 h1 h2
   subst h0; rw [wr_int]
   have := Lib.itoa_length_le n (by omega) (by omega); omega
 · dsimp only at h0 h2
   subst h0; rw [wr_text]
   have := esc_le s
   simp; omega
 · dsimp only at h0 h3
   subst h0; rw [wr_point]
   obtain ⟨g1, g2⟩ := rb_xy h3
   have h4 := Lib.itoa_length_le x (by omega) (by omega)
   have h5 := Lib.itoa_length_le y (by omega) (by omega)
   simp; omega
end Go.Proofs.YtimllihegnokeaaGreatDoor.Va
namespace Go.Proofs.YtimllihegnokeaaGreatDoor.Ex
open Ov Tp Ga Va
structure No where
 o : Int
 v : Va
 deriving DecidableEq
def wdl : List (List UInt8) := [[], [], [97, 100, 100], [115, 117, 98], [109, 117, 108], [100, 105, 118], [109, 111, 100], [110, 101, 103], [108, 101, 115, 115], [115, 97, 109, 101], [110, 111, 116], [105, 102], [109, 97, 120], [109, 105, 110], [99, 97, 116], [108, 101, 110], [99, 117, 116], [119, 111, 114, 100], [119, 111, 114, 100, 115], [110, 117, 109], [116, 101, 120, 116], [97, 116], [114, 101], [105, 109], [110, 111, 114, 109], [99, 111, 110, 106], [101, 109, 105, 116], [116, 104, 101, 110], [101, 97, 99, 104], [108, 101, 116]]
def ptl : List Nat := [0, 0, 2, 2, 2, 2, 2, 1, 2, 2, 1, 3, 2, 2, 2, 1, 3, 2, 1, 1, 1, 2, 1, 1, 1, 1, 2, 2, 2, 2]
def nml : List (List UInt8) := [[107, 101, 121], [118, 97, 108], [97, 99, 99], [105], [105, 116]]
def wd (o : Int) : List UInt8 := if 0 ≤ o then (wdl[o.toNat]?).getD [] else []
def pa (o : Int) : Nat := if 0 ≤ o then (ptl[o.toNat]?).getD 0 else 0
def nm (n : Int) : List UInt8 := if 0 ≤ n then (nml[n.toNat]?).getD [] else []
theorem kinds_all : ∀ i : Fin 30, 2 ≤ i.val → (1 ≤ ptl[i.val]! ∧ ptl[i.val]! ≤ 3 ∧ 1 ≤ wdl[i.val]!.length ∧ wdl[i.val]!.length ≤ 5) ∧ wdl[i.val]! ≠ [] := by decide +kernel
theorem wd_at {i : Nat} (h : i < 30) : wd (i : Int) = wdl[i]! := by
 unfold wd
 rw [if_pos (by omega), Int.toNat_natCast, List.getElem!_eq_getElem?_getD]; rfl
theorem pa_at {i : Nat} (h : i < 30) : pa (i : Int) = ptl[i]! := by
 unfold pa
 rw [if_pos (by omega), Int.toNat_natCast, List.getElem!_eq_getElem?_getD]; rfl
theorem kind_in {o : Int} (h : 2 ≤ o ∧ o ≤ 29) : (1 ≤ pa o ∧ pa o ≤ 3) ∧ 1 ≤ (wd o).length ∧ (wd o).length ≤ 5 := by
 obtain ⟨i, rfl⟩ : ∃ i : Nat, o = (i : Int) := ⟨o.toNat, by omega⟩
 have hi : i < 30 := by omega
 have := (kinds_all ⟨i, hi⟩ (by show 2 ≤ i; omega)).1
 rw [wd_at hi, pa_at hi]
 exact ⟨⟨this.1, this.2.1⟩, this.2.2.1, this.2.2.2⟩
theorem kind_out {o : Int} (h : o < 2 ∨ 30 ≤ o) : wd o = [] ∧ pa o = 0 := by
 unfold wd pa
 by_cases h0 : 0 ≤ o
 · rw [if_pos h0, if_pos h0]
   rcases h with h | h
   · have : o = 0 ∨ o = 1 := by omega
     rcases this with rfl | rfl <;> exact ⟨rfl, rfl⟩
   · obtain ⟨i, rfl⟩ : ∃ i : Nat, o = (i : Int) := ⟨o.toNat, by omega⟩
     rw [Int.toNat_natCast, List.getElem?_eq_none (by show 30 ≤ i; omega), List.getElem?_eq_none (by show 30 ≤ i; omega)]
     exact ⟨rfl, rfl⟩
 · rw [if_neg h0, if_neg h0]; exact ⟨rfl, rfl⟩
theorem pa_le (o : Int) : pa o ≤ 3 := by
 by_cases h : 2 ≤ o ∧ o ≤ 29
 · exact (kind_in h).1.2
 · rw [(kind_out (by omega)).2]; omega
theorem names_all : ∀ i : Fin 5, 1 ≤ nml[i.val]!.length ∧ nml[i.val]!.length ≤ 3 := by decide +kernel
theorem nm_at {i : Nat} (h : i < 5) : nm (i : Int) = nml[i]! := by
 unfold nm
 rw [if_pos (by omega), Int.toNat_natCast, List.getElem!_eq_getElem?_getD]; rfl
theorem nm_in {n : Int} (h : 0 ≤ n ∧ n < 5) : 1 ≤ (nm n).length ∧ (nm n).length ≤ 3 := by
 obtain ⟨i, rfl⟩ : ∃ i : Nat, n = (i : Int) := ⟨n.toNat, by omega⟩
 have hi : i < 5 := by omega
 rw [nm_at hi]; exact names_all ⟨i, hi⟩
def nv (n : Int) : Va := ⟨0, n, [], 0, 0⟩
def rn (n : No) : Bool := if n.o = 0 then rt n.v else if n.o = 1 then decide (n.v = nv n.v.n ∧ 0 ≤ n.v.n ∧ n.v.n < 5) else decide ((2 ≤ n.o ∧ n.o ≤ 29) ∧ n.v = vz)
theorem rn_cases {n : No} (h : rn n = true) : (n.o = 0 ∧ rt n.v = true) ∨ (n.o = 1 ∧ n.v = nv n.v.n ∧ 0 ≤ n.v.n ∧ n.v.n < 5) ∨ ((2 ≤ n.o ∧ n.o ≤ 29) ∧ n.v = vz) := by
 unfold rn at h
 split at h
 · exact .inl ⟨‹_›, h⟩
 split at h
 · exact .inr (.inl ⟨‹_›, of_decide_eq_true h⟩)
 · exact .inr (.inr (of_decide_eq_true h))
theorem rn_leaf {n : No} (h : n.o = 0 ∨ n.o = 1) : pa n.o = 0 := (kind_out (by omega)).2
def it (f : List No → Option (List No)) : Nat → List No → Option (List No)
 | 0, r => some r
 | k + 1, r => (f r).bind (it f k)
def ex : Nat → List No → Option (List No)
 | 0, _ => none
 | _ + 1, [] => none
 | d + 1, n :: r => if rn n = true then it (ex d) (pa n.o) r else none
theorem ex_nil (d : Nat) : ex d [] = none := by cases d <;> rfl
theorem ex_cons (d : Nat) (n : No) (r : List No) : ex (d + 1) (n :: r) = if rn n = true then it (ex d) (pa n.o) r else none := rfl
theorem it_zero (f : List No → Option (List No)) (r : List No) : it f 0 r = some r := rfl
theorem it_succ (f : List No → Option (List No)) (k : Nat) (r : List No) : it f (k + 1) r = (f r).bind (it f k) := rfl
def Rt (l : List No) : Bool := decide (l.length ≤ 400 ∧ ex 25 l = some [])
theorem Rt_in {l : List No} (h : Rt l = true) : l.length ≤ 400 ∧ ex 25 l = some [] := of_decide_eq_true h
def ts (f : List No → List UInt8) (g : List No → Option (List No)) : Nat → List No → List UInt8
 | 0, _ => []
 | k + 1, r => 32 :: (f r ++ (match g r with | some r' => ts f g k r' | none => []))
def wt : Nat → List No → List UInt8
 | 0, _ => []
 | _ + 1, [] => []
 | d + 1, n :: r => if n.o = 0 then wr n.v else if n.o = 1 then nm n.v.n else 40 :: (wd n.o ++ (ts (wt d) (ex d) (pa n.o) r ++ [41]))
theorem wt_cons (d : Nat) (n : No) (r : List No) : wt (d + 1) (n :: r) = if n.o = 0 then wr n.v else if n.o = 1 then nm n.v.n else 40 :: (wd n.o ++ (ts (wt d) (ex d) (pa n.o) r ++ [41])) := rfl
theorem ts_succ {f : List No → List UInt8} {g : List No → Option (List No)} {k : Nat} {r r' : List No} (h : g r = some r') : ts f g (k + 1) r = 32 :: (f r ++ ts f g k r') := by
 show 32 :: (f r ++ (match g r with | some r' => ts f g k r' | none => [])) = _
 rw [h]
def Takes (f : List No → Option (List No)) : Prop := ∀ l r, f l = some r → ∃ c, l = c ++ r ∧ c ≠ [] ∧ ∀ r2, f (c ++ r2) = some r2
theorem it_takes {f : List No → Option (List No)} (hf : Takes f) : ∀ k l r, it f k l = some r → ∃ c, l = c ++ r ∧ k ≤ c.length ∧ ∀ r2, it f k (c ++ r2) = some r2
 | 0, l, r, h => ⟨[], by rw [it_zero] at h; exact Option.some.inj h, Nat.le_refl 0, fun r2 => rfl⟩
 | k + 1, l, r, h => by
   rw [it_succ] at h
   obtain ⟨r1, h1, h2⟩ := Option.bind_eq_some_iff.1 h
   obtain ⟨c, rfl, hn, hc⟩ := hf _ _ h1
   obtain ⟨c2, rfl, hk, hc2⟩ := it_takes hf k _ _ h2
   refine ⟨c ++ c2, by rw [List.append_assoc], ?_, fun r2 => ?_⟩
   · have : 0 < c.length := List.length_pos_iff.2 hn
     rw [List.length_append]; omega
   · rw [List.append_assoc, it_succ, hc]; exact hc2 r2
theorem ex_takes : ∀ d, Takes (ex d)
 | 0 => fun l r h => by cases h
 | d + 1 => fun l r h => by
   cases l with
   | nil => cases h
   | cons n t =>
     rw [ex_cons] at h
     split at h
     · rename_i hn
       obtain ⟨c, rfl, _, hc⟩ := it_takes (ex_takes d) _ _ _ h
       exact ⟨n :: c, rfl, by simp, fun r2 => by rw [List.cons_append, ex_cons, if_pos hn]; exact hc r2⟩
     · cases h
theorem ex_len {d : Nat} {l r : List No} (h : ex d l = some r) : r.length < l.length ∧ r = l.drop (l.length - r.length) := by
 obtain ⟨c, rfl, hn, _⟩ := ex_takes d l r h
 have : 0 < c.length := List.length_pos_iff.2 hn
 refine ⟨by rw [List.length_append]; omega, ?_⟩
 rw [List.length_append, show c.length + r.length - r.length = c.length by omega, List.drop_left]
theorem it_mono {f g : List No → Option (List No)} (h : ∀ l r, f l = some r → g l = some r) : ∀ k l r, it f k l = some r → it g k l = some r
 | 0, _, _, e => e
 | k + 1, l, r, e => by
   rw [it_succ] at e ⊢
   obtain ⟨r1, h1, h2⟩ := Option.bind_eq_some_iff.1 e
   rw [h _ _ h1]; exact it_mono h k _ _ h2
theorem ex_mono : ∀ d l r, ex d l = some r → ex (d + 1) l = some r
 | 0, _, _, h => by cases h
 | d + 1, l, r, h => by
   cases l with
   | nil => cases h
   | cons n t =>
     rw [ex_cons] at h ⊢
     split at h
     · rename_i hn
       rw [if_pos hn]; exact it_mono (ex_mono d) _ _ _ h
     · cases h
theorem ex_more {d e : Nat} {l r : List No} (h : ex d l = some r) (hd : d ≤ e) : ex e l = some r := by
 obtain ⟨k, rfl⟩ : ∃ k, e = d + k := ⟨e - d, by omega⟩
 clear hd
 induction k with
 | zero => exact h
 | succ k ih => exact ex_mono _ _ _ ih
theorem it_each {f : List No → Option (List No)} (hf : Takes f) (hi : ∀ l r, f l = some r → ∀ j, j < l.length - r.length → ∃ r', f (l.drop j) = some r') :
 ∀ k l r, it f k l = some r → ∀ j, j < l.length - r.length → ∃ r', f (l.drop j) = some r'
 | 0, l, r, h, j, hj => by
   rw [it_zero] at h
   obtain rfl := Option.some.inj h
   omega
 | k + 1, l, r, h, j, hj => by
   rw [it_succ] at h
   obtain ⟨r1, h1, h2⟩ := Option.bind_eq_some_iff.1 h
   by_cases hlt : j < l.length - r1.length
   · exact hi _ _ h1 j hlt
   · obtain ⟨c, rfl, _, _⟩ := hf _ _ h1
     rw [List.length_append] at hj hlt
     obtain ⟨r', h'⟩ := it_each hf hi k r1 r h2 (j - c.length) (by omega)
     refine ⟨r', ?_⟩
     rw [List.drop_append, List.drop_of_length_le (show c.length ≤ j by omega)]; exact h'
theorem ex_each : ∀ d l r, ex d l = some r → ∀ j, j < l.length - r.length → ∃ r', ex d (l.drop j) = some r'
 | 0, _, _, h, _, _ => by cases h
 | d + 1, l, r, h, j, hj => by
   cases l with
   | nil => cases h
   | cons n t =>
     cases j with
     | zero => exact ⟨r, h⟩
     | succ j =>
       rw [ex_cons] at h
       split at h
       · obtain ⟨r', h'⟩ := it_each (ex_takes d) (ex_each d) _ _ _ h j (by simp at hj; omega)
         exact ⟨r', ex_mono _ _ _ h'⟩
       · cases h
theorem ts_max {f : List No → List UInt8} {g : List No → Option (List No)} (hg : Takes g) (h : ∀ l r, g l = some r → (f l).length + 1 + 12300 * r.length ≤ 12300 * l.length) :
 ∀ k l r, it g k l = some r → (ts f g k l).length + 12300 * r.length ≤ 12300 * l.length
 | 0, l, r, e => by
   rw [it_zero] at e
   obtain rfl := Option.some.inj e
   show 0 + _ ≤ _
   omega
 | k + 1, l, r, e => by
   rw [it_succ] at e
   obtain ⟨r1, h1, h2⟩ := Option.bind_eq_some_iff.1 e
   have h3 := h _ _ h1
   have h4 := ts_max hg h k _ _ h2
   rw [ts_succ h1, List.length_cons, List.length_append]; omega
theorem wt_max : ∀ d l r, ex d l = some r → (wt d l).length + 1 + 12300 * r.length ≤ 12300 * l.length
 | 0, _, _, h => by cases h
 | d + 1, l, r, h => by
   cases l with
   | nil => cases h
   | cons n t =>
     rw [ex_cons] at h
     split at h
     · rename_i hn
       rw [wt_cons, List.length_cons]
       have h1 := ts_max (ex_takes d) (wt_max d) _ _ _ h
       rcases rn_cases hn with ⟨h0, hv⟩ | ⟨h0, _, hv⟩ | ⟨h0, _⟩
       · rw [if_pos h0]
         have := wr_le hv
         omega
       · rw [if_neg (by omega), if_pos h0]
         have := nm_in hv
         omega
       · rw [if_neg (by omega), if_neg (by omega)]
         have := kind_in h0
         simp; omega
     · cases h
def nz : No := ⟨0, vz⟩
def bl : List UInt8 → Nat
 | [] => 0
 | c :: t => if c = 32 then bl t + 1 else 0
def sh : List UInt8 → Nat
 | [] => 2
 | c :: _ => if c = 41 then 0 else 12
def le (c : UInt8) : Bool := decide (97 ≤ c.toNat ∧ c.toNat ≤ 122)
def fl (t : List UInt8) : List UInt8 := t.takeWhile le
def isK (w : List UInt8) (i : Nat) : Bool := decide (2 ≤ i ∧ wdl[i]! = w)
def isN (w : List UInt8) (i : Nat) : Bool := decide (nml[i]! = w)
def kf (w : List UInt8) : Option Nat := (List.range 30).find? (isK w)
def nf (w : List UInt8) : Option Nat := (List.range 5).find? (isN w)
def ck (t : List UInt8) : No × Nat × Nat := match kf (fl t.tail) with
 | none => (nz, 1, 10)
 | some i => (⟨(i : Int), vz⟩, 1 + (fl t.tail).length, 0)
def cn (t : List UInt8) : No × Nat × Nat := match nf (fl t) with
 | none => (nz, 0, 10)
 | some i => (⟨1, nv (i : Int)⟩, (fl t).length, 0)
def cv (t : List UInt8) : No × Nat × Nat := if (pz t).2.2 = 10 then cn t else if (pz t).2.2 ≠ 0 then (nz, 0, (pz t).2.2) else (⟨0, (pz t).1⟩, (pz t).2.1, 0)
def cp (t : List UInt8) (b w : Nat) : No × Nat × Nat :=
 if t = [] then (nz, 0, 2) else if b = 400 then (nz, 0, 22) else if 24 < w then (nz, 0, 23) else if 0 < w ∧ t.head? = some 41 then (nz, 0, 12) else if t.head? = some 40 then ck t else cv t
structure St where
 a : List No
 st : List Nat
 t : List UInt8
 i : Nat
def push (n : No) (m : Nat) (more : List Nat) : List Nat := if 0 < pa n.o then pa n.o :: m :: more else m :: more
def step (s : St) : Sum St (List No × Nat × Nat) :=
 match s.st with
 | [] => .inr ([], s.i + bl s.t, 10)
 | m :: more =>
   if 0 < m then
    if (cp (s.t.drop (bl s.t)) s.a.length more.length).2.2 ≠ 0 then .inr ([], s.i + bl s.t + (cp (s.t.drop (bl s.t)) s.a.length more.length).2.1, (cp (s.t.drop (bl s.t)) s.a.length more.length).2.2)
    else .inl ⟨s.a ++ [(cp (s.t.drop (bl s.t)) s.a.length more.length).1], push (cp (s.t.drop (bl s.t)) s.a.length more.length).1 (m - 1) more, (s.t.drop (bl s.t)).drop (cp (s.t.drop (bl s.t)) s.a.length more.length).2.1, s.i + bl s.t + (cp (s.t.drop (bl s.t)) s.a.length more.length).2.1⟩
   else if more ≠ [] then
    if sh (s.t.drop (bl s.t)) ≠ 0 then .inr ([], s.i + bl s.t, sh (s.t.drop (bl s.t))) else .inl ⟨s.a, more, (s.t.drop (bl s.t)).drop 1, s.i + bl s.t + 1⟩
   else if s.t.drop (bl s.t) ≠ [] then .inr ([], s.i + bl s.t, 10) else .inr (s.a, 0, 0)
def run : Nat → St → List No × Nat × Nat
 | 0, _ => ([], 0, 0)
 | f + 1, s => match step s with
   | .inr r => r
   | .inl s' => run f s'
def runs (s : St) : List No × Nat × Nat := run (s.t.length + 1) s
def ps (s : List UInt8) : List No × Nat × Nat := if 4096 < s.length then ([], 0, 3) else runs ⟨[], [1], s, 0⟩
section
variable {l : List UInt8} {acc : List No} {m k b z e : Nat} {more : List Nat} {n : No}
end
def fin : List Nat → List No → Option (List No)
 | [], y => some y
 | m :: more, y => (it (ex (25 - more.length)) m y).bind (fin more)
end Go.Proofs.YtimllihegnokeaaGreatDoor.Ex
namespace Go.Proofs.YtimllihegnokeaaGreatDoor.Ex
open Go.ChangeShapes Go.WideShapes Go.ChangeAt Go.RowKit Ov Va
def kindsData : DataW Unit := .agg ((List.range 30).map fun i => .agg [.lit (.string wdl[i]!), .lit (.int .i64 ((ptl[i]! : Nat) : Int))])
def namesData : DataW Unit := .agg ((List.range 5).map fun i => .lit (.string nml[i]!))
structure KN (w : World) : Prop where
 word : ∀ i, i < 30 → w.cell? ⟨1, 2 * i, none⟩ = some (.string (tx wdl[i]!))
 parts : ∀ i, i < 30 → w.cell? ⟨1, 2 * i + 1, none⟩ = some (.int .i64 ((ptl[i]! : Nat) : Int))
theorem KN.next {w w' : World} (h : KN w) (k : Below w.heap.size w w') : KN w' := by
 have h1 := block_lt_of_cell (h.word 0 (by omega))
 exact ⟨fun i hi => (k.cell (p := ⟨1, 2 * i, none⟩) h1).trans (h.word i hi), fun i hi => (k.cell (p := ⟨1, 2 * i + 1, none⟩) h1).trans (h.parts i hi)⟩
theorem KN.drewN {w : World} (h : KN w) (m : Nat) : KN (w.drewN m) := ⟨h.word, h.parts⟩
structure KM (w : World) : Prop extends KN w where
 name : ∀ i, i < 5 → w.cell? ⟨0, i, none⟩ = some (.string (tx nml[i]!))
instance {w : World} : CoeOut (KM w) (KN w) := ⟨KM.toKN⟩
theorem KM.next {w w' : World} (h : KM w) (k : Below w.heap.size w w') : KM w' := by
 have h2 := block_lt_of_cell (h.name 0 (by omega))
 exact ⟨h.toKN.next k, fun i hi => (k.cell (p := ⟨0, i, none⟩) h2).trans (h.name i hi)⟩
theorem KM.lt {w : World} (h : KM w) : 1 < w.heap.size ∧ 0 < w.heap.size := ⟨block_lt_of_cell (h.word 0 (by omega)), block_lt_of_cell (h.name 0 (by omega))⟩
theorem KM.drewN {w : World} (h : KM w) (m : Nat) : KM (w.drewN m) := ⟨h.toKN.drewN m, h.name⟩
theorem text_eq {s : ByteArray} {l : List UInt8} (h : s.data.toList = l) : s = tx l := tx_ext h
theorem at_take {cs : List Value} {i : Nat} {v : Value} (h : (cs.drop i).take 1 = [v]) : cs[i]? = some v := by
 have := congrArg (·[0]?) h
 simpa [List.getElem?_take, List.getElem?_drop] using this
set_option maxRecDepth 100000 in
theorem kinds_met {w : World} {l : List (String × DataW Unit)} {d : DataW Unit} (hd : d = kindsData) (hm : ("stook/expr.kinds", d) ∈ l) (h : laidMet Tryz.prog l w) :
 (∀ i, i < 30 → w.cell? ⟨1, 2 * i, none⟩ = some (.string (tx wdl[i]!))) ∧ ∀ i, i < 30 → w.cell? ⟨1, 2 * i + 1, none⟩ = some (.int .i64 ((ptl[i]! : Nat) : Int)) := by
 obtain ⟨_, hv, _⟩ := h
 obtain ⟨g, t, cs, fuel, p, hg, ht, hvar, hr⟩ := laid_reads hv _ d hm
 obtain rfl := Option.some.inj ((show Tryz.prog.globalNamed "stook/expr.kinds" = some 1 by kernel_rfl).symm.trans hg)
 obtain rfl := Option.some.inj ((show (Tryz.prog.globals[1]?).map (·.type) = some 174 by kernel_rfl).symm.trans ht)
 have hcell := World.var?_cell (show Tryz.prog.globalNamed "stook/expr.kinds" = some 1 by kernel_rfl) hvar
 have cK : Tryz.prog.cellsOf 173 = 2 := by kernel_rfl
 have c1 : Tryz.prog.cellsOf 9 = 1 := by kernel_rfl
 have c2 : Tryz.prog.cellsOf 3 = 1 := by kernel_rfl
 obtain ⟨xs, m, _, hx, hlen, hxl, hi⟩ := DataW.trod_array Tryz.underlying174 hr
 rw [hd] at hx
 simp only [Prod.mk.injEq] at hx
 have hxs : xs.map (·.1) = (List.range 30).map fun i => (DataW.agg [.lit (.string wdl[i]!), .lit (.int .i64 ((ptl[i]! : Nat) : Int))] : DataW Unit) := by
  have := hx.1
  unfold kindsData at this
  injection this with this
  exact this.symm
 have key : ∀ i, i < 30 → cs.toList[2 * i]? = some (.string (tx wdl[i]!)) ∧ cs.toList[2 * i + 1]? = some (.int .i64 ((ptl[i]! : Nat) : Int)) := by
  intro i hlt
  have h1 := hi i hlt
  rw [cK] at h1
  have h2 : xs[i]? = some (xs[i]'(by omega)) := List.getElem?_eq_getElem (by omega)
  rw [h2] at h1
  have h3 : (xs[i]'(by omega)).1 = .agg [.lit (.string wdl[i]!), .lit (.int .i64 ((ptl[i]! : Nat) : Int))] := by
   have := congrArg (·[i]?) hxs
   simp only [List.getElem?_map, h2, Option.map_some] at this
   rw [List.getElem?_range hlt] at this
   exact Option.some.inj this
  obtain ⟨y0, y1, m', hy, _, g0, g1⟩ := trod_struct2 Tryz.underlying173 h1
  simp only [c1, c2] at g0 g1
  obtain ⟨s, e0, rfl, _⟩ := DataW.trod_string Tryz.underlying9 g0
  obtain ⟨n, e1, rfl, _⟩ := DataW.trod_int Tryz.underlying3 g1
  rw [hy] at h3
  simp only [DataW.agg.injEq, List.cons.injEq, DataW.lit.injEq, Lit.string.injEq, Lit.int.injEq, and_true, true_and] at h3
  obtain ⟨hs, hn⟩ := h3
  have f0 := at_take (cs := (cs.toList.drop (i * 2)).take 2) e0
  have f1 := at_take (cs := (cs.toList.drop (i * 2)).take 2) e1
  rw [text_eq hs] at f0
  rw [hn] at f1
  rw [List.getElem?_take, List.getElem?_drop] at f0 f1
  rw [show 2 * i = i * 2 + 0 by omega, show i * 2 + 0 + 1 = i * 2 + 1 by omega]
  exact ⟨by simpa using f0, by simpa using f1⟩
 exact ⟨fun i hlt => by rw [hcell, ← Array.getElem?_toList]; exact (key i hlt).1, fun i hlt => by rw [hcell, ← Array.getElem?_toList]; exact (key i hlt).2⟩
set_option maxRecDepth 100000 in
theorem names_met {w : World} {l : List (String × DataW Unit)} {d : DataW Unit} (hd : d = namesData) (hm : ("stook/expr.names", d) ∈ l) (h : laidMet Tryz.prog l w) :
 ∀ i, i < 5 → w.cell? ⟨0, i, none⟩ = some (.string (tx nml[i]!)) := by
 obtain ⟨_, hv, _⟩ := h
 obtain ⟨g, t, cs, fuel, p, hg, ht, hvar, hr⟩ := laid_reads hv _ d hm
 obtain rfl := Option.some.inj ((show Tryz.prog.globalNamed "stook/expr.names" = some 0 by kernel_rfl).symm.trans hg)
 obtain rfl := Option.some.inj ((show (Tryz.prog.globals[0]?).map (·.type) = some 170 by kernel_rfl).symm.trans ht)
 have hcell := World.var?_cell (show Tryz.prog.globalNamed "stook/expr.names" = some 0 by kernel_rfl) hvar
 have c1 : Tryz.prog.cellsOf 9 = 1 := by kernel_rfl
 obtain ⟨xs, m, _, hx, hlen, hxl, hi⟩ := DataW.trod_array Tryz.underlying170 hr
 rw [hd] at hx
 simp only [Prod.mk.injEq] at hx
 have hxs : xs.map (·.1) = (List.range 5).map fun i => (DataW.lit (.string nml[i]!) : DataW Unit) := by
  have := hx.1
  unfold namesData at this
  injection this with this
  exact this.symm
 intro i hlt
 have h1 := hi i hlt
 rw [c1] at h1
 have h2 : xs[i]? = some (xs[i]'(by omega)) := List.getElem?_eq_getElem (by omega)
 rw [h2] at h1
 have h3 : (xs[i]'(by omega)).1 = .lit (.string nml[i]!) := by
  have := congrArg (·[i]?) hxs
  simp only [List.getElem?_map, h2, Option.map_some] at this
  rw [List.getElem?_range hlt] at this
  exact Option.some.inj this
 obtain ⟨s, e0, hy, _⟩ := DataW.trod_string Tryz.underlying9 h1
 rw [hy] at h3
 simp only [DataW.lit.injEq, Lit.string.injEq] at h3
 have f0 := at_take e0
 rw [text_eq h3, Nat.mul_one] at f0
 rw [hcell, ← Array.getElem?_toList]; exact f0
theorem kn_met {w : World} {l : List (String × DataW Unit)} {d d' : DataW Unit} (hd : d = kindsData) (hd' : d' = namesData) (hm : ("stook/expr.kinds", d) ∈ l) (hm' : ("stook/expr.names", d') ∈ l) (h : laidMet Tryz.prog l w) : KM w :=
 ⟨⟨(kinds_met hd hm h).1, (kinds_met hd hm h).2⟩, names_met hd' hm' h⟩
end Go.Proofs.YtimllihegnokeaaGreatDoor.Ex
namespace Go.Proofs.YtimllihegnokeaaGreatDoor.Ov
open Go.ChangeShapes Go.WideShapes Go.ChangeAt Go.RowKit
structure Blk (w : World) (b : Nat) (vs : List Value) : Prop where
 c : ∀ (i : Nat) (v : Value), vs[i]? = some v → w.cell? ⟨b, i, none⟩ = some v
 f : ∀ (i : Nat) (v : Value), vs[i]? = some v → w.frozen? ⟨b, i, none⟩ = false
 lt : b < w.heap.size
section
variable {w w' : World} {b : Nat} {vs : List Value}
theorem Blk.next (h : Blk w b vs) (k : Below w.heap.size w w') : Blk w' b vs :=
 ⟨fun i v e => (k.cell (p := ⟨b, i, none⟩) h.lt).trans (h.c i v e), fun i v e => (k.frozen (p := ⟨b, i, none⟩) h.lt).trans (h.f i v e), Nat.lt_of_lt_of_le h.lt k.size⟩
theorem Blk.old (h : Blk w b vs) (o : Obj) : Blk (w.alloc o) b vs := h.next ((Below.refl _ _).alloc (Nat.le_refl _) _)
theorem Blk.drew (h : Blk w b vs) : Blk w.drew b vs := ⟨h.c, h.f, h.lt⟩
theorem Blk.over (h : Blk w b vs) (q : Over w) : Blk q.val b vs := h.next q.property
theorem Blk.put (h : Blk w b vs) {c : Nat} (hc : c ≠ b) (o : Nat) (z : Value) : Blk (w.setCell ⟨c, o, none⟩ z) b vs :=
 ⟨fun i v e => by rw [World.cell?_setCell_other _ _ _ _ (fun e => hc (congrArg Addr.block e))]; exact h.c i v e,
  fun i v e => by rw [World.frozen?_setCell]; exact h.f i v e, by simpa using h.lt⟩
theorem Blk.set (h : Blk w b vs) (o : Nat) (z : Value) : Blk (w.setCell ⟨b, o, none⟩ z) b (vs.set o z) := by
 refine ⟨fun i v e => ?_, fun i v e => ?_, by simpa using h.lt⟩
 · by_cases ho : o = i
   · subst ho
     have hlt : o < vs.length := by
      have := (List.getElem?_eq_some_iff.1 e).1
      simpa using this
     rw [List.getElem?_set_self hlt] at e
     obtain rfl := Option.some.inj e
     exact World.cell?_setCell_same _ _ _ (h.c o vs[o] (List.getElem?_eq_getElem hlt))
   · rw [List.getElem?_set_ne ho] at e
     rw [World.cell?_setCell_other _ _ _ _ (fun e => ho (by injection e))]
     exact h.c i v e
 · rw [World.frozen?_setCell]
   by_cases ho : o = i
   · subst ho
     have hlt : o < vs.length := by
      have := (List.getElem?_eq_some_iff.1 e).1
      simpa using this
     exact h.f o vs[o] (List.getElem?_eq_getElem hlt)
   · rw [List.getElem?_set_ne ho] at e
     exact h.f i v e
theorem Blk.made (w : World) (t : TypeId) (vs : List Value) {n : Nat} (hn : w.heap.size = n) : Blk (w.alloc (.cells vs.toArray t)) n vs := by
 subst hn
 exact ⟨fun i v e => by simpa [World.cell?_alloc_new] using e, fun i v _ => by simp [World.frozen?_alloc_new], by simp⟩
theorem Blk.cast {us : List Value} (h : Blk w b vs) (e : vs = us) : Blk w b us := e ▸ h
end
theorem box1 (w : World) (a : Obj) : Below w.heap.size w (w.alloc a) := (Below.refl _ _).alloc (Nat.le_refl _) _
theorem box2 (w : World) (a b : Obj) : Below w.heap.size w ((w.alloc a).alloc b) := (box1 w a).alloc (by simp) _
theorem box3 (w : World) (a b c : Obj) : Below w.heap.size w (((w.alloc a).alloc b).alloc c) := (box2 w a b).alloc (by simp; omega) _
theorem box4 (w : World) (a b c d : Obj) : Below w.heap.size w ((((w.alloc a).alloc b).alloc c).alloc d) := (box3 w a b c).alloc (by simp; omega) _
end Go.Proofs.YtimllihegnokeaaGreatDoor.Ov
namespace Go.Proofs.YtimllihegnokeaaGreatDoor
open Go
theorem ck5 {w : World} {b : Nat} {x0 x1 x2 x3 x4 : Value} {t : List Value} (h : Ov.Blk w b (x0 :: x1 :: x2 :: x3 :: x4 :: t)) : w.cell? ⟨b, 0, none⟩ = some x0 ∧ w.cell? ⟨b, 1, none⟩ = some x1 ∧ w.cell? ⟨b, 2, none⟩ = some x2 ∧ w.cell? ⟨b, 3, none⟩ = some x3 ∧ w.cell? ⟨b, 4, none⟩ = some x4 :=
 ⟨h.c 0 _ rfl, h.c 1 _ rfl, h.c 2 _ rfl, h.c 3 _ rfl, h.c 4 _ rfl⟩
theorem ck6 {w : World} {b : Nat} {x0 x1 x2 x3 x4 x5 : Value} {t : List Value} (h : Ov.Blk w b (x0 :: x1 :: x2 :: x3 :: x4 :: x5 :: t)) : w.cell? ⟨b, 0, none⟩ = some x0 ∧ w.cell? ⟨b, 1, none⟩ = some x1 ∧ w.cell? ⟨b, 2, none⟩ = some x2 ∧ w.cell? ⟨b, 3, none⟩ = some x3 ∧ w.cell? ⟨b, 4, none⟩ = some x4 ∧ w.cell? ⟨b, 5, none⟩ = some x5 :=
 ⟨h.c 0 _ rfl, h.c 1 _ rfl, h.c 2 _ rfl, h.c 3 _ rfl, h.c 4 _ rfl, h.c 5 _ rfl⟩
theorem ck7 {w : World} {b : Nat} {x0 x1 x2 x3 x4 x5 x6 : Value} {t : List Value} (h : Ov.Blk w b (x0 :: x1 :: x2 :: x3 :: x4 :: x5 :: x6 :: t)) : w.cell? ⟨b, 0, none⟩ = some x0 ∧ w.cell? ⟨b, 1, none⟩ = some x1 ∧ w.cell? ⟨b, 2, none⟩ = some x2 ∧ w.cell? ⟨b, 3, none⟩ = some x3 ∧ w.cell? ⟨b, 4, none⟩ = some x4 ∧ w.cell? ⟨b, 5, none⟩ = some x5 ∧ w.cell? ⟨b, 6, none⟩ = some x6 :=
 ⟨h.c 0 _ rfl, h.c 1 _ rfl, h.c 2 _ rfl, h.c 3 _ rfl, h.c 4 _ rfl, h.c 5 _ rfl, h.c 6 _ rfl⟩
theorem ck11 {w : World} {b : Nat} {x0 x1 x2 x3 x4 x5 x6 x7 x8 x9 x10 : Value} {t : List Value} (h : Ov.Blk w b (x0 :: x1 :: x2 :: x3 :: x4 :: x5 :: x6 :: x7 :: x8 :: x9 :: x10 :: t)) : w.cell? ⟨b, 0, none⟩ = some x0 ∧ w.cell? ⟨b, 1, none⟩ = some x1 ∧ w.cell? ⟨b, 2, none⟩ = some x2 ∧ w.cell? ⟨b, 3, none⟩ = some x3 ∧ w.cell? ⟨b, 4, none⟩ = some x4 ∧ w.cell? ⟨b, 5, none⟩ = some x5 ∧ w.cell? ⟨b, 6, none⟩ = some x6 ∧ w.cell? ⟨b, 7, none⟩ = some x7 ∧ w.cell? ⟨b, 8, none⟩ = some x8 ∧ w.cell? ⟨b, 9, none⟩ = some x9 ∧ w.cell? ⟨b, 10, none⟩ = some x10 :=
 ⟨h.c 0 _ rfl, h.c 1 _ rfl, h.c 2 _ rfl, h.c 3 _ rfl, h.c 4 _ rfl, h.c 5 _ rfl, h.c 6 _ rfl, h.c 7 _ rfl, h.c 8 _ rfl, h.c 9 _ rfl, h.c 10 _ rfl⟩
end Go.Proofs.YtimllihegnokeaaGreatDoor
namespace Go.Proofs.YtimllihegnokeaaGreatDoor.Ga
open Go.ChangeShapes Go.WideShapes Go.ChangeAt Go.RowKit Ov
theorem bcell {W w1 : World} (hb : Below W.heap.size W w1) : (∀ b o, b < W.heap.size → w1.cell? ⟨b, o, none⟩ = W.cell? ⟨b, o, none⟩) ∧ (∀ b o, b < W.heap.size → w1.frozen? ⟨b, o, none⟩ = W.frozen? ⟨b, o, none⟩) :=
 ⟨fun b o h => hb.cell (p := ⟨b, o, none⟩) h, fun b o h => hb.frozen (p := ⟨b, o, none⟩) h⟩
theorem below1 (w : World) (a : Obj) : Below w.heap.size w (w.alloc a) := (Below.refl _ _).alloc (Nat.le_refl _) _
theorem below2 (w : World) (a b : Obj) : Below w.heap.size w ((w.alloc a).alloc b) := (below1 w a).alloc (by simp) _
theorem fits_any (n : Int) (w : World) : Calls Tryz.prog 123 #[.int .i64 n] w fun e w' => e = .returned (.bool (fb n)) ∧ w = w' := by
 by_cases h1 : -16777216 ≤ n
 · by_cases h2 : n ≤ 16777216
   · have e : fb n = true := fb_of h1 h2
     rw [e]; clear e
     go_enter Tryz.func123, Tryz.ntmps123
     go_wp2_with (fail)
     go_ret
     exact ⟨rfl, rfl⟩
   · have e : fb n = false := decide_eq_false (by omega)
     rw [e]; clear e
     go_enter Tryz.func123, Tryz.ntmps123
     go_wp2_with (fail)
     go_ret
     exact ⟨rfl, rfl⟩
 · have e : fb n = false := decide_eq_false (by omega)
   rw [e]; clear e
   go_enter Tryz.func123, Tryz.ntmps123
   go_wp2_with (fail)
   go_ret
   exact ⟨rfl, rfl⟩
theorem right_any (x y : Int) (w : World) : Calls Tryz.prog 86 #[.agg #[.int .i64 x, .int .i64 y]] w fun e w' => e = .returned (.bool (rb ⟨x, y⟩)) ∧ Below w.heap.size w w' := by
 have e : rb ⟨x, y⟩ = (fb x && fb y) := rfl
 rw [e]; clear e
 have HX := Lib.hid (fits_any x)
 have HY := Lib.hid (fits_any y)
 generalize fb x = p at *
 generalize fb y = q at *
 cases p
 · go_enter Tryz.func86, Tryz.ntmps86
   go_wp2_with (fail)
   refine (HX.out _).mono ?_
   rintro e w' ⟨rfl, rfl⟩
   go_wp2_with (fail)
   go_ret
   exact ⟨rfl, (Below.refl _ _).alloc (Nat.le_refl _) _⟩
 · go_enter Tryz.func86, Tryz.ntmps86
   go_wp2_with (fail)
   refine (HX.out _).mono ?_
   rintro e w' ⟨rfl, rfl⟩
   go_wp2_with (fail)
   refine (HY.out _).mono ?_
   rintro e w' ⟨rfl, rfl⟩
   go_wp2_with (fail)
   go_ret
   exact ⟨rfl, (Below.refl _ _).alloc (Nat.le_refl _) _⟩
theorem both_any (x y u v : Int) (w : World) : Calls Tryz.prog 129 #[.agg #[.int .i64 x, .int .i64 y], .agg #[.int .i64 u, .int .i64 v]] w fun e w' => e = .returned (.bool (rb ⟨x, y⟩ && rb ⟨u, v⟩)) ∧ Below w.heap.size w w' := by
 have HX := Lib.hid (right_any x y)
 have HY := Lib.hid (right_any u v)
 generalize rb ⟨x, y⟩ = p at *
 generalize rb ⟨u, v⟩ = q at *
 cases p
 · go_enter Tryz.func129, Tryz.ntmps129
   go_wp2_with (fail)
   refine (HX.out _).mono ?_
   rintro e w1 ⟨rfl, hb⟩
   have HB := Lib.hid hb; clear hb
   go_wp2_with (fail)
   go_ret
   exact ⟨rfl, Below.next (((Below.refl _ _).alloc (Nat.le_refl _) _).alloc (by simp) _) HB.out⟩
 · go_enter Tryz.func129, Tryz.ntmps129
   go_wp2_with (fail)
   refine (HX.out _).mono ?_
   rintro e w1 ⟨rfl, hb⟩
   have HB := Lib.hid hb
   obtain ⟨hc, hf⟩ := bcell hb
   clear hb
   go_wp2_with (fail)
   refine (HY.out _).mono ?_
   rintro e w2 ⟨rfl, hb⟩
   have HB2 := Lib.hid hb; clear hb
   clear hc hf
   go_wp2_with (fail)
   go_ret
   exact ⟨rfl, Below.next (((Below.refl _ _).alloc (Nat.le_refl _) _).alloc (by simp) _) (Below.next HB.out HB2.out)⟩
theorem less_any (x y u v : Int) (w : World) : Calls Tryz.prog 187 #[.agg #[.int .i64 x, .int .i64 y], .agg #[.int .i64 u, .int .i64 v]] w (Gives (.bool (decide (x < u ∨ x = u ∧ y < v))) w) := by
 by_cases h1 : x = u
 · by_cases h2 : y < v
   · have hd : decide (x < u ∨ x = u ∧ y < v) = true := decide_eq_true (.inr ⟨h1, h2⟩)
     rw [hd]; clear hd
     subst h1
     go_enter Tryz.func187, Tryz.ntmps187
     go_wp2_with (fail)
     go_ret
     exact ⟨rfl, below2 w _ _⟩
   · have hd : decide (x < u ∨ x = u ∧ y < v) = false := decide_eq_false (by omega)
     rw [hd]; clear hd
     subst h1
     go_enter Tryz.func187, Tryz.ntmps187
     go_wp2_with (fail)
     go_ret
     exact ⟨rfl, below2 w _ _⟩
 · have hne : (x == u) = false := beq_eq_false_iff_ne.2 h1
   by_cases h2 : x < u
   · have hd : decide (x < u ∨ x = u ∧ y < v) = true := decide_eq_true (.inl h2)
     rw [hd]; clear hd h1
     go_enter Tryz.func187, Tryz.ntmps187
     go_wp2_with (fail)
     go_ret
     exact ⟨rfl, below2 w _ _⟩
   · have hd : decide (x < u ∨ x = u ∧ y < v) = false := decide_eq_false (by omega)
     rw [hd]; clear hd h1
     go_enter Tryz.func187, Tryz.ntmps187
     go_wp2_with (fail)
     go_ret
     exact ⟨rfl, below2 w _ _⟩
end Go.Proofs.YtimllihegnokeaaGreatDoor.Ga
namespace Go.Proofs.YtimllihegnokeaaGreatDoor.Va
open Go.ChangeShapes Go.WideShapes Go.ChangeAt Go.RowKit Ov
theorem number_any (n : Int) (w : World) : Calls Tryz.prog 83 #[.int .i64 n] w (Gives (.agg #[.int .i64 0, .int .i64 n, .string ⟨#[]⟩, .int .i64 0, .int .i64 0]) w) := by
 go_enter Tryz.func83, Tryz.ntmps83
 go_wp2_with (fail)
 refine bodyPost_ret (v := .agg #[.int .i64 0, .int .i64 n, .string ⟨#[]⟩, .int .i64 0, .int .i64 0]) (by simp [results, Tryz.results83, go_sem]) rfl ⟨rfl, ?_⟩
 exact box1 w _
theorem text_any (s : ByteArray) (w : World) : Calls Tryz.prog 84 #[.string s] w (Gives (.agg #[.int .i64 1, .int .i64 0, .string s, .int .i64 0, .int .i64 0]) w) := by
 go_enter Tryz.func84, Tryz.ntmps84
 go_wp2_with (fail)
 refine bodyPost_ret (v := .agg #[.int .i64 1, .int .i64 0, .string s, .int .i64 0, .int .i64 0]) (by simp [results, Tryz.results84, go_sem]) rfl ⟨rfl, ?_⟩
 exact box1 w _
theorem point_any (x y : Int) (w : World) : Calls Tryz.prog 85 #[.agg #[.int .i64 x, .int .i64 y]] w (Gives (.agg #[.int .i64 2, .int .i64 0, .string ⟨#[]⟩, .int .i64 x, .int .i64 y]) w) := by
 go_enter Tryz.func85, Tryz.ntmps85
 go_wp2_with (fail)
 refine bodyPost_ret (v := .agg #[.int .i64 2, .int .i64 0, .string ⟨#[]⟩, .int .i64 x, .int .i64 y]) (by simp [results, Tryz.results85, go_sem]) rfl ⟨rfl, ?_⟩
 exact box2 w _ _
theorem plain_any (c : UInt8) (w : World) : Calls Tryz.prog 225 #[.int .u8 (c.toNat : Int)] w fun e w' => e = .returned (.bool (pl c)) ∧ w = w' := by
 obtain ⟨m, hm⟩ : ∃ m : Nat, m = c.toNat := ⟨_, rfl⟩
 have he : pl c = decide (32 ≤ m ∧ m ≤ 126 ∧ m ≠ 34 ∧ m ≠ 92) := by rw [hm]; rfl
 have hlt := c.toNat_lt
 rw [he, ← hm]
 rw [← hm] at hlt
 clear he hm
 by_cases h1 : 32 ≤ m
 · by_cases h2 : m ≤ 126
   · by_cases h3 : m = 34
     · subst h3
       go_enter Tryz.func225, Tryz.ntmps225
       go_wp2_with (fail)
       go_ret
       exact ⟨rfl, rfl⟩
     · have n3 : ((m : Int) != 34) = true := by rw [bne_iff_ne]; omega
       by_cases h4 : m = 92
       · subst h4
         go_enter Tryz.func225, Tryz.ntmps225
         go_wp2_with (fail)
         go_ret
         exact ⟨rfl, rfl⟩
       · have n4 : ((m : Int) != 92) = true := by rw [bne_iff_ne]; omega
         have he : decide (32 ≤ m ∧ m ≤ 126 ∧ m ≠ 34 ∧ m ≠ 92) = true := decide_eq_true ⟨h1, h2, h3, h4⟩
         rw [he]; clear he h3 h4
         go_enter Tryz.func225, Tryz.ntmps225
         go_wp2_with (fail)
         go_ret
         exact ⟨rfl, rfl⟩
   · have he : decide (32 ≤ m ∧ m ≤ 126 ∧ m ≠ 34 ∧ m ≠ 92) = false := decide_eq_false (by omega)
     rw [he]; clear he
     go_enter Tryz.func225, Tryz.ntmps225
     go_wp2_with (fail)
     go_ret
     exact ⟨rfl, rfl⟩
 · have he : decide (32 ≤ m ∧ m ≤ 126 ∧ m ≠ 34 ∧ m ≠ 92) = false := decide_eq_false (by omega)
   rw [he]; clear he
   go_enter Tryz.func225, Tryz.ntmps225
   go_wp2_with (fail)
   go_ret
   exact ⟨rfl, rfl⟩
theorem cmpI_any (a b : Int) (w : World) : Calls Tryz.prog 125 #[.int .i64 a, .int .i64 b] w fun e w' => e = .returned (.int .i64 (cI a b)) ∧ w = w' := by
 by_cases h1 : a < b
 · have he : cI a b = -1 := if_pos h1
   rw [he]; clear he
   go_enter Tryz.func125, Tryz.ntmps125
   go_wp2_with (go_in)
   go_ret
   exact ⟨rfl, rfl⟩
 · by_cases h2 : b < a
   · have he : cI a b = 1 := by unfold cI; rw [if_neg h1, if_pos h2]
     rw [he]; clear he
     go_enter Tryz.func125, Tryz.ntmps125
     go_wp2_with (go_in)
     go_ret
     exact ⟨rfl, rfl⟩
   · have he : cI a b = 0 := by unfold cI; rw [if_neg h1, if_neg h2]
     rw [he]; clear he
     go_enter Tryz.func125, Tryz.ntmps125
     go_wp2_with (go_in)
     go_ret
     exact ⟨rfl, rfl⟩
theorem cmpS_any (a b : ByteArray) (w : World) : Calls Tryz.prog 126 #[.string a, .string b] w fun e w' => e = .returned (.int .i64 (cS a.data.toList b.data.toList)) ∧ w = w' := by
 rw [← ByteArray.toList_eq, ← ByteArray.toList_eq]
 rcases less_total a.toList b.toList with h | h | h
 · rw [cS_lt h]
   go_enter Tryz.func126, Tryz.ntmps126
   go_wp2_with (go_in)
   go_ret
   exact ⟨rfl, rfl⟩
 · rw [cS_gt h]
   have h1 := less_asymm h
   have h2 : (a.toList == b.toList) = false := by
    rw [beq_eq_false_iff_ne]; intro e; rw [e, less_irrefl] at h; cases h
   go_enter Tryz.func126, Tryz.ntmps126
   go_wp2_with (go_in)
   go_ret
   exact ⟨rfl, rfl⟩
 · have h1 : Op.bytesLess a.toList b.toList = false := by rw [h]; exact less_irrefl _
   have h2 : (a.toList == b.toList) = true := by rw [beq_iff_eq]; exact h
   have he : cS a.toList b.toList = 0 := by rw [h]; exact cS_self _
   rw [he]; clear he h
   go_enter Tryz.func126, Tryz.ntmps126
   go_wp2_with (go_in)
   go_ret
   exact ⟨rfl, rfl⟩
end Go.Proofs.YtimllihegnokeaaGreatDoor.Va
namespace Go.Proofs.YtimllihegnokeaaGreatDoor.Ov
open Go.ChangeShapes Go.WideShapes Go.ChangeAt Go.RowKit Go.Shelf
end Go.Proofs.YtimllihegnokeaaGreatDoor.Ov
namespace Go.Proofs.YtimllihegnokeaaGreatDoor.Ov
open Go.ChangeShapes Go.WideShapes Go.ChangeAt Go.RowKit
theorem wp_scope_once {P : Program} {a : Act} {w : World} {Q : Exit → Act → World → Prop} {c rest : Code} (l : Nat) (J : Act → World → Prop) (m : Act → World → Nat) (hf : findLabel c l = some (.seq .skip rest))
 (first : Hid (∀ a w, J a w → rest.wp P (Exit.jump l J Q) a w) → c.wp P (Exit.jump l J Q) a w)
 (pass : ∀ a w, J a w → rest.wp P (Exit.jump l (fun a' w' => J a' w' ∧ m a' w' < m a w) Q) a w) : (Code.scope c).wp P Q a w :=
 wp_scope_jumps l J m hf (first (Lib.hid fun a w h => Code.wp_mono (fun e a' w' q => by
  cases e with
  | goto l' => exact ⟨q.1, q.2.1⟩
  | _ => exact q) (pass a w h))) (fun a w h => wp_seq (wp_skip (pass a w h)))
end Go.Proofs.YtimllihegnokeaaGreatDoor.Ov
namespace Go.Proofs.YtimllihegnokeaaGreatDoor.Va
open Go.ChangeShapes Go.WideShapes Go.ChangeAt Go.RowKit Ov Tp
end Go.Proofs.YtimllihegnokeaaGreatDoor.Va
namespace Go.Proofs.YtimllihegnokeaaGreatDoor.Ov
open Go.ChangeShapes Go.WideShapes Go.ChangeAt Go.RowKit Go.Shelf
end Go.Proofs.YtimllihegnokeaaGreatDoor.Ov
namespace Go.Proofs.YtimllihegnokeaaGreatDoor.Ov
open Go.ChangeShapes Go.WideShapes Go.ChangeAt Go.RowKit
theorem run_text {w : World} {b o c : Nat} {l : List UInt8} {m : Nat} (hm : m = l.length) (h : ∀ j (hj : j < l.length), w.cell? ⟨b, o + j, none⟩ = some (.int .u8 (l[j].toNat : Int))) :
 (convert 59 9 (.slice (some ⟨b, o, none⟩) m c)).run Tryz.prog w = .ok (.string (tx l)) w := by
 have := Lib.run_convert_whole (P := Tryz.prog) w 59 5 9 Tryz.underlying59 Tryz.underlying5 Tryz.underlying9 b o (tx l) (fun i hi => by
  rw [h i (by rwa [tx_size] at hi)]; rfl) c
 rw [tx_size, ← hm] at this
 exact this
theorem step_own {P : Program} (w : World) {ops : Array Oper} {o : Oper} {a : Act} {K : Act → World → Prop} {Q : Exit → Act → World → Prop} {E : Prop} (hgd : o.guard = none) (s x : Operand) (t : TypeId)
 (ho : o.op = .call { callee := .builtin .append, args := #[s, x], argTypes := #[t, t] })
 (base : Nat) (e : TypeId) (i : TypeInfo) (z : Value) (size bytes : Nat) (ht : P.underlying t = some (.slice e)) (hi : P.info? e = some i) (hz : i.zero = some z)
 (hsize : i.size = size) (hby : i.bytes = bytes) (hzs : z.cells.size = size) (hsz : 0 < size)
 (v : Value) (n : Nat) (xs : List Value) (hs : a.eval s = v) (hown : w.ownsRow base e size v n xs)
 (ad : Addr) (m c : Nat) (news : List Value) (hx : a.eval x = .slice (some ad) m c) (hl : news.length = m * size) (hnews : ∀ j u, news[j]? = some u → w.cell? (ad.add j) = some u) (h1 : ∀ u ∈ news, u.oneCell' = true)
 (h63 : n + m ≤ maxLen) (hbytes : (n + m) * bytes ≤ 140737488355328) (hbase : base ≤ w.heap.size)
 (h : ∀ v' w', w'.ownsRow base e size v' (n + m) (xs ++ news) → w.grownBy w' v.ownBlock → (v' = .slice none 0 0 ↔ v = .slice none 0 0 ∧ m = 0) → K (a.put o.dst v') w') :
 if Region.wanted o (yielded ops a.tmps) = true then Oper.wp P o a w K Q else E := by
 have hw : Region.wanted o (yielded ops a.tmps) = true := by simp [Region.wanted, hgd]
 rw [if_pos hw]
 exact wp_append_own w s x t ho base e i z size bytes ht hi hz hsize hby hzs hsz v n xs hs hown ad m c news hx hl hnews h1 h63 hbytes hbase h
section
variable {P : Program} {ops : Array Oper} {md : Region.Mode} {C : World → Prop}
def Heads (P : Program) (md : Region.Mode) (ops : Array Oper) (C : World → Prop) (n : Nat) (L : Array Bool → Act → Prop) : Nat → Array Bool → Act → Prop
 | 0, listed, a => L listed a
 | f + 1, listed, a => Region.ready md ops listed ≠ [] ∧ ∀ i ∈ Region.ready md ops listed, i < n ∧ qOp P ops C i (Heads P md ops C n L f (listed.setIfInBounds i true)) a
theorem Heads.any {n g : Nat} {L : Array Bool → Act → Prop} {Q' : Exit → Act → World → Prop} (hL : ∀ listed a w, C w → L listed a → wpAny P md ops Q' g listed a w) :
 ∀ (f : Nat) (listed : Array Bool) (a : Act) (w : World), C w → Heads P md ops C n L f listed a → wpAny P md ops Q' (f + g) listed a w
 | 0, listed, a, w, hw, h => by rw [Nat.zero_add]; exact hL _ _ _ hw h
 | f + 1, listed, a, w, hw, h => by
   rw [show f + 1 + g = (f + g) + 1 by omega]
   exact ⟨fun h0 => absurd h0 h.1, fun i hi => wpOp_of_qOp hw (fun a' w' hw' h' => Heads.any hL f _ a' w' hw' h') (h.2 i hi).2⟩
theorem Heads.first {n i : Nat} {oi : Oper} {v : Value} {L : Array Bool → Act → Prop} (hi : ops[i]? = some oi) (hsel : ∀ (j : Nat) (o : Oper) cs b, ops[j]? = some o → o.op ≠ .select cs b)
 (hs : Region.sinkB md ops n = true) (hc : Region.chainB md ops n = true) (hn : n < ops.size) (hin : i < n) (hdone : ∀ listed a, L listed a → ∀ j ∈ Region.ready md ops listed, n ≤ j) (f : Nat) :
 ∀ (listed : Array Bool) (a : Act), HeadInv md ops n listed →
  (∀ j oj, ops[j]? = some oj → j ≠ i → listed.getD j true = false → (∀ e ∈ oj.after, Region.binds md e = true → e.on ≠ i) → oi.apart ops oj = true) →
  i ∈ Region.ready md ops listed → YieldsIn P ops C oi v a →
  Heads P md ops C n L f (listed.setIfInBounds i true) (a.put oi.dst v) → Heads P md ops C n L (f + 1) listed a := by
 induction f with
 | zero =>
   intro listed a inv hfree hr hy H
   have hun := (mem_ready.1 hr).1
   refine ⟨List.ne_nil_of_mem hr, fun j hj => ?_⟩
   have hjn : j < n := Nat.lt_of_not_le fun h => tail_waits hs hc hn inv _ i rfl hin hun j h hj
   refine ⟨hjn, ?_⟩
   rcases Nat.decEq j i with e | rfl
   · exact absurd (hdone _ _ H j (ready_mono hj e)) (by omega)
   · exact hy.qOp hi H
 | succ f ih =>
   intro listed a inv hfree hr hy H
   have hun := (mem_ready.1 hr).1
   refine ⟨List.ne_nil_of_mem hr, fun j hj => ?_⟩
   have hjn : j < n := Nat.lt_of_not_le fun h => tail_waits hs hc hn inv _ i rfl hin hun j h hj
   refine ⟨hjn, ?_⟩
   rcases Nat.decEq j i with e | rfl
   · obtain ⟨hjun, oj, hoj, hall⟩ := mem_ready.1 hj
     have hnot : ∀ e ∈ oj.after, Region.binds md e = true → e.on ≠ i := by
      intro d hd hb he
      have h1 := hall d hd hb
      rw [he, getD_both hun] at h1
      cases h1
     refine qOp_mono (fun a' h3 => ih (listed.setIfInBounds j true) a' (inv.set hj hjn) ?_ (ready_mono hr (Ne.symm e)) h3.1 ?_)
      (qOp_put hoj (hfree j oj hoj e hjun hnot) (fun cs b => hsel i oi cs b hi) (fun cs b => hsel j oj cs b hoj) hy (H.2 j (ready_mono hj e)).2)
     · intro k ok hk hki hku hno
       refine hfree k ok hk hki ?_ hno
       rcases Nat.decEq j k with d | rfl
       · rwa [getD_set_ne true d] at hku
       · exact hjun
     · rw [Array.setIfInBounds_comm _ _ e]; exact h3.2
   · exact hy.qOp hi H
theorem Heads.lex {n g : Nat} {Lq : Act → Prop} (hsel : Region.noSelect ops = true) (hs : Region.sinkB md ops n = true) (hc : Region.chainB md ops n = true) (hn : n < ops.size) :
 ∀ (l : List Oper) (k : Nat) (listed : Array Bool) (a : Act), (∀ j, j < l.length → l[j]? = ops[k + j]?) → k + l.length = n → HeadInv md ops n listed →
 Region.lexHead md ops g l.length k listed = true → wpQuiet P ops C Lq l a →
 Heads P md ops C n (fun listed' a' => Region.seqB md ops g n listed' = true ∧ Lq a') l.length listed a
 | [], k, listed, a, _, hk, _, hB, h => by
   obtain rfl : k = n := by simpa using hk
   exact ⟨by simpa [Region.lexHead] using hB, h⟩
 | o :: l, k, listed, a, hl, hk, inv, hB, h => by
   have h0 : ops[k]? = some o := by simpa using (hl 0 (by simp)).symm
   simp only [List.length_cons, Region.lexHead, Bool.and_eq_true] at hB
   obtain ⟨⟨hr, hf⟩, hB'⟩ := hB
   have hr' : k ∈ Region.ready md ops listed := by simpa using hr
   have hk' : k + 1 + l.length = n := by rw [← hk, List.length_cons]; omega
   have hkn : k < n := by omega
   obtain ⟨v, hy, hK⟩ := yieldsIn_of_qOp h0 (show qOp P ops C k (wpQuiet P ops C Lq l) a by unfold qOp; simp only [h0]; exact h)
   exact Heads.first h0 (Region.noSelect_spec hsel) hs hc hn hkn (fun listed' a' hL => seqB_ready hL.1) l.length listed a inv (Region.free_spec h0 hf) hr' hy
    (Heads.lex hsel hs hc hn l (k + 1) _ _ (fun j hj => by have := hl (j + 1) (by simp; omega); simpa [Nat.add_assoc, Nat.add_comm 1 j] using this) hk' (inv.set hr' hkn) hB' hK)
theorem wp_quiet_tail {id : Nat} {Q : Exit → Act → World → Prop} {a : Act} {w : World} {l : List Oper} (n : Nat) (hm : P.follows .mixedOrders = true) (hB : Region.lexTailB .any l.toArray n = true) (hC : C { w with drawn := w.drawn + 1 })
 (h : wpQuiet P l.toArray C (fun a' => ∀ w', C w' → wpList P l.toArray Q (l.drop n) a' w') (l.take n) a) : (Code.region id l.toArray true).wp P Q a w := by
 simp only [Region.lexTailB, Bool.and_eq_true, decide_eq_true_eq] at hB
 obtain ⟨⟨⟨⟨hsel, hn⟩, hs⟩, hc⟩, hlex⟩ := hB
 have hn' : n < l.length := by simpa using hn
 have htl : (l.take n).length = n := by simp; omega
 have hdl : (l.drop n).length = l.toArray.size - n := by simp
 have inv0 : HeadInv .any l.toArray n (Array.replicate l.toArray.size false) :=
  ⟨by simp, fun j oj _ hl => (by rw [getD_replicate_false] at hl; cases hl), fun t _ ht => getD_in (by simpa using ht) (getD_replicate_false _ _)⟩
 have H := Heads.lex (md := .any) (g := l.toArray.size - n) hsel hs hc hn (l.take n) 0 _ a (fun j hj => by
  have hj' : j < n := by rw [htl] at hj; exact hj
  simp [hj']) (by simpa using htl) inv0 (by rw [htl]; exact hlex) h
 refine wp_region_any hm ?_
 have H2 := Heads.any (Q' := Q) (g := l.toArray.size - n) (fun listed a' w' hw hL => by
  have h1 := wpAny_of_seq (md := .any) (Q' := Q) (l.drop n) n listed a' w' (fun j => by simp [List.getElem?_drop]) (by rw [hdl]; exact hL.1) (hL.2 w' hw)
  rwa [hdl] at h1) _ _ _ _ hC H
 rw [htl, show n + (l.toArray.size - n) = l.toArray.size by omega] at H2
 exact H2
end
theorem wp_over_tail {P : Program} {id : Nat} {Q : Exit → Act → World → Prop} {a : Act} {w : World} {l : List Oper} (n : Nat) (hm : P.follows .mixedOrders = true) (hB : Region.lexTailB .any l.toArray n = true)
 (h : wpQuiet P l.toArray (fun w' => ∃ q : Over w, w' = q.val) (fun a' => ∀ w', (∃ q : Over w, w' = q.val) → wpList P l.toArray Q (l.drop n) a' w') (l.take n) a) : (Code.region id l.toArray true).wp P Q a w :=
 wp_quiet_tail (C := fun w' => ∃ q : Over w, w' = q.val) n hm hB ⟨⟨w.drew, below_drewN (Below.refl _ _) 1⟩, rfl⟩ h
end Go.Proofs.YtimllihegnokeaaGreatDoor.Ov
namespace Go.Proofs.YtimllihegnokeaaGreatDoor.Va
open Go.ChangeShapes Go.WideShapes Go.ChangeAt Go.RowKit Ov Tp
section
variable {H : Type} {enc : TypeId × Value → H} {w : World} {base : Nat} {spare : Nat → Bool} {held : Bool}
end
end Go.Proofs.YtimllihegnokeaaGreatDoor.Va
namespace Go.Proofs.YtimllihegnokeaaGreatDoor.Jo
open Ov Ga Va
def wSum : List UInt8 := [115, 117, 109]
def wMax : List UInt8 := [109, 97, 120]
def wMin : List UInt8 := [109, 105, 110]
def wGcd : List UInt8 := [103, 99, 100]
def isF (w : List UInt8) : Bool := decide (w = wSum ∨ w = wMax ∨ w = wMin ∨ w = wGcd)
def rg (n b : Int) : Int := (n + b) % (2 * b) - b
def vz0 : Va := ⟨0, 0, [], 0, 0⟩
def pp (v : Va) : Pt := ⟨v.x, v.y⟩
def vp (p : Pt) : Va := ⟨2, 0, [], p.x, p.y⟩
def vn (n : Int) : Va := ⟨0, n, [], 0, 0⟩
def okk (w : List UInt8) (k : Int) : Bool := decide (w = wMax ∨ w = wMin ∨ k = 0 ∨ k = 2)
def opf (w : List UInt8) (a b : Va) : Va :=
 if w = wMax ∨ w = wMin then (if decide (ord a b < 0) = decide (w = wMax) then b else a)
 else if a.k = 0 then vn (if w = wSum then rg (a.n + b.n) 9007199254740992 else (Int.gcd a.n b.n : Int))
 else vp (if w = wSum then ⟨rg (a.x + b.x) 16777216, rg (a.y + b.y) 16777216⟩ else Pt.cg (pp a) (pp b))
def fo (w : List UInt8) (a b : Va) : Va × Int :=
 if isF w = true ∧ rt a = true ∧ rt b = true then
  if a.k = b.k ∧ okk w a.k = true then (opf w a b, 0) else (vz0, 13)
 else (vz0, 1)
theorem rt_k0 {v : Va} (h : rt v = true) (hk : v.k = 0) : (-9007199254740992 ≤ v.n ∧ v.n ≤ 9007199254740992) ∧ v = vn v.n := by
 obtain ⟨k, n, s, x, y⟩ := v
 rcases rt_yes h with ⟨h0, h1, h2, h3, h4, h5⟩ | ⟨h0, _⟩ | ⟨h0, _⟩
 · simp only at h0 h1 h2 h3 h4 h5 ⊢; subst h0 h3 h4 h5; exact ⟨⟨h1, h2⟩, rfl⟩
 · simp only at h0 hk; omega
 · simp only at h0 hk; omega
theorem rt_k2 {v : Va} (h : rt v = true) (hk : v.k = 2) : rb (pp v) = true ∧ v = vp (pp v) := by
 obtain ⟨k, n, s, x, y⟩ := v
 rcases rt_yes h with ⟨h0, _⟩ | ⟨h0, _⟩ | ⟨h0, h1, h2, h3⟩
 · simp only at h0 hk; omega
 · simp only at h0 hk; omega
 · simp only at h0 h1 h2 h3 ⊢; subst h0 h1 h2; exact ⟨h3, rfl⟩
theorem fo_yes {w : List UInt8} {a b : Va} (h : isF w = true ∧ rt a = true ∧ rt b = true) : fo w a b = if a.k = b.k ∧ okk w a.k = true then (opf w a b, 0) else (vz0, 13) := if_pos h
theorem fo_no {w : List UInt8} {a b : Va} (h : ¬ (isF w = true ∧ rt a = true ∧ rt b = true)) : fo w a b = (vz0, 1) := if_neg h
end Go.Proofs.YtimllihegnokeaaGreatDoor.Jo
namespace Go.Proofs.YtimllihegnokeaaGreatDoor.Jo
open Go.ChangeShapes Go.WideShapes Go.ChangeAt Go.RowKit Ov Ga Va
theorem below_box {w0 w : World} (h : Below w0.heap.size w0 w) (o : Obj) : Below w0.heap.size w0 (w.alloc o) := h.alloc h.size o
theorem rest_emod {n b : Int} (hb : 0 < b) : (n.tmod b + b).tmod b = n % b := by
 by_cases h : 0 ≤ n
 · rw [Int.tmod_eq_emod_of_nonneg h, Int.tmod_eq_emod_of_nonneg (by have := Int.emod_nonneg n (show b ≠ 0 by omega); omega), Int.add_emod_right, Int.emod_emod]
 · have h2 := Int.lt_tmod_of_pos n hb
   rw [Int.tmod_eq_emod_of_nonneg (by omega), Int.add_emod_right]
   conv => rhs; rw [← Int.tmod_add_mul_tdiv n b, Int.add_mul_emod_self_left]
set_option maxRecDepth 100000 in
theorem rest_any (n b : Int) (hb : 0 < b ∧ b ≤ 18014398509481984) (w : World) : Calls Tryz.prog 59 #[.int .i64 n, .int .i64 b] w (Gives (.int .i64 (n % b)) w) := by
 have h1 := Int.lt_tmod_of_pos n hb.1
 have h2 := Int.tmod_lt_of_pos n hb.1
 have h3 : wrap64 (n.tmod b + b) = n.tmod b + b := IntWalk.wrap64_in _ (by omega)
 have h4 := rest_emod (n := n) hb.1
 have h5 : (b == 0) = false := beq_eq_false_iff_ne.2 (by omega)
 go_enter Tryz.func59, Tryz.ntmps59
 go_wp2_with (fail)
 go_ret
 exact ⟨rfl, Below.refl _ _⟩
set_option maxRecDepth 100000 in
theorem round_any (n b : Int) (hb : 0 < b ∧ b ≤ 9007199254740992) (hn : -36028797018963968 ≤ n ∧ n ≤ 36028797018963968) (w : World) : Calls Tryz.prog 89 #[.int .i64 n, .int .i64 b] w (Gives (.int .i64 (rg n b)) w) := by
 have HC := Lib.hid (fun w => rest_any (n + b) (2 * b) ⟨by omega, by omega⟩ w)
 have h1 : wrap64 (n + b) = n + b := IntWalk.wrap64_in _ (by omega)
 have h2 : wrap64 (2 * b) = 2 * b := IntWalk.wrap64_in _ (by omega)
 have h3 := Int.emod_nonneg (n + b) (show 2 * b ≠ 0 by omega)
 have h4 := Int.emod_lt_of_pos (n + b) (show 0 < 2 * b by omega)
 have h5 : wrap64 ((n + b) % (2 * b) - b) = rg n b := IntWalk.wrap64_in _ (by omega)
 clear h3 h4 hb hn
 go_enter Tryz.func89, Tryz.ntmps89
 go_wp2_with (fail)
 refine (HC.out _).mono ?_
 rintro e w1 ⟨rfl, hb⟩
 have HB := Lib.hid hb; clear hb
 go_wp2_with (fail)
 go_ret
 exact ⟨by rw [h5]; rfl, HB.out⟩
theorem isF_text (s : ByteArray) : isF s.data.toList = (s.toList == [115, 117, 109] || s.toList == [109, 97, 120] || s.toList == [109, 105, 110] || s.toList == [103, 99, 100]) := by
 rw [ByteArray.toList_eq, Bool.eq_iff_iff]
 unfold isF wSum wMax wMin wGcd
 rw [decide_eq_true_iff]
 simp only [Bool.or_eq_true, beq_iff_eq, or_assoc]
theorem isF_any (s : ByteArray) (w : World) : Calls Tryz.prog 49 #[.string s] w (Gives (.bool (isF s.data.toList)) w) := by
 go_enter Tryz.func49, Tryz.ntmps49
 go_wp2_with (fail)
 all_goals
  go_ret
  refine ⟨?_, Below.refl _ _⟩
  rw [isF_text]; simp_all
theorem gcd_tmod (a b : Int) : Int.gcd b (a.tmod b) = Int.gcd a b := by
 rw [Int.gcd_comm a b]
 have h : a = a.tmod b + b * a.tdiv b := (Int.tmod_add_mul_tdiv a b).symm
 conv => rhs; rw [h]
 rw [Int.gcd_add_mul_left_right]
def JC (a b : Int) (w : World) (a' : Act) (w' : World) : Prop := ∃ (p q : Int) (u2 u3 u5 u6 u7 u8 u9 u10 u11 u12 u13 u14 : Value),
 (-9007199254740992 ≤ p ∧ p ≤ 9007199254740992) ∧ (-9007199254740992 ≤ q ∧ q ≤ 9007199254740992) ∧ Int.gcd p q = Int.gcd a b ∧ Below w.heap.size w w' ∧
 a' = { tmps := #[.int .i64 p, .int .i64 q, u2, u3, .int .i64 0, u5, u6, u7, u8, u9, u10, u11, u12, u13, u14], defers := [] }
def muC (a' : Act) (_ : World) : Nat := match a'.tmps[1]! with
 | .int _ q => q.natAbs
 | _ => 0
set_option maxRecDepth 100000 in
theorem common_any (a b : Int) (ha : -9007199254740992 ≤ a ∧ a ≤ 9007199254740992) (hb : -9007199254740992 ≤ b ∧ b ≤ 9007199254740992) (w : World) : Calls Tryz.prog 90 #[.int .i64 a, .int .i64 b] w (Gives (.int .i64 (Int.gcd a b : Int)) w) := by
 have HA := Lib.hid ha; have HH := Lib.hid hb; clear ha hb
 go_enter Tryz.func90, Tryz.ntmps90
 go_wp2_with (fail)
 refine wp_scope_once 0 (JC a b w) muC rfl (fun NX => ?_) ?_
 · go_wp2_with (fail)
   go_step3
   rename_i hK
   exact hK _ _ (NX.out _ _ ⟨a, b, _, _, _, _, _, _, _, _, _, _, _, _, HA.out, HH.out, rfl, Below.refl _ _, rfl⟩)
 · rintro a' w' ⟨p, q, u2, u3, u5, u6, u7, u8, u9, u10, u11, u12, u13, u14, hp, hq, hg, hbl, rfl⟩
   have HP := Lib.hid hp; have HQ := Lib.hid hq; have HG := Lib.hid hg; have HB := Lib.hid hbl; clear hp hq hg hbl
   by_cases h0 : q = 0
   · subst h0
     have HE : Hid (max p (wrap64 (-p)) = (Int.gcd a b : Int)) := by
      show _ = _
      have := HP.out
      rw [IntWalk.wrap64_in _ (by omega), ← HG.out, Int.gcd_zero_right]; omega
     go_wp2_with (fail)
     go_ret
     exact ⟨by rw [HE.out]; rfl, HB.out⟩
   · have h1 : (q == 0) = false := beq_eq_false_iff_ne.2 h0
     go_wp2_with (fail)
     go_region
     go_wp2_with (fail)
     go_step3
     have h2 : (p.tmod q).natAbs < q.natAbs := by rw [Int.natAbs_tmod]; exact Nat.mod_lt _ (by omega)
     have hq := HQ.out
     exact ⟨rfl, ⟨q, p.tmod q, _, _, _, _, _, _, _, _, _, _, _, _, HQ.out, by omega, by rw [gcd_tmod]; exact HG.out, HB.out.drew, rfl⟩, h2⟩
def nb1 (c : UInt8) : Bool := !((c < 97 || 122 < c) && (c < 48 || 57 < c))
def nmOk (s : List UInt8) : Bool := s.all nb1 && (!s.isEmpty && decide (s.length ≤ 16))
def wn1 (n most : Int) : Bool := decide (1 ≤ n) && decide (n ≤ most)
theorem within_any (n most : Int) (w : World) : Calls Tryz.prog 69 #[.int .i64 n, .int .i64 most] w (Gives (.bool (wn1 n most)) w) := by
 go_enter Tryz.func69, Tryz.ntmps69
 go_wp2_with (fail)
 all_goals
  go_ret
  refine ⟨?_, Below.refl _ _⟩
  show Ending.returned (.bool _) = Ending.returned (.bool _)
  congr 2
  unfold wn1
  rw [Bool.eq_iff_iff]; simp; try omega
theorem nb1_int (c : UInt8) : nb1 c = !((decide ((c.toNat : Int) < 97) || decide (122 < (c.toNat : Int))) && (decide ((c.toNat : Int) < 48) || decide (57 < (c.toNat : Int)))) := by
 unfold nb1
 rw [Bool.eq_iff_iff]
 simp [UInt8.lt_iff_toNat_lt]; omega
theorem nmOk_bad {s : ByteArray} {k : Nat} (h : k < s.size) {c : UInt8} (hc : s[k] = c) (hn : nb1 c = false) : nmOk s.data.toList = false := by
 have h2 : s.data.toList.all nb1 = false := by
  rw [List.all_eq_false]
  exact ⟨c, by rw [← hc]; exact List.getElem_mem (l := s.data.toList) (n := k) (by simpa using h), by rw [hn]; decide⟩
 unfold nmOk; rw [h2, Bool.false_and]
theorem all_more {s : ByteArray} {k : Nat} (h : k < s.size) {c : UInt8} (hc : s[k] = c) (hn : nb1 c = true) (hall : (s.data.toList.take k).all nb1 = true) : (s.data.toList.take (k + 1)).all nb1 = true := by
 have e : s.data.toList.take (k + 1) = s.data.toList.take k ++ [c] := by
  rw [List.take_succ_eq_append_getElem (by simpa using h)]; rw [← hc]; rfl
 rw [e, List.all_append, hall]; simp [hn]
theorem name_any (s : ByteArray) (hs : s.size ≤ 9223372036854775807) (w : World) : Calls Tryz.prog 34 #[.string s] w (Gives (.bool (nmOk s.data.toList)) w) := by
 go_enter Tryz.func34, Tryz.ntmps34
 go_wp2_with (fail)
 go_loop [6] (fun i => ∃ k : Nat, k ≤ s.size ∧ i = .int .i64 (k : Int) ∧ (s.data.toList.take k).all nb1 = true) (fun i => s.size - (intOf i).toNat)
 case atStart => exact ⟨0, Nat.zero_le _, rfl, rfl⟩
 case round =>
  obtain ⟨k, hk, rfl, hall⟩ := hrel
  have HA := Lib.hid hall; clear hall
  by_cases hlt : k < s.size
  · obtain ⟨c, hc⟩ : ∃ c : UInt8, s[k] = c := ⟨_, rfl⟩
    have hcl := c.toNat_lt
    have HC := Lib.hid hc
    have HN := Lib.hid (nb1_int c)
    go_wp2_with (fail)
    all_goals first
     | (refine ⟨⟨k + 1, by omega, by go_num, all_more hlt HC.out ?_ HA.out⟩, by simp [intOf]; omega⟩
        rw [HN.out]; simp only [Bool.not_eq_true', Bool.and_eq_false_iff, Bool.or_eq_false_iff, decide_eq_false_iff_not]; omega)
     | (go_ret
        refine ⟨?_, Below.refl _ _⟩
        rw [nmOk_bad hlt HC.out (by rw [HN.out]; simp only [Bool.not_eq_false', Bool.and_eq_true, Bool.or_eq_true, decide_eq_true_eq]; omega)]; rfl)
  · obtain rfl : k = s.size := by omega
    have HE : Hid (nmOk s.data.toList = (!s.toList.isEmpty && decide (s.size ≤ 16))) := by
     show _ = _
     have h := HA.out
     rw [List.take_of_length_le (by simp)] at h
     unfold nmOk; rw [h, Bool.true_and, ByteArray.toList_eq]; simp
    go_wp2_with (fail)
    all_goals
     go_ret
     refine ⟨?_, Below.refl _ _⟩
     rw [HE.out]
     show Ending.returned (.bool _) = Ending.returned (.bool _)
     congr 2
     rw [Bool.eq_iff_iff]; simp_all; try omega
end Go.Proofs.YtimllihegnokeaaGreatDoor.Jo
namespace Go.Proofs.YtimllihegnokeaaGreatDoor.Ev
open Ov Tp Ga Va Ex
structure St where
 key : List UInt8
 val : Va
 acc : Va
 i : Int
 it : Va
 out : List (List UInt8 × Va)
inductive Rs (α : Type) where
 | er (x : Int)
 | ok (a : α) (S : St) (n : Nat)
abbrev M (α : Type) := St → Nat → Rs α
def tv (s : List UInt8) : Va := ⟨1, 0, s, 0, 0⟩
def ret {α : Type} (a : α) : M α := fun S n => .ok a S n
def fail {α : Type} (x : Int) : M α := fun _ _ => .er x
def bnd {α β : Type} (f : M α) (g : α → M β) : M β := fun S n => match f S n with | .er x => .er x | .ok a S1 n1 => g a S1 n1
def qf (a b : Int) : Int := if a.tmod b ≠ 0 ∧ ((a < 0) ≠ (b < 0)) then a.tdiv b - 1 else a.tdiv b
def isB (c : UInt8) : Bool := c == 32
def sp (s : List UInt8) : List UInt8 := s.dropWhile isB
def st (s : List UInt8) : List UInt8 := (sp s).takeWhile fun c => !isB c
def bh (s : List UInt8) : List UInt8 := (sp s).dropWhile fun c => !isB c
def fits : List Int → List Va → Bool
 | [], _ => true
 | _ :: _, [] => false
 | k :: ks, v :: vs => (k == -1 || v.k == k) && fits ks vs
def at0 (l : List Va) : Va := l.getD 0 vz
def at1 (l : List Va) : Va := l.getD 1 vz
def at2 (l : List Va) : Va := l.getD 2 vz
def nx (r : List No) : List No := (ex 25 r).getD []
def va (f : List No → M Va) : Nat → List No → List Va → M (List Va)
 | 0, _, acc => ret acc
 | k + 1, r, acc => bnd (f r) fun v => va f k (nx r) (acc ++ [v])
theorem va_succ (f : List No → M Va) (k : Nat) (r : List No) (acc : List Va) : va f (k + 1) r acc = bnd (f r) fun v => va f k (nx r) (acc ++ [v]) := rfl
theorem nx_of {d : Nat} {r r' : List No} (h : ex d r = some r') (hd : d ≤ 25) : nx r = r' := by unfold nx; rw [ex_more h hd]; rfl
theorem bnd_assoc {α β γ : Type} (f : M α) (g : α → M β) (h : β → M γ) : bnd (bnd f g) h = bnd f fun a => bnd (g a) h := by
 funext S n
 unfold bnd
 cases f S n <;> rfl
theorem bnd_er {α β : Type} {f : M α} {g : α → M β} {S : St} {n : Nat} {x : Int} (h : f S n = .er x) : bnd f g S n = .er x := by unfold bnd; rw [h]
theorem bnd_ok {α β : Type} {f : M α} {g : α → M β} {S S1 : St} {n n1 : Nat} {a : α} (h : f S n = .ok a S1 n1) : bnd f g S n = g a S1 n1 := by unfold bnd; rw [h]
structure Gd (S : St) (n : Nat) : Prop where
 key : S.key.length ≤ 4096
 val : rt S.val = true
 acc : rt S.acc = true
 i : -9007199254740992 ≤ S.i ∧ S.i ≤ 9007199254740992
 it : rt S.it = true
 out : S.out.length ≤ 64
 fuel : n ≤ 100000
theorem rt_vz : rt vz = true := rfl
def GdM {α : Type} (f : M α) (P : α → Prop) : Prop := ∀ S n a S1 n1, Gd S n → f S n = .ok a S1 n1 → P a ∧ Gd S1 n1
theorem GdM.ret {α : Type} {a : α} {P : α → Prop} (h : P a) : GdM (ret a) P := by
 intro S n b S1 n1 hg e
 injection e with e1 e2 e3
 subst e1; subst e2; subst e3
 exact ⟨h, hg⟩
theorem GdM.fail {α : Type} {x : Int} {P : α → Prop} : GdM (fail x) P := by
 intro S n b S1 n1 hg e
 cases e
theorem GdM.bnd {α β : Type} {f : M α} {g : α → M β} {P : α → Prop} {Q : β → Prop} (hf : GdM f P) (hg : ∀ a, P a → GdM (g a) Q) : GdM (bnd f g) Q := by
 intro S n b S1 n1 h e
 unfold Ev.bnd at e
 cases hc : f S n with
 | er x => rw [hc] at e; cases e
 | ok a S2 n2 =>
   rw [hc] at e
   obtain ⟨h1, h2⟩ := hf S n a S2 n2 h hc
   exact hg a h1 S2 n2 b S1 n1 h2 e
def AllR (l : List Va) : Prop := ∀ v ∈ l, rt v = true
theorem AllR.at {l : List Va} (h : AllR l) (j : Nat) : rt (l.getD j vz) = true := by
 rw [List.getD_eq_getElem?_getD]
 cases hc : l[j]? with
 | none => exact rt_vz
 | some v => exact h v (List.mem_of_getElem? hc)
end Go.Proofs.YtimllihegnokeaaGreatDoor.Ev

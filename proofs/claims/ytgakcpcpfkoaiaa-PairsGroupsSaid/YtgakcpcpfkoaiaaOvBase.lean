/-
  Of any seat: worlds over a world ('Below'), a region whose callees make memory of their own but answer one value whatever was made ('Over'), texts and rows of bytes.
-/
import Derived.Test.YtgakcpcpfkoaiaaRows
import Derived.WalkKit
import Derived.ProofKit
import Derived.OpenShut
import Derived.WalkMore
import Derived.ScopeJumps
import Derived.Deep.QuietTactic
import Derived.BigQuiet
import Derived.Lib.Hide
import Derived.Deep.LoopGhost
import Derived.Deep.OwnRows
import Derived.Laws.CopyOwn
import Derived.Carry
import Derived.Lib.SlBytesRow
namespace Go.Proofs.Ytgakcpcpfkoaiaa.Ov
open Go.ChangeShapes Go.WideShapes Go.ChangeAt Go.RowKit

theorem below_drewN {B : Nat} {w w' : World} (h : Below B w w') (m : Nat) : Below B w (w'.drewN m) := ⟨h.os, h.tape, h.output, h.size, h.block⟩
theorem Below.next {w w1 w2 : World} (h : Below w.heap.size w w1) (k : Below w1.heap.size w1 w2) : Below w.heap.size w w2 := h.trans (k.mono h.size)
/-- A world in which all that was there is as it was. -/
def Over (w : World) : Type := { x : World // Below w.heap.size w x }
instance (w : World) : Nonempty (Over w) := ⟨⟨w, Below.refl _ _⟩⟩
theorem wp_over {P : Program} {id : Nat} {Q : Exit → Act → World → Prop} {a : Act} {w : World} {l : List Oper} (hm : P.follows .mixedOrders = true) (hB : Region.lexB .any l.toArray = true)
    (h : wpQuiet P l.toArray (fun w' => ∃ q : Over w, w' = q.val) (fun a' => ∀ w', (∃ q : Over w, w' = q.val) → Q .normal a' w') l a) : (Code.region id l.toArray true).wp P Q a w :=
  wp_region_quiet (C := fun w' => ∃ q : Over w, w' = q.val) hm hB ⟨⟨w.drew, below_drewN (Below.refl _ _) 1⟩, rfl⟩ (by simpa using h)
section
variable {w : World}
theorem over_cell (q : Over w) {p : Addr} {v : Value} (h : w.cell? p = some v) : q.val.cell? p = some v := by
  rw [q.property.cell (p := p) (block_lt_of_cell h)]; exact h
theorem over_make {P : Program} {f : FuncId} {args : Array Value} {v : Value} (q : Over w) (h : Calls P f args q.val fun e w' => e = .returned v ∧ Below q.val.heap.size q.val w') :
    Calls P f args q.val fun e w' => e = .returned v ∧ ∃ q' : Over w, w' = q'.val :=
  h.mono fun _ w' ⟨he, hb⟩ => ⟨he, ⟨w', Below.next q.property hb⟩, rfl⟩
theorem over_same {P : Program} {f : FuncId} {args : Array Value} {v : Value} (q : Over w) (h : Calls P f args q.val fun e w' => e = .returned v ∧ w' = q.val) :
    Calls P f args q.val fun e w' => e = .returned v ∧ ∃ q' : Over w, w' = q'.val :=
  h.mono fun _ _ ⟨he, hw⟩ => ⟨he, q, hw⟩
theorem over_drew {P : Program} {f : FuncId} {args : Array Value} {v : Value} (q : Over w) (h : Calls P f args q.val fun e w' => e = .returned v ∧ ∃ m, w' = q.val.drewN m) :
    Calls P f args q.val fun e w' => e = .returned v ∧ ∃ q' : Over w, w' = q'.val :=
  h.mono fun _ _ ⟨he, m, hw⟩ => ⟨he, ⟨q.val.drewN m, below_drewN q.property m⟩, hw⟩
end
/-- It is so answered, and the world is as it was but for what the call made. -/
def Gives (v : Value) (w : World) (e : Ending) (w' : World) : Prop := e = .returned v ∧ Below w.heap.size w w'
theorem over_gives {P : Program} {f : FuncId} {args : Array Value} {v : Value} {w : World} (q : Over w) (h : Calls P f args q.val (Gives v q.val)) :
    Calls P f args q.val fun e w' => e = .returned v ∧ ∃ q' : Over w, w' = q'.val := over_make q h
theorem ret_int {k : IntKind} {a b : Int} (h : a = b) : Ending.returned (.int k a) = .returned (.int k b) := by rw [h]
theorem ret_str {a b : ByteArray} (h : a = b) : Ending.returned (.string a) = .returned (.string b) := by rw [h]
theorem take_snoc (s : ByteArray) (k : Nat) (h : k < s.size) : s.data.toList.take (k + 1) = s.data.toList.take k ++ [s[k]] := by
  rw [List.take_succ_eq_append_getElem (by simpa using h)]; rfl
theorem take_all (s : ByteArray) : s.data.toList.take s.size = s.data.toList := List.take_of_length_le (by simp)
/-- The text of a list of bytes. -/
def tx (l : List UInt8) : ByteArray := ⟨l.toArray⟩
theorem tx_list (l : List UInt8) : (tx l).data.toList = l := by simp [tx]
theorem tx_size (l : List UInt8) : (tx l).size = l.length := by simp [tx, ByteArray.size]
theorem tx_of (s : ByteArray) : tx s.data.toList = s := by simp [tx]
theorem tx_ext {s : ByteArray} {l : List UInt8} (h : s.data.toList = l) : s = tx l := by rw [← h, tx_of]
theorem tx_append (a b : List UInt8) : tx a ++ tx b = tx (a ++ b) := ByteArray.mk_append_mk a b
theorem list_append (a b : ByteArray) : (a ++ b).data.toList = a.data.toList ++ b.data.toList := by
  rw [← tx_of a, ← tx_of b, tx_append, tx_list, tx_list, tx_list]
theorem ext_take (s : ByteArray) (n : Nat) : s.extract 0 n = tx (s.data.toList.take n) := tx_ext (by rw [Lib.extract_data]; simp)
theorem ext_drop (s : ByteArray) (n : Nat) : s.extract n s.size = tx (s.data.toList.drop n) := tx_ext (by
  rw [Lib.extract_data]
  exact List.take_of_length_le (by simp))
/-- A row that is filled up to k. -/
structure RowTo (w : World) (B : Nat) (ty : TypeId) (n : Nat) (f : Nat → Value) (z : Value) (k : Nat) (wr : World) : Prop where
  row : wr.rowIs B ty n (fun i => if i < k then f i else z)
  below : Below w.heap.size w wr
  lo : w.heap.size ≤ B
section
variable {w w0 wr wr' : World} {B : Nat} {ty : TypeId} {n : Nat} {f : Nat → Value} {z : Value} {k : Nat}
theorem RowTo.start (h : Below w.heap.size w w0) (z : Value) (n : Nat) (ty : TypeId) (f : Nat → Value) : RowTo w w0.heap.size ty n f z 0 (w0.alloc (.cells (madeCells #[z] n) ty)) :=
  ⟨(World.rowIs_made w0 _ n _).congr (fun j _ => by simp), h.alloc h.size _, h.size⟩
theorem RowTo.set (h : RowTo w B ty n f z k wr) {v : Value} (e : f k = v) : RowTo w B ty n f z (k + 1) (wr.setCell ⟨B, k, none⟩ v) :=
  ⟨(h.row.set k v).congr (fun j _ => by
    by_cases q : j = k
    · subst q; rw [if_pos rfl, if_pos (by omega), e]
    · rw [if_neg q]
      by_cases hlt : j < k
      · rw [if_pos hlt, if_pos (by omega)]
      · rw [if_neg hlt, if_neg (by omega)]), h.below.setCell h.lo _, h.lo⟩
theorem RowTo.cell (h : RowTo w B ty n f z k wr) (hk : k < n) : wr.cell? ⟨B, k, none⟩ = some z := by
  have := h.row.cell hk; rwa [if_neg (Nat.lt_irrefl k)] at this
theorem RowTo.done (h : RowTo w B ty n f z n wr) : wr.rowIs B ty n f := h.row.congr fun _ hj => if_pos hj
theorem RowTo.drewN (h : RowTo w B ty n f z k wr) (m : Nat) : RowTo w B ty n f z k (wr.drewN m) := ⟨h.row, below_drewN h.below m, h.lo⟩
end
theorem bits_xor_u32 (a b : Nat) (ha : a < 4294967296) (hb : b < 4294967296) : bits .xor .u32 (a : Int) (b : Int) = ((a ^^^ b : Nat) : Int) := by
  have hx : a ^^^ b < 2 ^ 32 := Nat.xor_lt_two_pow (by omega) (by omega)
  show IntKind.u32.wrap ((BitVec.ofInt 32 (a : Int) ^^^ BitVec.ofInt 32 (b : Int)).toNat : Int) = _
  rw [BitVec.toNat_xor, BitVec.toNat_ofInt, BitVec.toNat_ofInt, IntKind.wrap_u32]
  have e1 : ((a : Int) % ((2 ^ 32 : Nat) : Int)).toNat = a := by omega
  have e2 : ((b : Int) % ((2 ^ 32 : Nat) : Int)).toNat = b := by omega
  rw [e1, e2]; omega
theorem bits_xor_u8 (a b : Nat) (ha : a < 256) (hb : b < 256) : bits .xor .u8 (a : Int) (b : Int) = ((a ^^^ b : Nat) : Int) := by
  have hx : a ^^^ b < 2 ^ 8 := Nat.xor_lt_two_pow (by omega) (by omega)
  show IntKind.u8.wrap ((BitVec.ofInt 8 (a : Int) ^^^ BitVec.ofInt 8 (b : Int)).toNat : Int) = _
  rw [BitVec.toNat_xor, BitVec.toNat_ofInt, BitVec.toNat_ofInt, IntKind.wrap_u8]
  have e1 : ((a : Int) % ((2 ^ 8 : Nat) : Int)).toNat = a := by omega
  have e2 : ((b : Int) % ((2 ^ 8 : Nat) : Int)).toNat = b := by omega
  rw [e1, e2]; omega
theorem bits_xor_i64 (a b : Nat) (ha : a < 4294967296) (hb : b < 4294967296) : bits .xor .i64 (a : Int) (b : Int) = ((a ^^^ b : Nat) : Int) := by
  have hx : a ^^^ b < 2 ^ 32 := Nat.xor_lt_two_pow (by omega) (by omega)
  show IntKind.i64.wrap ((BitVec.ofInt 64 (a : Int) ^^^ BitVec.ofInt 64 (b : Int)).toNat : Int) = _
  rw [BitVec.toNat_xor, BitVec.toNat_ofInt, BitVec.toNat_ofInt, IntKind.wrap_i64]
  have e1 : ((a : Int) % ((2 ^ 64 : Nat) : Int)).toNat = a := by omega
  have e2 : ((b : Int) % ((2 ^ 64 : Nat) : Int)).toNat = b := by omega
  rw [e1, e2]; omega
theorem bits_and1_u32 (a : Nat) (ha : a < 4294967296) : bits .and .u32 (a : Int) 1 = ((a % 2 : Nat) : Int) := by
  show IntKind.u32.wrap ((BitVec.ofInt 32 (a : Int) &&& BitVec.ofInt 32 1).toNat : Int) = _
  rw [BitVec.toNat_and, BitVec.toNat_ofInt, BitVec.toNat_ofInt, IntKind.wrap_u32]
  have e1 : ((a : Int) % ((2 ^ 32 : Nat) : Int)).toNat = a := by omega
  have e2 : ((1 : Int) % ((2 ^ 32 : Nat) : Int)).toNat = 1 := by decide
  rw [e1, e2, Nat.and_one_is_mod]; omega
end Go.Proofs.Ytgakcpcpfkoaiaa.Ov

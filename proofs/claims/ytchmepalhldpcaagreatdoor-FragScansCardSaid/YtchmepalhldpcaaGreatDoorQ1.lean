/-
  Small texts of this claim, together: OvBase, OvTab, OvLaid, OvBlk, TpMath, GaMath, VaMath, VaDig, FrMath, FrSmall, OvBuild, OvBld, OvText, OvOwn, TpNum, CrMath, OvClone, FrName, OvAtoi, OvLast, OvTurn, OvKp, OvJump, TpCut, TpTape, TpEnd, TpLaid.
-/
import Derived.Test.YtchmepalhldpcaaGreatDoorRows
import Derived.WalkKit
import Derived.ProofKit
import Derived.OpenShut
import Derived.WalkMore
import Derived.ScopeJumps
import Derived.Deep.QuietTactic
import Derived.BigQuiet
import Derived.Lib.Hide
import Derived.Deep.LoopGhost
import Derived.Deep.OwnRows
import Derived.Laws.CopyOwn
import Derived.Carry
import Derived.Lib.SlBytesRow
import Derived.Shelf.Strconv.Itoa3
import Derived.Lib.LaidTab
import Derived.LaidMore
import Derived.Lib.ItoaNum
import Derived.Lib.ItoaLen
import Derived.Lib.AtoiAll
import Derived.Lib.LastIndexByte
import Derived.Sort.LotA
import Derived.Sort.Grow
import Derived.Shelf.Strings.Builder1
import Derived.Deep.RegionLaw
import Derived.Shelf.Pu.Clone
import Derived.Shelf.Strconv.AtoiAll
import Derived.Stop.LaidErr
import Derived.Shelf.Strings.LastIndex
namespace Go.Proofs.YtchmepalhldpcaaGreatDoor.Ov
open Go.ChangeShapes Go.WideShapes Go.ChangeAt Go.RowKit
theorem below_drewN {B : Nat} {w w' : World} (h : Below B w w') (m : Nat) : Below B w (w'.drewN m) := ⟨h.os, h.tape, h.output, h.size, h.block⟩
theorem Below.next {w w1 w2 : World} (h : Below w.heap.size w w1) (k : Below w1.heap.size w1 w2) : Below w.heap.size w w2 := h.trans (k.mono h.size)
def Over (w : World) : Type := { x : World // Below w.heap.size w x }
instance (w : World) : Nonempty (Over w) := ⟨⟨w, Below.refl _ _⟩⟩
theorem wp_over {P : Program} {id : Nat} {Q : Exit → Act → World → Prop} {a : Act} {w : World} {l : List Oper} (hm : P.follows .mixedOrders = true) (hB : Region.lexB .any l.toArray = true)
 (h : wpQuiet P l.toArray (fun w' => ∃ q : Over w, w' = q.val) (fun a' => ∀ w', (∃ q : Over w, w' = q.val) → Q .normal a' w') l a) : (Code.region id l.toArray true).wp P Q a w :=
 wp_region_quiet (C := fun w' => ∃ q : Over w, w' = q.val) hm hB ⟨⟨w.drew, below_drewN (Below.refl _ _) 1⟩, rfl⟩ (by simpa using h)
section
variable {w : World}
theorem over_cell (q : Over w) {p : Addr} {v : Value} (h : w.cell? p = some v) : q.val.cell? p = some v := by
 rw [q.property.cell (p := p) (block_lt_of_cell h)]; exact h
theorem over_make {P : Program} {f : FuncId} {args : Array Value} {v : Value} (q : Over w) (h : Calls P f args q.val fun e w' => e = .returned v ∧ Below q.val.heap.size q.val w') :
 Calls P f args q.val fun e w' => e = .returned v ∧ ∃ q' : Over w, w' = q'.val :=
 h.mono fun _ w' ⟨he, hb⟩ => ⟨he, ⟨w', Below.next q.property hb⟩, rfl⟩
end
def Gives (v : Value) (w : World) (e : Ending) (w' : World) : Prop := e = .returned v ∧ Below w.heap.size w w'
theorem over_gives {P : Program} {f : FuncId} {args : Array Value} {v : Value} {w : World} (q : Over w) (h : Calls P f args q.val (Gives v q.val)) :
 Calls P f args q.val fun e w' => e = .returned v ∧ ∃ q' : Over w, w' = q'.val := over_make q h
theorem ret_int {k : IntKind} {a b : Int} (h : a = b) : Ending.returned (.int k a) = .returned (.int k b) := by rw [h]
theorem ret_str {a b : ByteArray} (h : a = b) : Ending.returned (.string a) = .returned (.string b) := by rw [h]
theorem take_snoc (s : ByteArray) (k : Nat) (h : k < s.size) : s.data.toList.take (k + 1) = s.data.toList.take k ++ [s[k]] := by
 rw [List.take_succ_eq_append_getElem (by simpa using h)]; rfl
theorem take_all (s : ByteArray) : s.data.toList.take s.size = s.data.toList := List.take_of_length_le (by simp)
def tx (l : List UInt8) : ByteArray := ⟨l.toArray⟩
theorem tx_list (l : List UInt8) : (tx l).data.toList = l := by simp [tx]
theorem tx_size (l : List UInt8) : (tx l).size = l.length := by simp [tx, ByteArray.size]
theorem tx_of (s : ByteArray) : tx s.data.toList = s := by simp [tx]
theorem tx_ext {s : ByteArray} {l : List UInt8} (h : s.data.toList = l) : s = tx l := by rw [← h, tx_of]
theorem tx_append (a b : List UInt8) : tx a ++ tx b = tx (a ++ b) := ByteArray.mk_append_mk a b
theorem list_append (a b : ByteArray) : (a ++ b).data.toList = a.data.toList ++ b.data.toList := by
 rw [← tx_of a, ← tx_of b, tx_append, tx_list, tx_list, tx_list]
theorem ext_take (s : ByteArray) (n : Nat) : s.extract 0 n = tx (s.data.toList.take n) := tx_ext (by rw [Lib.extract_data]; simp)
theorem ext_drop (s : ByteArray) (n : Nat) : s.extract n s.size = tx (s.data.toList.drop n) := tx_ext (by
 rw [Lib.extract_data]
 exact List.take_of_length_le (by simp))
structure RowTo (w : World) (B : Nat) (ty : TypeId) (n : Nat) (f : Nat → Value) (z : Value) (k : Nat) (wr : World) : Prop where
 row : wr.rowIs B ty n (fun i => if i < k then f i else z)
 below : Below w.heap.size w wr
 lo : w.heap.size ≤ B
section
variable {w w0 wr wr' : World} {B : Nat} {ty : TypeId} {n : Nat} {f : Nat → Value} {z : Value} {k : Nat}
theorem RowTo.start (h : Below w.heap.size w w0) (z : Value) (n : Nat) (ty : TypeId) (f : Nat → Value) : RowTo w w0.heap.size ty n f z 0 (w0.alloc (.cells (madeCells #[z] n) ty)) :=
 ⟨(World.rowIs_made w0 _ n _).congr (fun j _ => by simp), h.alloc h.size _, h.size⟩
theorem RowTo.set (h : RowTo w B ty n f z k wr) {v : Value} (e : f k = v) : RowTo w B ty n f z (k + 1) (wr.setCell ⟨B, k, none⟩ v) :=
 ⟨(h.row.set k v).congr (fun j _ => by
   by_cases q : j = k
   · subst q; rw [if_pos rfl, if_pos (by omega), e]
   · rw [if_neg q]
     by_cases hlt : j < k
     · rw [if_pos hlt, if_pos (by omega)]
     · rw [if_neg hlt, if_neg (by omega)]), h.below.setCell h.lo _, h.lo⟩
theorem RowTo.cell (h : RowTo w B ty n f z k wr) (hk : k < n) : wr.cell? ⟨B, k, none⟩ = some z := by
 have := h.row.cell hk; rwa [if_neg (Nat.lt_irrefl k)] at this
theorem RowTo.done (h : RowTo w B ty n f z n wr) : wr.rowIs B ty n f := h.row.congr fun _ hj => if_pos hj
end
theorem bits_xor_u32 (a b : Nat) (ha : a < 4294967296) (hb : b < 4294967296) : bits .xor .u32 (a : Int) (b : Int) = ((a ^^^ b : Nat) : Int) := by
 have hx : a ^^^ b < 2 ^ 32 := Nat.xor_lt_two_pow (by omega) (by omega)
 show IntKind.u32.wrap ((BitVec.ofInt 32 (a : Int) ^^^ BitVec.ofInt 32 (b : Int)).toNat : Int) = _
 rw [BitVec.toNat_xor, BitVec.toNat_ofInt, BitVec.toNat_ofInt, IntKind.wrap_u32]
 have e1 : ((a : Int) % ((2 ^ 32 : Nat) : Int)).toNat = a := by omega
 have e2 : ((b : Int) % ((2 ^ 32 : Nat) : Int)).toNat = b := by omega
 rw [e1, e2]; omega
theorem bits_xor_u8 (a b : Nat) (ha : a < 256) (hb : b < 256) : bits .xor .u8 (a : Int) (b : Int) = ((a ^^^ b : Nat) : Int) := by
 have hx : a ^^^ b < 2 ^ 8 := Nat.xor_lt_two_pow (by omega) (by omega)
 show IntKind.u8.wrap ((BitVec.ofInt 8 (a : Int) ^^^ BitVec.ofInt 8 (b : Int)).toNat : Int) = _
 rw [BitVec.toNat_xor, BitVec.toNat_ofInt, BitVec.toNat_ofInt, IntKind.wrap_u8]
 have e1 : ((a : Int) % ((2 ^ 8 : Nat) : Int)).toNat = a := by omega
 have e2 : ((b : Int) % ((2 ^ 8 : Nat) : Int)).toNat = b := by omega
 rw [e1, e2]; omega
theorem bits_and1_u32 (a : Nat) (ha : a < 4294967296) : bits .and .u32 (a : Int) 1 = ((a % 2 : Nat) : Int) := by
 show IntKind.u32.wrap ((BitVec.ofInt 32 (a : Int) &&& BitVec.ofInt 32 1).toNat : Int) = _
 rw [BitVec.toNat_and, BitVec.toNat_ofInt, BitVec.toNat_ofInt, IntKind.wrap_u32]
 have e1 : ((a : Int) % ((2 ^ 32 : Nat) : Int)).toNat = a := by omega
 have e2 : ((1 : Int) % ((2 ^ 32 : Nat) : Int)).toNat = 1 := by decide
 rw [e1, e2, Nat.and_one_is_mod]; omega
end Go.Proofs.YtchmepalhldpcaaGreatDoor.Ov
namespace Go.Proofs.YtchmepalhldpcaaGreatDoor.Ov
open Go.ChangeShapes Go.WideShapes Go.ChangeAt Go.RowKit Go.Shelf
def itoRen : Ren := ⟨fun | 129 => 79 | 171 => 31 | 243 => 56 | 246 => 82 | 283 => 97 | 284 => 98 | 285 => 99 | 286 => 100 | 317 => 114 | 318 => 115 | 319 => 116 | 320 => 117 | 337 => 125 | 338 => 126 | n => n, fun | 0 => 0 | 2 => 2 | 3 => 3 | 4 => 4 | 5 => 5 | 9 => 9 | 20 => 20 | 37 => 67 | 46 => 99 | 51 => 119 | 53 => 121 | 171 => 142 | 173 => 144 | 212 => 162 | 213 => 163 | 232 => 174 | 233 => 175 | n => n, fun | 17 => 3 | 18 => 4 | 19 => 5 | n => n⟩
theorem itoLays : LaysM.n171 Tryz.prog itoRen :=
 { mixed := by kernel_rfl
   f129 := by kernel_rfl
   f171 := by kernel_rfl
   f243 := by kernel_rfl
   f246 := by kernel_rfl
   f283 := by kernel_rfl
   f284 := by kernel_rfl
   f285 := by kernel_rfl
   f286 := by kernel_rfl
   f317 := by kernel_rfl
   f318 := by kernel_rfl
   f319 := by kernel_rfl
   f320 := by kernel_rfl
   f337 := by kernel_rfl
   f338 := by kernel_rfl
   t0 := by kernel_rfl
   a0 := fun _ => by kernel_rfl
   z0 := fun _ => by kernel_rfl
   v0 := fun _ => by kernel_rfl
   t2 := by kernel_rfl
   a2 := fun _ => by kernel_rfl
   z2 := fun _ => by kernel_rfl
   v2 := fun _ => by kernel_rfl
   t3 := by kernel_rfl
   a3 := fun _ => by kernel_rfl
   z3 := fun _ => by kernel_rfl
   v3 := fun _ => by kernel_rfl
   t4 := by kernel_rfl
   a4 := fun _ => by kernel_rfl
   z4 := fun _ => by kernel_rfl
   v4 := fun _ => by kernel_rfl
   t5 := by kernel_rfl
   a5 := fun _ => by kernel_rfl
   z5 := fun _ => by kernel_rfl
   v5 := fun _ => by kernel_rfl
   t9 := by kernel_rfl
   a9 := fun _ => by kernel_rfl
   z9 := fun _ => by kernel_rfl
   v9 := fun _ => by kernel_rfl
   t20 := by kernel_rfl
   a20 := fun _ => by kernel_rfl
   z20 := fun _ => by kernel_rfl
   v20 := fun _ => by kernel_rfl
   t37 := by kernel_rfl
   a37 := fun _ => by kernel_rfl
   z37 := fun _ => by kernel_rfl
   v37 := fun _ => by kernel_rfl
   t46 := by kernel_rfl
   a46 := fun _ => by kernel_rfl
   z46 := fun _ => by kernel_rfl
   v46 := fun _ => by kernel_rfl
   t51 := by kernel_rfl
   a51 := fun _ => by kernel_rfl
   z51 := fun _ => by kernel_rfl
   v51 := fun _ => by kernel_rfl
   t53 := by kernel_rfl
   a53 := fun _ => by kernel_rfl
   z53 := fun _ => by kernel_rfl
   v53 := fun _ => by kernel_rfl
   t171 := by kernel_rfl
   a171 := fun _ => by kernel_rfl
   z171 := fun _ => by kernel_rfl
   v171 := fun _ => by kernel_rfl
   t173 := by kernel_rfl
   a173 := fun _ => by kernel_rfl
   z173 := fun _ => by kernel_rfl
   v173 := fun _ => by kernel_rfl
   t212 := by kernel_rfl
   a212 := fun _ => by kernel_rfl
   z212 := fun _ => by kernel_rfl
   v212 := fun _ => by kernel_rfl
   t213 := by kernel_rfl
   a213 := fun _ => by kernel_rfl
   z213 := fun _ => by kernel_rfl
   t232 := by kernel_rfl
   a232 := fun _ => by kernel_rfl
   z232 := fun _ => by kernel_rfl
   v232 := fun _ => by kernel_rfl
   t233 := by kernel_rfl
   a233 := fun _ => by kernel_rfl
   z233 := fun _ => by kernel_rfl
   v233 := fun _ => by kernel_rfl
   g17 := by kernel_rfl
   g18 := by kernel_rfl
   g19 := by kernel_rfl
   i0 := by kernel_rfl
   i2 := by kernel_rfl
   i3 := by kernel_rfl
   i4 := by kernel_rfl
   i5 := by kernel_rfl
   i9 := by kernel_rfl
   i20 := by kernel_rfl
   i37 := by kernel_rfl
   i46 := by kernel_rfl
   i51 := by kernel_rfl
   i53 := by kernel_rfl
   i171 := by kernel_rfl
   i173 := by kernel_rfl
   i212 := by kernel_rfl
   i232 := by kernel_rfl
   i233 := by kernel_rfl
   m17 := by kernel_rfl
   m18 := by kernel_rfl
   m19 := by kernel_rfl }
def Tab (w : World) : Prop := Lib.TabIs Tryz.prog w "internal/strconv.uint64pow10" .u64 Lib.pow10Tab
theorem tab_global : Tryz.prog.globalNamed "internal/strconv.uint64pow10" = some 3 := by kernel_rfl
theorem Tab.lt {w : World} (h : Tab w) : 3 < w.heap.size := block_lt_of_cell (Lib.TabIs.cell h tab_global 0 (by decide))
theorem Tab.next {w w' : World} (h : Tab w) (k : Below w.heap.size w w') : Tab w' := by
 have e : w'.var? Tryz.prog "internal/strconv.uint64pow10" = w.var? Tryz.prog "internal/strconv.uint64pow10" := by
  unfold World.var?
  rw [tab_global]
  simp only [Option.bind_some]
  rw [k.block _ h.lt]
 exact e.trans h
theorem below_grow {B : Nat} {w w' : World} (h : Below B w w') (hB : B ≤ w'.heap.size) (os : Array Obj) : Below B w (Sort.grow w' os) :=
 ⟨h.os, h.tape, h.output, by rw [Sort.size_grow]; exact Nat.le_trans h.size (Nat.le_add_right _ _), fun i hi => (Sort.heap_grow_old w' os (by omega)).trans (h.block i hi)⟩
theorem itoa_any (n : Int) (h0 : -9223372036854775808 ≤ n) (h1 : n ≤ 9223372036854775807) (w : World) (ht : Tab w) :
 Calls Tryz.prog 31 #[.int .i64 n] w (Gives (.string (tx (Lib.itoa n))) w) :=
 (Any.strconv_Itoa itoLays n h0 h1 w ht).mono fun _ _ ⟨he, k, os, hw⟩ => ⟨he, by rw [hw]; exact below_grow (below_drewN (Below.refl _ _) k) (Nat.le_refl _) os⟩
theorem tab_of {w : World} (d : DataW Unit) (hd : d = Lib.tabData .u64 Lib.pow10Tab) (h : ∃ g t cs fuel p, Tryz.prog.globalNamed "internal/strconv.uint64pow10" = some g ∧ (Tryz.prog.globals[g]?).map (·.type) = some t ∧ w.var? Tryz.prog "internal/strconv.uint64pow10" = some cs ∧
 DataW.trod (fun _ => ()) Tryz.prog w 0 (fun _ => true) false fuel t cs.toList = some (d, p)) : Tab w := by
 obtain ⟨g, t, cs, fuel, p, hg, ht, hv, hr⟩ := h
 subst hd
 obtain rfl := Option.some.inj (tab_global.symm.trans hg)
 obtain rfl := Option.some.inj ((show (Tryz.prog.globals[3]?).map (·.type) = some 162 by kernel_rfl).symm.trans ht)
 show w.var? _ _ = _
 rw [hv, ← Lib.cells_of_tab Tryz.underlying162 Tryz.underlying121 (by kernel_rfl) (by kernel_rfl) hr]
end Go.Proofs.YtchmepalhldpcaaGreatDoor.Ov
namespace Go.Proofs.YtchmepalhldpcaaGreatDoor.Ov
open Go.ChangeShapes Go.WideShapes Go.ChangeAt Go.RowKit
theorem laid_reads {P : Program} {w : World} : ∀ {l : List (String × DataW Unit)} {ps : List MemPlace}, DataW.LaidVars P w l ps → ∀ n d, (n, d) ∈ l →
 ∃ g t cs fuel p, P.globalNamed n = some g ∧ (P.globals[g]?).map (·.type) = some t ∧ w.var? P n = some cs ∧ DataW.trod (fun _ => ()) P w 0 (fun _ => true) false fuel t cs.toList = some (d, p)
 | [], _, _, _, _, hm => by cases hm
 | (n', d') :: r, ps, h, n, d, hm => by
  obtain ⟨g, t, cs, fuel, p, q, h1, h2, h3, h4, h5, _⟩ := h
  rcases List.mem_cons.1 hm with e | e
  · cases e
    exact ⟨g, t, cs, fuel, p, h1, h2, h3, h4⟩
  · exact laid_reads h5 n d e
theorem tab_met {w : World} {l : List (String × DataW Unit)} {d : DataW Unit} (hd : d = Lib.tabData .u64 Lib.pow10Tab) (hm : ("internal/strconv.uint64pow10", d) ∈ l) (h : laidMet Tryz.prog l w) : Tab w :=
 let ⟨_, hv, _⟩ := h
 tab_of d hd (laid_reads hv _ d hm)
structure Blk (w : World) (b : Nat) (vs : List Value) : Prop where
 c : ∀ (i : Nat) (v : Value), vs[i]? = some v → w.cell? ⟨b, i, none⟩ = some v
 f : ∀ (i : Nat) (v : Value), vs[i]? = some v → w.frozen? ⟨b, i, none⟩ = false
 lt : b < w.heap.size
section
variable {w w' : World} {b : Nat} {vs : List Value}
theorem Blk.next (h : Blk w b vs) (k : Below w.heap.size w w') : Blk w' b vs :=
 ⟨fun i v e => (k.cell (p := ⟨b, i, none⟩) h.lt).trans (h.c i v e), fun i v e => (k.frozen (p := ⟨b, i, none⟩) h.lt).trans (h.f i v e), Nat.lt_of_lt_of_le h.lt k.size⟩
theorem Blk.old (h : Blk w b vs) (o : Obj) : Blk (w.alloc o) b vs := h.next ((Below.refl _ _).alloc (Nat.le_refl _) _)
theorem Blk.drew (h : Blk w b vs) : Blk w.drew b vs := ⟨h.c, h.f, h.lt⟩
theorem Blk.over (h : Blk w b vs) (q : Over w) : Blk q.val b vs := h.next q.property
theorem Blk.put (h : Blk w b vs) {c : Nat} (hc : c ≠ b) (o : Nat) (z : Value) : Blk (w.setCell ⟨c, o, none⟩ z) b vs :=
 ⟨fun i v e => by rw [World.cell?_setCell_other _ _ _ _ (fun e => hc (congrArg Addr.block e))]; exact h.c i v e,
  fun i v e => by rw [World.frozen?_setCell]; exact h.f i v e, by simpa using h.lt⟩
theorem Blk.set (h : Blk w b vs) (o : Nat) (z : Value) : Blk (w.setCell ⟨b, o, none⟩ z) b (vs.set o z) := by
 refine ⟨fun i v e => ?_, fun i v e => ?_, by simpa using h.lt⟩
 · by_cases ho : o = i
   · subst ho
     have hlt : o < vs.length := by
      have := (List.getElem?_eq_some_iff.1 e).1
      simpa using this
     rw [List.getElem?_set_self hlt] at e
     obtain rfl := Option.some.inj e
     exact World.cell?_setCell_same _ _ _ (h.c o vs[o] (List.getElem?_eq_getElem hlt))
   · rw [List.getElem?_set_ne ho] at e
     rw [World.cell?_setCell_other _ _ _ _ (fun e => ho (by injection e))]
     exact h.c i v e
 · rw [World.frozen?_setCell]
   by_cases ho : o = i
   · subst ho
     have hlt : o < vs.length := by
      have := (List.getElem?_eq_some_iff.1 e).1
      simpa using this
     exact h.f o vs[o] (List.getElem?_eq_getElem hlt)
   · rw [List.getElem?_set_ne ho] at e
     exact h.f i v e
theorem Blk.made (w : World) (t : TypeId) (vs : List Value) {n : Nat} (hn : w.heap.size = n) : Blk (w.alloc (.cells vs.toArray t)) n vs := by
 subst hn
 exact ⟨fun i v e => by simpa [World.cell?_alloc_new] using e, fun i v _ => by simp [World.frozen?_alloc_new], by simp⟩
theorem Blk.cast {us : List Value} (h : Blk w b vs) (e : vs = us) : Blk w b us := e ▸ h
end
theorem box1 (w : World) (a : Obj) : Below w.heap.size w (w.alloc a) := (Below.refl _ _).alloc (Nat.le_refl _) _
theorem box2 (w : World) (a b : Obj) : Below w.heap.size w ((w.alloc a).alloc b) := (box1 w a).alloc (by simp) _
end Go.Proofs.YtchmepalhldpcaaGreatDoor.Ov
namespace Go.Proofs.YtchmepalhldpcaaGreatDoor
open Go
theorem ck5 {w : World} {b : Nat} {x0 x1 x2 x3 x4 : Value} {t : List Value} (h : Ov.Blk w b (x0 :: x1 :: x2 :: x3 :: x4 :: t)) : w.cell? ⟨b, 0, none⟩ = some x0 ∧ w.cell? ⟨b, 1, none⟩ = some x1 ∧ w.cell? ⟨b, 2, none⟩ = some x2 ∧ w.cell? ⟨b, 3, none⟩ = some x3 ∧ w.cell? ⟨b, 4, none⟩ = some x4 :=
 ⟨h.c 0 _ rfl, h.c 1 _ rfl, h.c 2 _ rfl, h.c 3 _ rfl, h.c 4 _ rfl⟩
theorem ck6 {w : World} {b : Nat} {x0 x1 x2 x3 x4 x5 : Value} {t : List Value} (h : Ov.Blk w b (x0 :: x1 :: x2 :: x3 :: x4 :: x5 :: t)) : w.cell? ⟨b, 0, none⟩ = some x0 ∧ w.cell? ⟨b, 1, none⟩ = some x1 ∧ w.cell? ⟨b, 2, none⟩ = some x2 ∧ w.cell? ⟨b, 3, none⟩ = some x3 ∧ w.cell? ⟨b, 4, none⟩ = some x4 ∧ w.cell? ⟨b, 5, none⟩ = some x5 :=
 ⟨h.c 0 _ rfl, h.c 1 _ rfl, h.c 2 _ rfl, h.c 3 _ rfl, h.c 4 _ rfl, h.c 5 _ rfl⟩
theorem ck7 {w : World} {b : Nat} {x0 x1 x2 x3 x4 x5 x6 : Value} {t : List Value} (h : Ov.Blk w b (x0 :: x1 :: x2 :: x3 :: x4 :: x5 :: x6 :: t)) : w.cell? ⟨b, 0, none⟩ = some x0 ∧ w.cell? ⟨b, 1, none⟩ = some x1 ∧ w.cell? ⟨b, 2, none⟩ = some x2 ∧ w.cell? ⟨b, 3, none⟩ = some x3 ∧ w.cell? ⟨b, 4, none⟩ = some x4 ∧ w.cell? ⟨b, 5, none⟩ = some x5 ∧ w.cell? ⟨b, 6, none⟩ = some x6 :=
 ⟨h.c 0 _ rfl, h.c 1 _ rfl, h.c 2 _ rfl, h.c 3 _ rfl, h.c 4 _ rfl, h.c 5 _ rfl, h.c 6 _ rfl⟩
theorem ck11 {w : World} {b : Nat} {x0 x1 x2 x3 x4 x5 x6 x7 x8 x9 x10 : Value} {t : List Value} (h : Ov.Blk w b (x0 :: x1 :: x2 :: x3 :: x4 :: x5 :: x6 :: x7 :: x8 :: x9 :: x10 :: t)) : w.cell? ⟨b, 0, none⟩ = some x0 ∧ w.cell? ⟨b, 1, none⟩ = some x1 ∧ w.cell? ⟨b, 2, none⟩ = some x2 ∧ w.cell? ⟨b, 3, none⟩ = some x3 ∧ w.cell? ⟨b, 4, none⟩ = some x4 ∧ w.cell? ⟨b, 5, none⟩ = some x5 ∧ w.cell? ⟨b, 6, none⟩ = some x6 ∧ w.cell? ⟨b, 7, none⟩ = some x7 ∧ w.cell? ⟨b, 8, none⟩ = some x8 ∧ w.cell? ⟨b, 9, none⟩ = some x9 ∧ w.cell? ⟨b, 10, none⟩ = some x10 :=
 ⟨h.c 0 _ rfl, h.c 1 _ rfl, h.c 2 _ rfl, h.c 3 _ rfl, h.c 4 _ rfl, h.c 5 _ rfl, h.c 6 _ rfl, h.c 7 _ rfl, h.c 8 _ rfl, h.c 9 _ rfl, h.c 10 _ rfl⟩
end Go.Proofs.YtchmepalhldpcaaGreatDoor
namespace Go.Proofs.YtchmepalhldpcaaGreatDoor.Tp
open Go.ChangeShapes Go.WideShapes Go.ChangeAt Go.RowKit Ov
def nb (n : Nat) : List UInt8 := if n < 128 then [UInt8.ofNat n] else UInt8.ofNat (n % 128 + 128) :: nb (n / 128)
termination_by n
decreasing_by omega
theorem nb_lt {n : Nat} (h : n < 128) : nb n = [UInt8.ofNat n] := by rw [nb, if_pos h]
theorem nb_ge {n : Nat} (h : ¬ n < 128) : nb n = UInt8.ofNat (n % 128 + 128) :: nb (n / 128) := by rw [nb, if_neg h]
theorem nb_ne (n : Nat) : nb n ≠ [] := by
 by_cases h : n < 128
 · rw [nb_lt h]; simp
 · rw [nb_ge h]; simp
theorem nb_len (k n : Nat) (h : n < 128 ^ (k + 1)) : (nb n).length ≤ k + 1 := by
 induction k generalizing n with
 | zero => rw [nb_lt (by simpa using h)]; simp
 | succ k ih =>
   by_cases h1 : n < 128
   · rw [nb_lt h1]; simp
   · rw [nb_ge h1, List.length_cons]
     have := ih (n / 128) (Nat.div_lt_of_lt_mul (by rw [Nat.pow_succ] at h; omega))
     omega
theorem nb_len8 {n : Nat} (h : n ≤ 9007199254740991) : (nb n).length ≤ 8 := nb_len 7 n (by omega)
theorem u8_nat {n : Nat} (h : n < 256) : (UInt8.ofNat n).toNat = n := by
 rw [UInt8.toNat_ofNat']; omega
def cn : Nat → Nat → List UInt8 → Nat × List UInt8 × Nat
 | _, _, [] => (0, [], 2)
 | i, n, b :: t =>
   if 128 ≤ b.toNat ∧ i + 1 < 8 then cn (i + 1) (n + b.toNat % 128 * 2 ^ (7 * i)) t
   else if 128 ≤ b.toNat ∨ (b.toNat = 0 ∧ 1 < i + 1) ∨ 9007199254740991 < n + b.toNat % 128 * 2 ^ (7 * i) then (0, [], 6)
   else (n + b.toNat % 128 * 2 ^ (7 * i), t, 0)
theorem cn_ok (i n : Nat) (l : List UInt8) (h : (cn i n l).2.2 = 0) : (cn i n l).2.1.length < l.length ∧ (cn i n l).1 ≤ 9007199254740991 := by
 induction l generalizing i n with
 | nil => simp [cn] at h
 | cons b t ih =>
   rw [cn] at h ⊢
   by_cases h1 : 128 ≤ b.toNat ∧ i + 1 < 8
   · rw [if_pos h1] at h ⊢
     have := ih _ _ h
     simp only [List.length_cons]; omega
   · rw [if_neg h1] at h ⊢
     by_cases h2 : 128 ≤ b.toNat ∨ (b.toNat = 0 ∧ 1 < i + 1) ∨ 9007199254740991 < n + b.toNat % 128 * 2 ^ (7 * i)
     · rw [if_pos h2] at h; simp at h
     · rw [if_neg h2]
       simp only [List.length_cons]; omega
theorem cn_err (i n : Nat) (l : List UInt8) (h : (cn i n l).2.2 ≠ 0) : (cn i n l).1 = 0 ∧ (cn i n l).2.1 = [] := by
 induction l generalizing i n with
 | nil => simp [cn]
 | cons b t ih =>
   rw [cn] at h ⊢
   by_cases h1 : 128 ≤ b.toNat ∧ i + 1 < 8
   · rw [if_pos h1] at h ⊢
     exact ih _ _ h
   · rw [if_neg h1] at h ⊢
     by_cases h2 : 128 ≤ b.toNat ∨ (b.toNat = 0 ∧ 1 < i + 1) ∨ 9007199254740991 < n + b.toNat % 128 * 2 ^ (7 * i)
     · rw [if_pos h2]; exact ⟨rfl, rfl⟩
     · rw [if_neg h2] at h; exact absurd rfl h
theorem cn_nb (x : Nat) : ∀ (i m : Nat) (t : List UInt8), (x = 0 → i = 0) → m + x * 2 ^ (7 * i) ≤ 9007199254740991 → cn i m (nb x ++ t) = (m + x * 2 ^ (7 * i), t, 0) := by
 induction x using Nat.strongRecOn with
 | _ x ih =>
   intro i m t h0 hm
   by_cases h : x < 128
   · rw [nb_lt h]
     show cn i m (UInt8.ofNat x :: t) = _
     rw [cn, u8_nat (by omega), if_neg (by omega), Nat.mod_eq_of_lt h, if_neg (by omega)]
   · rw [nb_ge h]
     show cn i m (UInt8.ofNat (x % 128 + 128) :: (nb (x / 128) ++ t)) = _
     have hi : i + 1 < 8 := by
      apply Nat.lt_of_not_le
      intro hi
      have h1 : 2 ^ 49 ≤ 2 ^ (7 * i) := Nat.pow_le_pow_right (by omega) (by omega)
      have h2 : 128 * 2 ^ 49 ≤ x * 2 ^ (7 * i) := Nat.mul_le_mul (by omega) h1
      omega
     have e1 : (x % 128 + 128) % 128 = x % 128 := by omega
     have e2 : 2 ^ (7 * (i + 1)) = 128 * 2 ^ (7 * i) := by
      rw [show 7 * (i + 1) = 7 + 7 * i by omega, Nat.pow_add]
     have e3 : m + x % 128 * 2 ^ (7 * i) + x / 128 * 2 ^ (7 * (i + 1)) = m + x * 2 ^ (7 * i) := by
      rw [e2, ← Nat.mul_assoc, Nat.add_assoc, ← Nat.add_mul, show x % 128 + x / 128 * 128 = x by omega]
     rw [cn, u8_nat (by omega), if_pos ⟨by omega, hi⟩, e1]
     rw [ih (x / 128) (by omega) (i + 1) _ t (by omega) (by rw [e3]; exact hm), e3]
theorem cn_laid (x : Nat) (t : List UInt8) (h : x ≤ 9007199254740991) : cn 0 0 (nb x ++ t) = (x, t, 0) := by
 have := cn_nb x 0 0 t (fun _ => rfl) (by simpa using h)
 simpa using this
end Go.Proofs.YtchmepalhldpcaaGreatDoor.Tp
namespace Go.Proofs.YtchmepalhldpcaaGreatDoor.Ga
def fb (n : Int) : Bool := decide (-16777216 ≤ n ∧ n ≤ 16777216)
structure Pt where
 x : Int
 y : Int
 deriving DecidableEq
def rb (a : Pt) : Bool := fb a.x && fb a.y
def near (n d : Int) : Int := (2 * n + d) / (2 * d)
namespace Pt
def zero : Pt := ⟨0, 0⟩
def one : Pt := ⟨1, 0⟩
def add (a b : Pt) : Pt := ⟨a.x + b.x, a.y + b.y⟩
def sub (a b : Pt) : Pt := ⟨a.x - b.x, a.y - b.y⟩
def mul (a b : Pt) : Pt := ⟨a.x * b.x - a.y * b.y, a.x * b.y + a.y * b.x⟩
def conj (a : Pt) : Pt := ⟨a.x, -a.y⟩
def norm (a : Pt) : Int := a.x * a.x + a.y * a.y
def turn (a : Pt) : Pt := ⟨-a.y, a.x⟩
def quo (a b : Pt) : Pt := ⟨near (a.mul b.conj).x b.norm, near (a.mul b.conj).y b.norm⟩
def rest (a b : Pt) : Pt := a.sub ((a.quo b).mul b)
end Pt
end Go.Proofs.YtchmepalhldpcaaGreatDoor.Ga
namespace Go.Proofs.YtchmepalhldpcaaGreatDoor.Va
open Tp Ga
structure Va where
 k : Int
 n : Int
 s : List UInt8
 x : Int
 y : Int
 deriving DecidableEq
def rt (v : Va) : Bool := decide ((v.k = 0 ∧ -9007199254740992 ≤ v.n ∧ v.n ≤ 9007199254740992 ∧ v.s = [] ∧ v.x = 0 ∧ v.y = 0) ∨ (v.k = 1 ∧ v.n = 0 ∧ v.s.length ≤ 4096 ∧ v.x = 0 ∧ v.y = 0) ∨
 (v.k = 2 ∧ v.n = 0 ∧ v.s = [] ∧ rb ⟨v.x, v.y⟩ = true))
def cS (a b : List UInt8) : Int := if Op.bytesLess a b = true then -1 else if Op.bytesLess b a = true then 1 else 0
def pl (c : UInt8) : Bool := decide (32 ≤ c.toNat ∧ c.toNat ≤ 126 ∧ c.toNat ≠ 34 ∧ c.toNat ≠ 92)
def hx (n : Nat) : UInt8 := UInt8.ofNat (if n < 10 then 48 + n else 87 + n)
def e1 (c : UInt8) : List UInt8 := if pl c = true then [c] else [92, hx (c.toNat / 16), hx (c.toNat % 16)]
def esc (l : List UInt8) : List UInt8 := l.flatMap e1
def wr (v : Va) : List UInt8 :=
 if v.k = 1 then 34 :: (esc v.s ++ [34])
 else if v.k = 2 then (Lib.itoa v.x ++ [58]) ++ Lib.itoa v.y
 else Lib.itoa v.n
end Go.Proofs.YtchmepalhldpcaaGreatDoor.Va
namespace Go.Proofs.YtchmepalhldpcaaGreatDoor
open Go
instance : Coe Va.Va (List Value) := ⟨fun v => [.int .i64 v.k, .int .i64 v.n, .string (Ov.tx v.s), .int .i64 v.x, .int .i64 v.y]⟩
instance : Coe Va.Va (Array Value) := ⟨fun v => #[.int .i64 v.k, .int .i64 v.n, .string (Ov.tx v.s), .int .i64 v.x, .int .i64 v.y]⟩
structure Zr where
instance : Coe Zr (List Value) := ⟨fun _ => [.int .i64 0, .int .i64 0, .string ⟨#[]⟩, .int .i64 0, .int .i64 0]⟩
instance : Coe Zr (Array Value) := ⟨fun _ => #[.int .i64 0, .int .i64 0, .string ⟨#[]⟩, .int .i64 0, .int .i64 0]⟩
def zz : Zr := ⟨⟩

end Go.Proofs.YtchmepalhldpcaaGreatDoor
namespace Go.Proofs.YtchmepalhldpcaaGreatDoor.Va
open Ov Tp Ga
def dg (c : UInt8) : Bool := decide (48 ≤ c.toNat ∧ c.toNat ≤ 57)
def tw (l : List UInt8) : Nat := (l.takeWhile dg).length
def dv (l : List UInt8) : Nat := l.foldl (fun a c => 10 * a + (c.toNat - 48)) 0
theorem tw_cons (c : UInt8) (t : List UInt8) : tw (c :: t) = if dg c = true then tw t + 1 else 0 := by
 unfold tw; rw [List.takeWhile_cons]; split <;> simp
theorem tw_le (l : List UInt8) : tw l ≤ l.length := by
 induction l with
 | nil => simp [tw]
 | cons c t ih => rw [tw_cons]; split <;> simp <;> omega
theorem tw_yes {l : List UInt8} {k : Nat} (hk : k < l.length) (h : k ≤ tw l) (hd : dg l[k] = true) : k + 1 ≤ tw l := by
 induction l generalizing k with
 | nil => simp at hk
 | cons c t ih =>
   rw [tw_cons] at h ⊢
   cases k with
   | zero =>
     have hd' : dg c = true := hd
     rw [if_pos hd']; omega
   | succ k =>
     have hc : dg c = true := by
      rcases Bool.eq_false_or_eq_true (dg c) with e | e
      · exact e
      · rw [e] at h; simp at h
     rw [if_pos hc] at h ⊢
     have := ih (k := k) (by simpa using hk) (by omega) hd
     omega
theorem tw_no {l : List UInt8} {k : Nat} (hk : k < l.length) (h : k ≤ tw l) (hd : dg l[k] = false) : tw l = k := by
 induction l generalizing k with
 | nil => simp at hk
 | cons c t ih =>
   rw [tw_cons] at h ⊢
   cases k with
   | zero =>
     have hd' : dg c = false := hd
     rw [hd']; rfl
   | succ k =>
     have hc : dg c = true := by
      rcases Bool.eq_false_or_eq_true (dg c) with e | e
      · exact e
      · rw [e] at h; simp at h
     rw [if_pos hc] at h ⊢
     have := ih (k := k) (by simpa using hk) (by omega) hd
     omega
theorem dv_snoc (l : List UInt8) (c : UInt8) : dv (l ++ [c]) = 10 * dv l + (c.toNat - 48) := by
 unfold dv; rw [List.foldl_append]; rfl
theorem snoc_ind {p : List UInt8 → Prop} (h0 : p []) (h1 : ∀ l c, p l → p (l ++ [c])) (l : List UInt8) : p l := by
 have key : ∀ r : List UInt8, p r.reverse := fun r => by
  induction r with
  | nil => exact h0
  | cons c t ih => rw [List.reverse_cons]; exact h1 _ _ ih
 have := key l.reverse
 rwa [List.reverse_reverse] at this
theorem dec_small {m : Nat} (h : m < 10) : Lib.decDigits m = [UInt8.ofNat (48 + m)] := by rw [Lib.decDigits, dif_pos h]
theorem dec_big {m : Nat} (h : ¬ m < 10) : Lib.decDigits m = Lib.decDigits (m / 10) ++ [UInt8.ofNat (48 + m % 10)] := by rw [Lib.decDigits, dif_neg h]
theorem dec_ne (m : Nat) : Lib.decDigits m ≠ [] := by
 by_cases h : m < 10
 · rw [dec_small h]; simp
 · rw [dec_big h]; simp
theorem dec_all (m : Nat) : ∀ c ∈ Lib.decDigits m, dg c = true := by
 induction m using Nat.strongRecOn with
 | _ m ih =>
   have one : ∀ k, k < 10 → dg (UInt8.ofNat (48 + k)) = true := fun k hk => by
    unfold dg; rw [u8_nat (by omega)]; exact decide_eq_true (by omega)
   by_cases h : m < 10
   · rw [dec_small h]; intro c hc; rw [List.mem_singleton] at hc; subst hc; exact one m h
   · rw [dec_big h]; intro c hc
     rcases List.mem_append.1 hc with hc | hc
     · exact ih (m / 10) (by omega) c hc
     · rw [List.mem_singleton] at hc; subst hc; exact one _ (by omega)
theorem dec_dv (m : Nat) : dv (Lib.decDigits m) = m := by
 induction m using Nat.strongRecOn with
 | _ m ih =>
   by_cases h : m < 10
   · rw [dec_small h]
     show 10 * 0 + ((UInt8.ofNat (48 + m)).toNat - 48) = m
     rw [u8_nat (by omega)]; omega
   · rw [dec_big h, dv_snoc, ih (m / 10) (by omega), u8_nat (by omega)]; omega
end Go.Proofs.YtchmepalhldpcaaGreatDoor.Va
namespace Go.Proofs.YtchmepalhldpcaaGreatDoor.Fr
open Ov Tp Ga Va
structure Fd where
 t : Int
 a : Int
 p : Int
 f : Int
theorem Fd.eq_iff {x y : Fd} : x = y ↔ x.t = y.t ∧ x.a = y.a ∧ x.p = y.p ∧ x.f = y.f := by
 obtain ⟨a, b, c, d⟩ := x; obtain ⟨a', b', c', d'⟩ := y; simp
instance : DecidableEq Fd := fun _ _ => decidable_of_iff _ Fd.eq_iff.symm
instance : Inhabited Fd := ⟨⟨0, 0, 0, 0⟩⟩
def z0 : Fd := ⟨0, 0, 0, 0⟩
def ns (x : Fd) : List Int := [x.t, x.a, x.p, x.f]
theorem ns_inj {x y : Fd} (h : ns x = ns y) : x = y := by
 obtain ⟨a, b, c, d⟩ := x; obtain ⟨a', b', c', d'⟩ := y; simpa [ns] using h
def r1 (n : Int) : Bool := decide (0 ≤ n ∧ n ≤ 2147483647)
theorem r1_iff {n : Int} : r1 n = true ↔ 0 ≤ n ∧ n ≤ 2147483647 := by simp [r1]
def rt (x : Fd) : Bool := (ns x).all r1
theorem rt_iff {x : Fd} : rt x = true ↔ (0 ≤ x.t ∧ x.t ≤ 2147483647) ∧ (0 ≤ x.a ∧ x.a ≤ 2147483647) ∧ (0 ≤ x.p ∧ x.p ≤ 2147483647) ∧ 0 ≤ x.f ∧ x.f ≤ 2147483647 := by
 simp [rt, ns, r1_iff]
theorem rt_at {x : Fd} (h : rt x = true) {n : Int} (hn : n ∈ ns x) : 0 ≤ n ∧ n ≤ 2147483647 := r1_iff.1 (List.all_eq_true.1 h n hn)
def lt4 : List UInt8 := [116, 97, 112, 102]
def pre (x : Fd) : Nat → List UInt8
 | 0 => []
 | k + 1 => pre x k ++ lt4.getD k 0 :: Lib.itoa ((ns x).getD k 0)
def nm (x : Fd) : List UInt8 := if rt x = true then pre x 4 else []
theorem nm_rt {x : Fd} (h : rt x = true) : nm x = pre x 4 := if_pos h
theorem nm_no {x : Fd} (h : rt x = false) : nm x = [] := if_neg (by simp [h])
theorem nm_ne {x : Fd} : nm x ≠ [] ↔ rt x = true := by
 cases h : rt x
 · simp [nm_no h]
 · simp [nm_rt h, pre]
theorem itoa_dg {n : Int} (h : 0 ≤ n) : ∀ c ∈ Lib.itoa n, dg c = true := by
 unfold Lib.itoa
 rw [if_neg (by omega)]
 exact dec_all _
theorem itoa_no {n : Int} (h : 0 ≤ n) {c : UInt8} (hc : dg c = false) : c ∉ Lib.itoa n := fun hm => by have := itoa_dg h c hm; rw [hc] at this; cases this
theorem lt4_dg (k : Nat) (hk : k < 4) : dg (lt4.getD k 0) = false := by
 match k, hk with
 | 0, _ => rfl
 | 1, _ => rfl
 | 2, _ => rfl
 | 3, _ => rfl
theorem ns_at {x : Fd} (h : rt x = true) (k : Nat) (hk : k < 4) : 0 ≤ (ns x).getD k 0 ∧ (ns x).getD k 0 ≤ 2147483647 := by
 obtain ⟨h1, h2, h3, h4⟩ := rt_iff.1 h
 match k, hk with
 | 0, _ => exact h1
 | 1, _ => exact h2
 | 2, _ => exact h3
 | 3, _ => exact h4
theorem parse_dg : ∀ (l : List UInt8) (acc : Nat), (∀ c ∈ l, dg c = true) → (l.foldl (fun a c => 10 * a + (c.toNat - 48)) acc) < 18446744073709551616 → Lib.parseUint10 acc l = .ok (l.foldl (fun a c => 10 * a + (c.toNat - 48)) acc)
 | [], _, _, _ => rfl
 | c :: r, acc, hd, hb => by
   have h1 : 48 ≤ c.toNat ∧ c.toNat ≤ 57 := by simpa [dg] using hd c List.mem_cons_self
   have grow : ∀ (l : List UInt8) (a : Nat), a ≤ l.foldl (fun a c => 10 * a + (c.toNat - 48)) a := by
    intro l
    induction l with
    | nil => intro a; exact Nat.le_refl _
    | cons c t ih => intro a; exact Nat.le_trans (by omega) (ih (10 * a + (c.toNat - 48)))
   have h2 := grow r (10 * acc + (c.toNat - 48))
   have hb' : r.foldl (fun a c => 10 * a + (c.toNat - 48)) (10 * acc + (c.toNat - 48)) < 18446744073709551616 := hb
   have e : acc * 10 + (c.toNat - 48) = 10 * acc + (c.toNat - 48) := by omega
   unfold Lib.parseUint10
   rw [if_pos h1, if_neg (by omega), if_neg (by omega), e]
   exact parse_dg r _ (fun x hx => hd x (List.mem_cons_of_mem _ hx)) hb'
theorem atoi_itoa {n : Int} (h : 0 ≤ n ∧ n ≤ 2147483647) : Lib.atoiAll (Lib.itoa n) = .ok n := by
 have e : Lib.itoa n = Lib.decDigits n.toNat := by unfold Lib.itoa; rw [if_neg (by omega)]
 have hv : (Lib.decDigits n.toNat).foldl (fun a c => 10 * a + (c.toNat - 48)) 0 = n.toNat := dec_dv n.toNat
 have hp := parse_dg (Lib.decDigits n.toNat) 0 (dec_all _) (by rw [hv]; omega)
 rw [hv] at hp
 rw [e]
 cases hd : Lib.decDigits n.toNat with
 | nil => exact absurd hd (dec_ne _)
 | cons c r =>
   have hc : 48 ≤ c.toNat ∧ c.toNat ≤ 57 := by simpa [dg] using dec_all n.toNat c (by rw [hd]; exact List.mem_cons_self)
   rw [hd] at hp
   unfold Lib.atoiAll
   simp only []
   rw [if_neg (by omega)]
   unfold Lib.parseMag
   rw [if_neg (by simp), hp]
   simp only []
   rw [if_neg (by omega), if_neg (by omega), if_neg (by omega)]
   congr 1
   omega
theorem last_of {u v : List UInt8} {c : UInt8} (h : c ∉ v) : Lib.lastIndexByte (tx (u ++ c :: v)) (c.toNat : Int) = (u.length : Int) := by
 have hat : ∀ j, j < (u ++ c :: v).length → (tx (u ++ c :: v)).data[j]! = (u ++ c :: v).getD j 0 := fun j hj => by
  have e : (tx (u ++ c :: v)).data.toList = u ++ c :: v := tx_list _
  have hj' : j < (tx (u ++ c :: v)).data.size := by rw [← Array.length_toList, e]; exact hj
  rw [getElem!_pos _ j hj', List.getD_eq_getElem?_getD, List.getElem?_eq_getElem hj]
  rfl
 have hz : (tx (u ++ c :: v)).size = u.length + (v.length + 1) := by rw [tx_size]; simp
 have hl : (u ++ c :: v).length = u.length + (v.length + 1) := by simp
 rcases Lib.lastIndexByte_spec (tx (u ++ c :: v)) (c.toNat : Int) with ⟨_, hn⟩ | ⟨i, hi, e, hc, hn⟩
 · exfalso
   refine hn u.length (by omega) ?_
   rw [hat _ (by omega)]; simp
 · rw [e]
   rcases Nat.lt_trichotomy i u.length with h1 | h1 | h1
   · exfalso
     refine hn u.length h1 (by omega) ?_
     rw [hat _ (by omega)]; simp
   · rw [h1]
   · exfalso
     rw [hat i (by omega)] at hc
     have hv : (u ++ c :: v).getD i 0 ∈ v := by
      rw [List.getD_eq_getElem?_getD, List.getElem?_append_right (by omega), show i - u.length = (i - u.length - 1) + 1 by omega, List.getElem?_cons_succ, List.getElem?_eq_getElem (by omega)]
      exact List.getElem_mem _
     have : (u ++ c :: v).getD i 0 = c := UInt8.toNat_inj.1 (by omega)
     exact h (this ▸ hv)
theorem sep_inj {c : UInt8} (hc : dg c = false) : ∀ {d e r s : List UInt8}, (∀ x ∈ d, dg x = true) → (∀ x ∈ e, dg x = true) → d ++ c :: r = e ++ c :: s → d = e ∧ r = s
 | [], [], _, _, _, _, h => by injection h with _ h; exact ⟨rfl, h⟩
 | [], y :: e, _, _, _, he, h => by injection h with h _; have := he y List.mem_cons_self; rw [← h, hc] at this; cases this
 | x :: d, [], _, _, hd, _, h => by injection h with h _; have := hd x List.mem_cons_self; rw [h, hc] at this; cases this
 | x :: d, y :: e, r, s, hd, he, h => by
   injection h with h1 h2
   obtain ⟨h3, h4⟩ := sep_inj hc (fun z hz => hd z (List.mem_cons_of_mem _ hz)) (fun z hz => he z (List.mem_cons_of_mem _ hz)) h2
   exact ⟨by rw [h1, h3], h4⟩
theorem itoa_inj {m n : Int} (hm : 0 ≤ m ∧ m ≤ 2147483647) (hn : 0 ≤ n ∧ n ≤ 2147483647) (h : Lib.itoa m = Lib.itoa n) : m = n := by
 have h1 := atoi_itoa hm
 rw [h, atoi_itoa hn] at h1
 injection h1 with h1
 exact h1.symm
theorem pre4 (x : Fd) : pre x 4 = 116 :: (Lib.itoa x.t ++ 97 :: (Lib.itoa x.a ++ 112 :: (Lib.itoa x.p ++ 102 :: Lib.itoa x.f))) := by simp [pre, lt4, ns]
theorem nm_inj {x y : Fd} (hx : rt x = true) (hy : rt y = true) (h : nm x = nm y) : x = y := by
 obtain ⟨x1, x2, x3, x4⟩ := rt_iff.1 hx
 obtain ⟨y1, y2, y3, y4⟩ := rt_iff.1 hy
 rw [nm_rt hx, nm_rt hy, pre4, pre4] at h
 injection h with _ h
 obtain ⟨e1, h⟩ := sep_inj (c := 97) rfl (itoa_dg x1.1) (itoa_dg y1.1) h
 obtain ⟨e2, h⟩ := sep_inj (c := 112) rfl (itoa_dg x2.1) (itoa_dg y2.1) h
 obtain ⟨e3, e4⟩ := sep_inj (c := 102) rfl (itoa_dg x3.1) (itoa_dg y3.1) h
 exact Fd.eq_iff.2 ⟨itoa_inj x1 y1 e1, itoa_inj x2 y2 e2, itoa_inj x3 y3 e3, itoa_inj x4 y4 e4⟩
def lx : List Int → List Int → Int
 | a :: s, b :: t => if a < b then -1 else if b < a then 1 else lx s t
 | _, _ => 0
def cf (x y : Fd) : Int := lx (ns x) (ns y)
theorem lx_self : ∀ l : List Int, lx l l = 0
 | [] => rfl
 | a :: s => by rw [lx, if_neg (by omega), if_neg (by omega)]; exact lx_self s
theorem lx_zero : ∀ {l m : List Int}, l.length = m.length → lx l m = 0 → l = m
 | [], [], _, _ => rfl
 | [], _ :: _, h, _ => by cases h
 | _ :: _, [], h, _ => by cases h
 | a :: s, b :: t, hl, h => by
   rw [lx] at h
   split at h
   · cases h
   · split at h
     · cases h
     · rw [lx_zero (by simpa using hl) h, show a = b by omega]
theorem lx_flip : ∀ (l m : List Int), l.length = m.length → lx m l = - lx l m
 | [], [], _ => rfl
 | [], _ :: _, h => by cases h
 | _ :: _, [], h => by cases h
 | a :: s, b :: t, hl => by
   rw [lx, lx]
   by_cases h1 : a < b
   · rw [if_neg (by omega), if_pos h1, if_pos h1]; rfl
   · by_cases h2 : b < a
     · rw [if_pos h2, if_neg h1, if_pos h2]
     · rw [if_neg h2, if_neg h1, if_neg h1, if_neg h2]; exact lx_flip s t (by simpa using hl)
theorem lx_trans : ∀ {l m n : List Int}, l.length = m.length → m.length = n.length → lx l m ≤ 0 → lx m n ≤ 0 → lx l n ≤ 0 ∧ (lx l n = 0 → lx l m = 0 ∧ lx m n = 0)
 | [], [], [], _, _, _, _ => by simp [lx]
 | [], _ :: _, _, h, _, _, _ => by cases h
 | _ :: _, [], _, h, _, _, _ => by cases h
 | _, [], _ :: _, _, h, _, _ => by cases h
 | _, _ :: _, [], _, h, _, _ => by cases h
 | a :: s, b :: t, c :: u, hl, hm, h1, h2 => by
   rw [lx] at h1 h2 ⊢
   have ih := lx_trans (l := s) (m := t) (n := u) (by simpa using hl) (by simpa using hm)
   rw [lx, lx]
   by_cases p1 : a < b
   · rw [if_pos p1] at h1 ⊢
     by_cases p2 : b < c
     · rw [if_pos (show a < c by omega)]; exact ⟨by omega, fun q => by omega⟩
     · rw [if_neg p2] at h2
       by_cases p3 : c < b
       · rw [if_pos p3] at h2; omega
       · rw [if_pos (show a < c by omega)]; exact ⟨by omega, fun q => by omega⟩
   · rw [if_neg p1] at h1 ⊢
     by_cases p4 : b < a
     · rw [if_pos p4] at h1; omega
     · rw [if_neg p4] at h1 ⊢
       obtain rfl : a = b := by omega
       by_cases p2 : a < c
       · rw [if_pos p2]; exact ⟨by omega, fun q => by omega⟩
       · rw [if_neg p2] at h2 ⊢
         by_cases p3 : c < a
         · rw [if_pos p3] at h2; omega
         · rw [if_neg p3] at h2 ⊢
           rw [if_neg p2, if_neg p3]
           exact ih h1 h2
theorem cf_flip (x y : Fd) : cf y x = - cf x y := lx_flip _ _ rfl
theorem cf_zero {x y : Fd} (h : cf x y = 0) : x = y := ns_inj (lx_zero rfl h)
theorem cf_self (x : Fd) : cf x x = 0 := lx_self _
theorem cf_trans {x y z : Fd} (h1 : cf x y < 0) (h2 : cf y z < 0) : cf x z < 0 := by
 have := lx_trans (l := ns x) (m := ns y) (n := ns z) rfl rfl (Int.le_of_lt h1) (Int.le_of_lt h2)
 have h3 : cf x z ≤ 0 ∧ (cf x z = 0 → cf x y = 0 ∧ cf y z = 0) := this
 by_cases h : cf x z = 0
 · have := h3.2 h; omega
 · omega
def Ord (l : List Fd) : Prop := l.Pairwise fun x y => cf x y < 0
theorem Ord.nodup {l : List Fd} (h : Ord l) : l.Nodup := h.imp fun {x y} hb e => by rw [e, cf_self] at hb; omega
theorem ord_ext {l l' : List Fd} (h : Ord l) (h' : Ord l') (hm : ∀ x, x ∈ l ↔ x ∈ l') : l = l' :=
 List.Perm.eq_of_pairwise (le := fun (x y : Fd) => cf x y < 0) (fun a b _ _ h1 h2 => by have := cf_trans h1 h2; rw [cf_self] at this; omega) h h' ((List.perm_ext_iff_of_nodup h.nodup h'.nodup).2 hm)
end Go.Proofs.YtchmepalhldpcaaGreatDoor.Fr
namespace Go.Proofs.YtchmepalhldpcaaGreatDoor.Fr
open Go.ChangeShapes Go.WideShapes Go.ChangeAt Go.RowKit Ov
def Two (v : Value) (w : World) (e : Ending) (w' : World) : Prop := e = .returned v ∧ ∃ o1 o2 : Obj, w' = (w.alloc o1).alloc o2
theorem Two.gives {v : Value} {w w' : World} {e : Ending} (h : Two v w e w') : Gives v w e w' := by
 obtain ⟨he, o1, o2, rfl⟩ := h
 exact ⟨he, box2 w o1 o2⟩
set_option maxHeartbeats 1000000 in
theorem of_two (x : Fd) (w : World) : Calls Tryz.prog 20 #[.agg #[.int .i64 x.t, .int .i64 x.a, .int .i64 x.p, .int .i64 x.f]] w (Two (.agg #[.int .i64 x.t, .int .i64 x.a, .int .i64 x.p, .int .i64 x.f]) w) := by
 go_enter Tryz.func20, Tryz.ntmps20
 go_wp2_with (fail)
 (try simp only [Exit.inBlock, Exit.then]); refine bodyPost_ret (v := .agg #[.int .i64 x.t, .int .i64 x.a, .int .i64 x.p, .int .i64 x.f]) (by simp [results, Tryz.results20, go_sem]) rfl ⟨rfl, _, _, rfl⟩
theorem of_any (x : Fd) (w : World) : Calls Tryz.prog 20 #[.agg #[.int .i64 x.t, .int .i64 x.a, .int .i64 x.p, .int .i64 x.f]] w (Gives (.agg #[.int .i64 x.t, .int .i64 x.a, .int .i64 x.p, .int .i64 x.f]) w) := (of_two x w).mono fun _ _ h => h.gives
set_option maxHeartbeats 1000000 in
theorem id_any (x : Fd) (w : World) : Calls Tryz.prog 47 #[.agg #[.int .i64 x.t, .int .i64 x.a, .int .i64 x.p, .int .i64 x.f]] w (Gives (.agg #[.int .i64 x.t, .int .i64 x.a, .int .i64 x.p, .int .i64 x.f]) w) := by
 go_enter Tryz.func47, Tryz.ntmps47
 go_wp2_with (fail)
 (try simp only [Exit.inBlock, Exit.then]); refine bodyPost_ret (v := .agg #[.int .i64 x.t, .int .i64 x.a, .int .i64 x.p, .int .i64 x.f]) (by simp [results, Tryz.results47, go_sem]) rfl (Two.gives ⟨rfl, _, _, rfl⟩)
set_option maxHeartbeats 1000000 in
theorem lof_any (x : Fd) (w : World) : Calls Tryz.prog 7 #[.agg #[.int .i64 x.t, .int .i64 x.a, .int .i64 x.p, .int .i64 x.f]] w (Gives (.agg #[.int .i64 x.t, .int .i64 x.a, .int .i64 x.p, .int .i64 x.f]) w) := by
 go_enter Tryz.func7, Tryz.ntmps7
 go_wp2_with (fail)
 (try simp only [Exit.inBlock, Exit.then]); refine bodyPost_ret (v := .agg #[.int .i64 x.t, .int .i64 x.a, .int .i64 x.p, .int .i64 x.f]) (by simp [results, Tryz.results7, go_sem]) rfl (Two.gives ⟨rfl, _, _, rfl⟩)
set_option maxHeartbeats 1000000 in
theorem lplain_any (x : Fd) (w : World) : Calls Tryz.prog 18 #[.agg #[.int .i64 x.t, .int .i64 x.a, .int .i64 x.p, .int .i64 x.f]] w (Gives (.agg #[.int .i64 x.t, .int .i64 x.a, .int .i64 x.p, .int .i64 x.f]) w) := by
 go_enter Tryz.func18, Tryz.ntmps18
 go_wp2_with (fail)
 (try simp only [Exit.inBlock, Exit.then]); refine bodyPost_ret (v := .agg #[.int .i64 x.t, .int .i64 x.a, .int .i64 x.p, .int .i64 x.f]) (by simp [results, Tryz.results18, go_sem]) rfl (Two.gives ⟨rfl, _, _, rfl⟩)
theorem index_ns (x : Fd) (k : Nat) (hk : k < 4) (w : World) : (Instr.index 51 (.agg #[.int .i64 x.t, .int .i64 x.a, .int .i64 x.p, .int .i64 x.f]) (.int .i64 (k : Int))).run Tryz.prog w = .ok (.int .i64 ((ns x).getD k 0)) w := by
 have hz : ∀ w, (Go.sizeOf 3).run Tryz.prog w = .ok 1 w := fun w => by kernel_rfl
 have ha : ∀ w, (Go.isAgg 3).run Tryz.prog w = .ok false w := fun w => by kernel_rfl
 have h1 : (0 : Int) ≤ (k : Int) ∧ (k : Int) < ((4 : Nat) : Int) := by omega
 simp [Instr.index, run_underlying Tryz.underlying51, asIntOf, hk, part, hz, ha, Sem.run_bind, Result.andThen]
 match k, hk with
 | 0, _ => rfl
 | 1, _ => rfl
 | 2, _ => rfl
 | 3, _ => rfl
theorem index_lt4 (k : Nat) (hk : k < 4) (w : World) : (Instr.index 9 (.string ⟨#[116, 97, 112, 102]⟩) (.int .i64 (k : Int))).run Tryz.prog w = .ok (.int .u8 ((lt4.getD k 0).toNat : Int)) w := by
 obtain h | h | h | h : k = 0 ∨ k = 1 ∨ k = 2 ∨ k = 3 := by omega
 all_goals subst h
 · show (Instr.index 9 (.string ⟨#[116, 97, 112, 102]⟩) (.int .i64 0)).run Tryz.prog w = .ok (.int .u8 116) w
   kernel_rfl
 · show (Instr.index 9 (.string ⟨#[116, 97, 112, 102]⟩) (.int .i64 1)).run Tryz.prog w = .ok (.int .u8 97) w
   kernel_rfl
 · show (Instr.index 9 (.string ⟨#[116, 97, 112, 102]⟩) (.int .i64 2)).run Tryz.prog w = .ok (.int .u8 112) w
   kernel_rfl
 · show (Instr.index 9 (.string ⟨#[116, 97, 112, 102]⟩) (.int .i64 3)).run Tryz.prog w = .ok (.int .u8 102) w
   kernel_rfl
def rtk (x : Fd) (k : Nat) : Bool := ((ns x).take k).all r1
theorem rtk_succ (x : Fd) (k : Nat) (hk : k < 4) : rtk x (k + 1) = (rtk x k && r1 ((ns x).getD k 0)) := by
 unfold rtk
 rw [List.take_succ_eq_append_getElem (show k < (ns x).length from hk), List.all_append]
 simp [List.getD_eq_getElem?_getD, List.getElem?_eq_getElem (show k < (ns x).length from hk)]
theorem rt_false {x : Fd} {k : Nat} (hk : k < 4) (h : r1 ((ns x).getD k 0) = false) : rt x = false := by
 cases hr : rt x
 · rfl
 · have := rt_at hr (n := (ns x).getD k 0) (by
    rw [List.getD_eq_getElem?_getD, List.getElem?_eq_getElem (show k < (ns x).length from hk)]; exact List.getElem_mem _)
   rw [r1_iff.2 this] at h; cases h
set_option maxHeartbeats 2000000 in
theorem right_any (x : Fd) (w : World) : Calls Tryz.prog 6 #[.agg #[.int .i64 x.t, .int .i64 x.a, .int .i64 x.p, .int .i64 x.f]] w (Gives (.bool (rt x)) w) := by
 have ho := fun W => of_any x W
 have hI := fun (k : Nat) (hk : k < 4) W => index_ns x k hk W
 go_enter Tryz.func6, Tryz.ntmps6
 go_wp2_with (fail)
 refine (ho _).mono ?_
 rintro e w1 ⟨rfl, hb⟩
 have HB := Lib.hid (Below.next (box1 w _) hb)
 clear hb ho
 go_wp2_with (fail)
 go_loopw [7] (fun i wr => ∃ k : Nat, k ≤ 4 ∧ i = .int .i64 (k : Int) ∧ Hid (rtk x k = true) ∧ Hid (Below w.heap.size w wr)) (fun i _ => 4 - (intOf i).toNat)
 case atStart => exact ⟨0, by omega, rfl, rfl, HB⟩
 case round =>
  obtain ⟨k, hk, rfl, hr, hb⟩ := hrel
  by_cases hlt : k < 4
  · have hix := hI k hlt
    have hrs := Lib.hid (rtk_succ x k hlt)
    have hrf := Lib.hid (fun q => rt_false (x := x) hlt q)
    have hlt' : (k : Int) < 4 := by omega
    clear hI
    generalize (ns x).getD k 0 = n at hix hrs hrf
    by_cases h1 : n < 0
    · have t1 : decide (n < 0) = true := decide_eq_true h1
      go_wp2_with (fail)
      go_ret
      exact ⟨by rw [hrf.out (by unfold r1; exact decide_eq_false (by omega))]; rfl, hb.out⟩
    · have t1 : decide (n < 0) = false := decide_eq_false h1
      by_cases h2 : 2147483647 < n
      · have t2 : decide (2147483647 < n) = true := decide_eq_true h2
        go_wp2_with (fail)
        go_ret
        exact ⟨by rw [hrf.out (by unfold r1; exact decide_eq_false (by omega))]; rfl, hb.out⟩
      · have t2 : decide (2147483647 < n) = false := decide_eq_false h2
        go_wp2_with (fail)
        go_roundw
        · exact ⟨k + 1, by omega, by first | rfl | (congr 1; omega), Lib.hid (by rw [hrs.out, hr.out]; unfold r1; simp; omega), hb⟩
        · simp [intOf]; omega
  · obtain rfl : k = 4 := by omega
    go_wp2_with (fail)
    go_ret
    exact ⟨by rw [show rt x = true from hr.out]; rfl, hb.out⟩
end Go.Proofs.YtchmepalhldpcaaGreatDoor.Fr
namespace Go.Proofs.YtchmepalhldpcaaGreatDoor.Ov
open Go.ChangeShapes Go.WideShapes Go.ChangeAt Go.RowKit Go.Shelf
def Bld (B b : Nat) (l : List UInt8) (w : World) : Prop := Lib.IsBuilder 70 5 B b (Lib.byteCells l) w
def bwsRen : Ren := ⟨fun | 166 => 30 | 240 => 55 | 276 => 81 | n => n, fun | 0 => 0 | 3 => 3 | 4 => 4 | 5 => 5 | 9 => 9 | 20 => 20 | 37 => 67 | 70 => 68 | 72 => 70 | 75 => 72 | 80 => 77 | 164 => 123 | n => n, fun n => n⟩
theorem bwsLays : Lays.n166 Tryz.prog bwsRen :=
 { mixed := by kernel_rfl
   f166 := by kernel_rfl
   f240 := by kernel_rfl
   f276 := by kernel_rfl
   t0 := by kernel_rfl
   a0 := fun _ => by kernel_rfl
   z0 := fun _ => by kernel_rfl
   v0 := fun _ => by kernel_rfl
   t3 := by kernel_rfl
   a3 := fun _ => by kernel_rfl
   z3 := fun _ => by kernel_rfl
   v3 := fun _ => by kernel_rfl
   t4 := by kernel_rfl
   a4 := fun _ => by kernel_rfl
   z4 := fun _ => by kernel_rfl
   v4 := fun _ => by kernel_rfl
   t9 := by kernel_rfl
   a9 := fun _ => by kernel_rfl
   z9 := fun _ => by kernel_rfl
   v9 := fun _ => by kernel_rfl
   t20 := by kernel_rfl
   a20 := fun _ => by kernel_rfl
   z20 := fun _ => by kernel_rfl
   v20 := fun _ => by kernel_rfl
   t37 := by kernel_rfl
   a37 := fun _ => by kernel_rfl
   z37 := fun _ => by kernel_rfl
   v37 := fun _ => by kernel_rfl
   t70 := by kernel_rfl
   a70 := fun _ => by kernel_rfl
   z70 := fun _ => by kernel_rfl
   v70 := fun _ => by kernel_rfl
   t72 := by kernel_rfl
   a72 := fun _ => by kernel_rfl
   z72 := fun _ => by kernel_rfl
   v72 := fun _ => by kernel_rfl
   t75 := by kernel_rfl
   a75 := fun _ => by kernel_rfl
   z75 := fun _ => by kernel_rfl
   v75 := fun _ => by kernel_rfl
   t164 := by kernel_rfl
   a164 := fun _ => by kernel_rfl
   z164 := fun _ => by kernel_rfl
   v164 := fun _ => by kernel_rfl }
theorem bwsExtra : Builder.Extra Tryz.prog bwsRen :=
 { sizeBuilder := by kernel_rfl
   liesBuilder := by kernel_rfl
   t5 := by kernel_rfl
   a5 := fun _ => by kernel_rfl
   z5 := fun _ => by kernel_rfl
   v5 := fun _ => by kernel_rfl
   infoByte := by kernel_rfl
   cellsByte := by kernel_rfl
   sizeByte := by kernel_rfl
   neB5 := by decide }
theorem write_any (B b : Nat) (l : List UInt8) (s : ByteArray) (w : World) (h : Bld B b l w) (hlen : l.length + s.size ≤ 140737488355328) (hB : B ≤ w.heap.size) :
 Calls Tryz.prog 30 #[.pointer (some ⟨b, 0, none⟩), .string s] w fun e w' => e = .returned (.tuple #[.int .i64 s.size, .nilIface]) ∧ Bld B b (l ++ s.data.toList) w' ∧ Below B w w' :=
 (Any.Builder_WriteString bwsLays bwsExtra B b (Lib.byteCells l) s w h (by rw [Lib.byteCells_length]; exact hlen) hB).mono fun _ w' ⟨he, h1, hb⟩ =>
   ⟨he, by
    rw [Lib.strCells_eq, ← Lib.byteCells_append] at h1
    exact Or.inr h1, hb⟩
def bwbRen : Ren := ⟨fun | 167 => 29 | 240 => 55 | 276 => 81 | n => n, fun | 0 => 0 | 4 => 4 | 5 => 5 | 9 => 9 | 20 => 20 | 37 => 67 | 70 => 68 | 72 => 70 | 75 => 72 | 80 => 77 | 164 => 123 | n => n, fun n => n⟩
theorem bwbLays : Lays.n167 Tryz.prog bwbRen :=
 { mixed := by kernel_rfl
   f167 := by kernel_rfl
   f240 := by kernel_rfl
   f276 := by kernel_rfl
   t0 := by kernel_rfl
   a0 := fun _ => by kernel_rfl
   z0 := fun _ => by kernel_rfl
   v0 := fun _ => by kernel_rfl
   t4 := by kernel_rfl
   a4 := fun _ => by kernel_rfl
   z4 := fun _ => by kernel_rfl
   v4 := fun _ => by kernel_rfl
   t5 := by kernel_rfl
   a5 := fun _ => by kernel_rfl
   z5 := fun _ => by kernel_rfl
   v5 := fun _ => by kernel_rfl
   t9 := by kernel_rfl
   a9 := fun _ => by kernel_rfl
   z9 := fun _ => by kernel_rfl
   v9 := fun _ => by kernel_rfl
   t20 := by kernel_rfl
   a20 := fun _ => by kernel_rfl
   z20 := fun _ => by kernel_rfl
   v20 := fun _ => by kernel_rfl
   t37 := by kernel_rfl
   a37 := fun _ => by kernel_rfl
   z37 := fun _ => by kernel_rfl
   v37 := fun _ => by kernel_rfl
   t70 := by kernel_rfl
   a70 := fun _ => by kernel_rfl
   z70 := fun _ => by kernel_rfl
   v70 := fun _ => by kernel_rfl
   t72 := by kernel_rfl
   a72 := fun _ => by kernel_rfl
   z72 := fun _ => by kernel_rfl
   v72 := fun _ => by kernel_rfl
   t75 := by kernel_rfl
   a75 := fun _ => by kernel_rfl
   z75 := fun _ => by kernel_rfl
   v75 := fun _ => by kernel_rfl
   t164 := by kernel_rfl
   a164 := fun _ => by kernel_rfl
   z164 := fun _ => by kernel_rfl
   v164 := fun _ => by kernel_rfl }
theorem bwbExtra : Builder.Extra Tryz.prog bwbRen :=
 { sizeBuilder := by kernel_rfl
   liesBuilder := by kernel_rfl
   t5 := by kernel_rfl
   a5 := fun _ => by kernel_rfl
   z5 := fun _ => by kernel_rfl
   v5 := fun _ => by kernel_rfl
   infoByte := by kernel_rfl
   cellsByte := by kernel_rfl
   sizeByte := by kernel_rfl
   neB5 := by decide }
theorem byte_any (B b : Nat) (l : List UInt8) (c : UInt8) (w : World) (h : Bld B b l w) (hlen : l.length + 1 ≤ 140737488355328) (hB : B ≤ w.heap.size) :
 Calls Tryz.prog 29 #[.pointer (some ⟨b, 0, none⟩), .int .u8 (c.toNat : Int)] w fun e w' => e = .returned .nilIface ∧ Bld B b (l ++ [c]) w' ∧ Below B w w' :=
 (Any.Builder_WriteByte bwbLays bwbExtra B b (Lib.byteCells l) (c.toNat : Int) w h (by rw [Lib.byteCells_length]; exact hlen) hB).mono fun _ w' ⟨he, h1, hb⟩ =>
   ⟨he, by
    have e : Lib.byteCells (l ++ [c]) = Lib.byteCells l ++ [.int .u8 (c.toNat : Int)] := by simp [Lib.byteCells]
    rw [← e] at h1
    exact Or.inr h1, hb⟩
def bstRen : Ren := ⟨fun | 169 => 32 | n => n, fun | 0 => 0 | 3 => 3 | 5 => 5 | 9 => 9 | 37 => 67 | 70 => 68 | 72 => 70 | 127 => 101 | n => n, fun n => n⟩
theorem bstLays : Lays.n169 Tryz.prog bstRen :=
 { mixed := by kernel_rfl
   f169 := by kernel_rfl
   t0 := by kernel_rfl
   a0 := fun _ => by kernel_rfl
   z0 := fun _ => by kernel_rfl
   v0 := fun _ => by kernel_rfl
   t3 := by kernel_rfl
   a3 := fun _ => by kernel_rfl
   z3 := fun _ => by kernel_rfl
   v3 := fun _ => by kernel_rfl
   t9 := by kernel_rfl
   a9 := fun _ => by kernel_rfl
   z9 := fun _ => by kernel_rfl
   v9 := fun _ => by kernel_rfl
   t37 := by kernel_rfl
   a37 := fun _ => by kernel_rfl
   z37 := fun _ => by kernel_rfl
   v37 := fun _ => by kernel_rfl
   t70 := by kernel_rfl
   a70 := fun _ => by kernel_rfl
   z70 := fun _ => by kernel_rfl
   v70 := fun _ => by kernel_rfl
   t72 := by kernel_rfl
   a72 := fun _ => by kernel_rfl
   z72 := fun _ => by kernel_rfl
   v72 := fun _ => by kernel_rfl
   t127 := by kernel_rfl
   a127 := fun _ => by kernel_rfl
   z127 := fun _ => by kernel_rfl
   v127 := fun _ => by kernel_rfl }
theorem bstExtra : Builder.Extra Tryz.prog bstRen :=
 { sizeBuilder := by kernel_rfl
   liesBuilder := by kernel_rfl
   t5 := by kernel_rfl
   a5 := fun _ => by kernel_rfl
   z5 := fun _ => by kernel_rfl
   v5 := fun _ => by kernel_rfl
   infoByte := by kernel_rfl
   cellsByte := by kernel_rfl
   sizeByte := by kernel_rfl
   neB5 := by decide }
theorem string_any (B b : Nat) (l : List UInt8) (w : World) (h : Bld B b l w) (hB : B ≤ w.heap.size) :
 Calls Tryz.prog 32 #[.pointer (some ⟨b, 0, none⟩)] w fun e w' => e = .returned (.string (tx l)) ∧ Below B w w' :=
 Any.Builder_String_any bstLays bstExtra B b l w h hB
end Go.Proofs.YtchmepalhldpcaaGreatDoor.Ov
namespace Go.Proofs.YtchmepalhldpcaaGreatDoor.Ov
open Go.ChangeShapes Go.WideShapes Go.ChangeAt Go.RowKit
theorem Bld.fresh (w : World) : Bld w.heap.size w.heap.size [] (w.alloc (.cells #[.pointer none, .slice none 0 0] 70)) := Lib.fresh_isBuilder _ _ w
theorem Bld.old {B b : Nat} {l : List UInt8} {w w' : World} (h : Bld B b l w) (k : Below w.heap.size w w') : Bld B b l w' := by
 have key : ∀ p, Lib.BuilderAt 70 5 B b p (Lib.byteCells l) w → Lib.BuilderAt 70 5 B b p (Lib.byteCells l) w' := fun p h => by
  have hlt := h.lt
  obtain ⟨hB, v, hb, hown, hne⟩ := h
  refine ⟨hB, v, by rw [k.block b hlt]; exact hb, hown.kept (row := none) ⟨k.os, k.tape, k.output, k.size, fun i hi _ => k.block i hi⟩ ?_, hne⟩
  cases hv : v.ownBlock with
  | none => exact Or.inl rfl
  | some g => exact Or.inr (by simp)
 exact h.elim (fun h => Or.inl (key _ h)) (fun h => Or.inr (key _ h))
theorem Bld.cast {B b : Nat} {l l' : List UInt8} {w : World} (h : Bld B b l w) (e : l = l') : Bld B b l' w := e ▸ h
theorem info8 : (Tryz.prog.info? 5).map (fun i => (i.zero, i.size, i.bytes)) = some (some (.int .u8 0), 1, 1) := by kernel_rfl
theorem run_text {w : World} {b o c : Nat} {l : List UInt8} {m : Nat} (hm : m = l.length) (h : ∀ j (hj : j < l.length), w.cell? ⟨b, o + j, none⟩ = some (.int .u8 (l[j].toNat : Int))) :
 (convert 67 9 (.slice (some ⟨b, o, none⟩) m c)).run Tryz.prog w = .ok (.string (tx l)) w := by
 have := Lib.run_convert_whole (P := Tryz.prog) w 67 5 9 Tryz.underlying67 Tryz.underlying5 Tryz.underlying9 b o (tx l) (fun i hi => by
  rw [h i (by rwa [tx_size] at hi)]; rfl) c
 rw [tx_size, ← hm] at this
 exact this
theorem one_news (w : World) (v : Value) (ty : TypeId) : ∀ j u, [v][j]? = some u → (w.alloc (.cells #[v] ty)).cell? ((⟨w.heap.size, 0, none⟩ : Addr).add j) = some u := by
 intro a u ha
 match a, ha with
 | 0, ha =>
   simp at ha; subst ha
   simp [Addr.add]
theorem one_one {v : Value} (h : v.oneCell' = true) : ∀ u ∈ [v], u.oneCell' = true := by
 intro u hu; simp at hu; subst hu; exact h
theorem one_base {w w' : World} (h : w.heap.size ≤ w'.heap.size) (o : Obj) : w.heap.size ≤ (w'.alloc o).heap.size := by simp; omega
def vals (l : List UInt8) : List Value := l.map fun b => Value.int .u8 (b.toNat : Int)
theorem vals_snoc (l : List UInt8) (b : UInt8) : vals (l ++ [b]) = vals l ++ [.int .u8 (b.toNat : Int)] := by simp [vals]
theorem vals_get (l : List UInt8) (j : Nat) (h : j < l.length) : (vals l)[j]? = some (.int .u8 (l[j].toNat : Int)) := by simp [vals, h]
theorem run_own_text {w : World} {base m : Nat} {v : Value} {l : List UInt8} (hm : m = l.length) (h : w.ownsRow base 5 1 v m (vals l)) (q : Over w) : (convert 67 9 v).run Tryz.prog q.val = .ok (.string (tx l)) q.val := by
 subst hm
 rcases h.2 with ⟨e1, e2⟩ | ⟨g, cap, cur, rfl, _⟩
 · subst e1
   have hl : l = [] := by
    cases l with
    | nil => rfl
    | cons b l => exact absurd e2 (by simp)
   subst hl
   rw [run_convert_bytes_nil q.val 67 5 Tryz.underlying67 Tryz.underlying5 0 0 9 Tryz.underlying9]
   rfl
 · exact run_text rfl fun j hj => over_cell q (by rw [Nat.zero_add, h.cellAt j (by omega)]; exact vals_get l j hj)
end Go.Proofs.YtchmepalhldpcaaGreatDoor.Ov
namespace Go.Proofs.YtchmepalhldpcaaGreatDoor.Tp
open Go.ChangeShapes Go.WideShapes Go.ChangeAt Go.RowKit Ov
def RelN (n : Nat) (w : World) (N L : Value) (wr : World) : Prop :=
 ∃ (x : Nat) (l : List UInt8), N = .int .i64 (x : Int) ∧ x ≤ 9007199254740991 ∧ l ++ nb x = nb n ∧ wr.ownsRow w.heap.size 5 1 L l.length (vals l) ∧ Below w.heap.size w wr
theorem mk8 (w : World) : (Instr.makeSlice 67 (.int .i64 0) (.int .i64 8)).run Tryz.prog w = .ok (.slice (some ⟨w.heap.size, 0, none⟩) 0 8) (w.alloc (.cells (madeCells #[.int .u8 0] 8) 5)) := by
 obtain ⟨i0, hi, hz0, hz1, hz2⟩ := info_parts info8
 have h := run_make (P := Tryz.prog) w 67 5 i0 (.int .u8 0) Tryz.underlying67 hi hz0 .i64 .i64 0 8 (by omega) (by omega) (by rw [hz2]; omega) (by omega)
 simpa [hz1, Value.cells] using h
set_option maxRecDepth 100000 in
set_option maxHeartbeats 1000000 in
theorem num_yes (n : Nat) (w : World) (hn : n ≤ 9007199254740991) :
 Calls Tryz.prog 39 #[.int .i64 (n : Int)] w fun e w' => e = .returned (.string (tx (nb n))) ∧ Below w.heap.size w w' := by
 obtain ⟨i0, hi0, hz0, hz1, hz2⟩ := info_parts info8
 have HI := Lib.hid hi0; have HZ0 := Lib.hid hz0; have HZ1 := Lib.hid hz1; have HZ2 := Lib.hid hz2
 clear hi0 hz0 hz1 hz2
 have hmk := mk8
 have HL := Lib.hid (nb_len8 hn)
 go_enter Tryz.func39, Tryz.ntmps39
 go_wp2_with (fail)
 clear hmk
 go_loopw [0, 3] (fun N L wr => RelN n w N L wr) (fun N _ _ => (intOf N).toNat)
 case atStart => exact ⟨n, [], rfl, hn, rfl, World.ownsRow_made _ _ 8 (Nat.le_refl _) (by unfold maxLen; omega) (by rw [size_madeCells]), (Below.refl _ _).alloc (Nat.le_refl _) _⟩
 case round =>
  obtain ⟨x, l, rfl, hx, hl, ho, hb⟩ := hrel
  have HE := Lib.hid hl; have HO := Lib.hid ho; have HB := Lib.hid hb
  clear hl ho hb
  have hll : l.length < 8 := by
   have h1 := congrArg List.length HE.out
   rw [List.length_append] at h1
   have h2 := List.length_pos_iff.2 (nb_ne x)
   have h3 := HL.out
   omega
  by_cases hlt : x < 128
  · go_wp2_with (at_builtin; refine wpList_append_own _ rfl _ _ 67 rfl w.heap.size 5 i0 (.int .u8 0) 1 1 Tryz.underlying67 HI.out HZ0.out HZ1.out HZ2.out rfl (by decide) _ _ _ rfl (HO.out.alloc _) ⟨wr.heap.size, 0, none⟩ 1 1 [.int .u8 ((x : Int))] rfl rfl (one_news wr _ _) (one_one rfl) ?c3 ?c4 ?c5 ?_)
    case c3 => unfold maxLen; omega
    case c4 => omega
    case c5 => exact one_base HB.out.size _
    intro v' w1 hown' hgrow _
    have HN : Hid (w1.ownsRow w.heap.size 5 1 v' (l ++ [UInt8.ofNat x]).length (vals (l ++ [UInt8.ofNat x]))) := by
     show World.ownsRow _ _ _ _ _ _ _
     rw [vals_snoc, List.length_append, u8_nat (by omega)]; exact hown'
    have HB1 : Hid (Below w.heap.size w w1) := (HB.out.alloc HB.out.size _).grown hgrow (one_base HB.out.size _) (fun g e => (HO.out.lt g e).1)
    clear hown' hgrow
    have hcv := run_own_text rfl HN.out ⟨w1, Below.refl _ _⟩
    go_wp2
    go_ret
    refine ⟨ret_str ?_, HB1.out⟩
    rw [← HE.out, nb_lt hlt]
  · have hlt' : 128 ≤ x := by omega
    go_wp2_with (at_builtin; refine wpList_append_own _ rfl _ _ 67 rfl w.heap.size 5 i0 (.int .u8 0) 1 1 Tryz.underlying67 HI.out HZ0.out HZ1.out HZ2.out rfl (by decide) _ _ _ rfl (HO.out.alloc _) ⟨wr.heap.size, 0, none⟩ 1 1 [.int .u8 (((x % 128 + 128 : Nat) : Int))] rfl rfl (one_news wr _ _) (one_one rfl) ?c3 ?c4 ?c5 ?_)
    case c3 => unfold maxLen; omega
    case c4 => omega
    case c5 => exact one_base HB.out.size _
    intro v' w1 hown' hgrow _
    have HN : Hid (w1.ownsRow w.heap.size 5 1 v' (l ++ [UInt8.ofNat (x % 128 + 128)]).length (vals (l ++ [UInt8.ofNat (x % 128 + 128)]))) := by
     show World.ownsRow _ _ _ _ _ _ _
     rw [vals_snoc, List.length_append, u8_nat (by omega)]; exact hown'
    have HB1 : Hid (Below w.heap.size w w1) := (HB.out.alloc HB.out.size _).grown hgrow (one_base HB.out.size _) (fun g e => (HO.out.lt g e).1)
    clear hown' hgrow
    go_wp2
    go_roundw
    case rel => exact ⟨x / 128, _, by go_num, by omega, by rw [← HE.out, nb_ge hlt, List.append_assoc]; rfl, HN.out, HB1.out⟩
    case measure => simp [intOf]; omega
def nv (n : Int) : List UInt8 := if n < 0 ∨ 9007199254740991 < n then [] else nb n.toNat
theorem nv_nat {n : Nat} (h : n ≤ 9007199254740991) : nv (n : Int) = nb n := by
 unfold nv; rw [if_neg (by omega)]; rfl
theorem nv_none {n : Int} : nv n = [] ↔ (n < 0 ∨ 9007199254740991 < n) := by
 unfold nv
 by_cases h : n < 0 ∨ 9007199254740991 < n
 · rw [if_pos h]; simp [h]
 · rw [if_neg h]; simp [h, nb_ne]
set_option maxHeartbeats 400000 in
theorem num_none (n : Int) (w : World) (hn : n < 0 ∨ 9007199254740991 < n) :
 Calls Tryz.prog 39 #[.int .i64 n] w fun e w' => e = .returned (.string ⟨#[]⟩) ∧ Below w.heap.size w w' := by
 rcases hn with h | h
 · go_enter Tryz.func39, Tryz.ntmps39
   go_wp2_with (fail)
   go_ret
   exact ⟨rfl, Below.refl _ _⟩
 · have h0 : ¬ n < 0 := by omega
   go_enter Tryz.func39, Tryz.ntmps39
   go_wp2_with (fail)
   go_ret
   exact ⟨rfl, Below.refl _ _⟩
theorem num_any (n : Int) (w : World) :
 Calls Tryz.prog 39 #[.int .i64 n] w fun e w' => e = .returned (.string (tx (nv n))) ∧ Below w.heap.size w w' := by
 by_cases h : n < 0 ∨ 9007199254740991 < n
 · rw [nv_none.2 h]; exact num_none n w h
 · obtain ⟨m, rfl⟩ : ∃ m : Nat, n = (m : Int) := ⟨n.toNat, by omega⟩
   rw [nv_nat (by omega)]
   exact num_yes m w (by omega)
set_option maxHeartbeats 1000000 in
theorem text_any (t : ByteArray) (w : World) (ht : t.size ≤ 281474976710656) :
 Calls Tryz.prog 40 #[.string t] w fun e w' => e = .returned (.string (tx (nb t.size ++ t.data.toList))) ∧ Below w.heap.size w w' := by
 have HE : Hid (tx (nb t.size) ++ t = tx (nb t.size ++ t.data.toList)) := tx_ext (by rw [list_append, tx_list])
 have hz : (tx (nb t.size)).size ≤ 8 := by rw [tx_size]; exact nb_len8 (by omega)
 go_enter Tryz.func40, Tryz.ntmps40
 go_wp2_with (fail)
 refine (num_yes _ _ (by omega)).mono ?_
 rintro e w1 ⟨rfl, hb⟩
 have HB := Lib.hid hb; clear hb
 generalize tx (nb t.size) = u at *
 have hz' : ¬ u.size + t.size > 9223372036854775807 := by omega
 go_wp2_with (fail)
 go_ret
 exact ⟨ret_str HE.out, HB.out⟩
end Go.Proofs.YtchmepalhldpcaaGreatDoor.Tp
namespace Go.Proofs.YtchmepalhldpcaaGreatDoor.Cr
def hv (n : Nat) : Nat := if n % 2 = 1 then (n / 2) ^^^ 3988292384 else n / 2
def hs : Nat → Nat → Nat | 0, n => n | k + 1, n => hs k (hv n)
theorem xor_half (a b : Nat) : (a ^^^ b) / 2 = a / 2 ^^^ b / 2 := by
 have := Nat.shiftRight_xor_distrib (a := a) (b := b) (i := 1)
 simpa [Nat.shiftRight_eq_div_pow] using this
theorem hv_form (n : Nat) : hv n = n / 2 ^^^ 3988292384 * (n % 2) := by
 unfold hv
 by_cases h : n % 2 = 1
 · rw [if_pos h, h]
 · rw [if_neg h, show n % 2 = 0 by omega]; simp
theorem hv_xor (a b : Nat) : hv (a ^^^ b) = hv a ^^^ hv b := by
 rw [hv_form, hv_form a, hv_form b, xor_half]
 have e : (a ^^^ b) % 2 = (a % 2) ^^^ (b % 2) := by
  have := Nat.xor_mod_two_pow (a := a) (b := b) (n := 1)
  simpa using this
 have e3 : ∀ u, u < 2 → ∀ v, v < 2 → 3988292384 * (u ^^^ v) = 3988292384 * u ^^^ 3988292384 * v := by decide
 rw [e, e3 (a % 2) (by omega) (b % 2) (by omega)]
 ac_rfl
theorem hs_xor (k a b : Nat) : hs k (a ^^^ b) = hs k a ^^^ hs k b := by
 induction k generalizing a b with
 | zero => rfl
 | succ k ih => rw [hs, hv_xor, ih]; rfl
theorem hv_lt {n : Nat} (h : n < 4294967296) : hv n < 4294967296 := by
 unfold hv
 split
 · exact Nat.xor_lt_two_pow (n := 32) (by omega) (by omega)
 · omega
theorem hs_lt (k : Nat) {n : Nat} (h : n < 4294967296) : hs k n < 4294967296 := by
 induction k generalizing n with
 | zero => exact h
 | succ k ih => exact ih (hv_lt h)
theorem hs0 (k : Nat) : hs k 0 = 0 := by
 induction k with
 | zero => rfl
 | succ k ih => exact ih
theorem hv_two (n : Nat) : hv (n * 2) = n := by
 unfold hv; rw [if_neg (by omega)]; omega
theorem hs_pow (k n : Nat) : hs k (n * 2 ^ k) = n := by
 induction k generalizing n with
 | zero => simp [hs]
 | succ k ih => rw [hs, Nat.pow_succ, ← Nat.mul_assoc, hv_two, ih]
def st (n : Nat) (b : UInt8) : Nat := hs 8 (n ^^^ b.toNat)
theorem split8 (n : Nat) : n = (n / 256 * 2 ^ 8) ^^^ (n % 256) := by
 apply Nat.eq_of_testBit_eq
 intro i
 have h1 : (n / 256 * 2 ^ 8).testBit i = (decide (8 ≤ i) && n.testBit i) := by
  rw [Nat.testBit_mul_two_pow]
  by_cases h : 8 ≤ i
  · have : (n / 256).testBit (i - 8) = n.testBit i := by
     rw [show (256 : Nat) = 2 ^ 8 from rfl, Nat.testBit_div_two_pow]
     congr 1; omega
    simp [h, this]
  · simp [h]
 have h2 : (n % 256).testBit i = (decide (i < 8) && n.testBit i) := by
  rw [show (256 : Nat) = 2 ^ 8 from rfl, Nat.testBit_mod_two_pow]
 rw [Nat.testBit_xor, h1, h2]
 by_cases h : 8 ≤ i
 · simp [h, show ¬ i < 8 by omega]
 · simp [h, show i < 8 by omega]
theorem st_tab (n : Nat) (b : UInt8) : st n b = n / 256 ^^^ hs 8 ((n % 256) ^^^ b.toNat) := by
 have : n ^^^ b.toNat = (n / 256 * 2 ^ 8) ^^^ ((n % 256) ^^^ b.toNat) := by
  rw [← Nat.xor_assoc, ← split8]
 unfold st
 rw [this, hs_xor, hs_pow]
theorem st_lt {n : Nat} (b : UInt8) (h : n < 4294967296) : st n b < 4294967296 :=
 hs_lt 8 (Nat.xor_lt_two_pow (n := 32) h (by have := b.toNat_lt; omega))
def run (n : Nat) (l : List UInt8) : Nat := l.foldl st n
theorem run_lt {n : Nat} (l : List UInt8) (h : n < 4294967296) : run n l < 4294967296 := by
 induction l generalizing n with
 | nil => exact h
 | cons b l ih => exact ih (st_lt b h)
theorem run_snoc (n : Nat) (l : List UInt8) (b : UInt8) : run n (l ++ [b]) = st (run n l) b := by simp [run, List.foldl_append]
def nt (n : Nat) : Nat := 4294967295 ^^^ n
theorem nt_lt {n : Nat} (h : n < 4294967296) : nt n < 4294967296 := Nat.xor_lt_two_pow (n := 32) (by omega) h
def mo (s : Nat) (l : List UInt8) : Nat := nt (run (nt s) l)
def sm (l : List UInt8) : Nat := mo 0 l
theorem mo_lt {s : Nat} (l : List UInt8) (h : s < 4294967296) : mo s l < 4294967296 := nt_lt (run_lt l (nt_lt h))
theorem sm_lt (l : List UInt8) : sm l < 4294967296 := by unfold sm; exact mo_lt l (by omega)
def by8 (x i : Nat) : UInt8 := UInt8.ofNat (x / 2 ^ (8 * i))
def sb (x : Nat) : List UInt8 := [by8 x 0, by8 x 1, by8 x 2, by8 x 3]
theorem sb_length (x : Nat) : (sb x).length = 4 := rfl
theorem by8_n (x i : Nat) : (by8 x i).toNat = x / 2 ^ (8 * i) % 256 := by simp [by8]
def sl (l : List UInt8) : List UInt8 := l ++ sb (sm l)
end Go.Proofs.YtchmepalhldpcaaGreatDoor.Cr
namespace Go.Proofs.YtchmepalhldpcaaGreatDoor.Ov
open Go.ChangeShapes Go.WideShapes Go.ChangeAt Go.RowKit Go.Shelf
def cloneRen : Ren := ⟨fun | 25 => 58 | n => n, fun | 0 => 0 | 3 => 3 | 4 => 4 | 5 => 5 | 9 => 9 | 37 => 67 | 47 => 101 | n => n, fun n => n⟩
theorem cloneLays : LaysPu.n25 Tryz.prog cloneRen :=
 { mixed := by kernel_rfl
   f25 := by kernel_rfl
   t0 := by kernel_rfl
   a0 := fun _ => by kernel_rfl
   z0 := fun _ => by kernel_rfl
   v0 := fun _ => by kernel_rfl
   i0 := by kernel_rfl
   t3 := by kernel_rfl
   a3 := fun _ => by kernel_rfl
   z3 := fun _ => by kernel_rfl
   v3 := fun _ => by kernel_rfl
   i3 := by kernel_rfl
   t4 := by kernel_rfl
   a4 := fun _ => by kernel_rfl
   z4 := fun _ => by kernel_rfl
   v4 := fun _ => by kernel_rfl
   i4 := by kernel_rfl
   t5 := by kernel_rfl
   a5 := fun _ => by kernel_rfl
   z5 := fun _ => by kernel_rfl
   v5 := fun _ => by kernel_rfl
   i5 := by kernel_rfl
   t9 := by kernel_rfl
   a9 := fun _ => by kernel_rfl
   z9 := fun _ => by kernel_rfl
   v9 := fun _ => by kernel_rfl
   i9 := by kernel_rfl
   t37 := by kernel_rfl
   a37 := fun _ => by kernel_rfl
   z37 := fun _ => by kernel_rfl
   v37 := fun _ => by kernel_rfl
   i37 := by kernel_rfl
   t47 := by kernel_rfl
   a47 := fun _ => by kernel_rfl
   z47 := fun _ => by kernel_rfl
   v47 := fun _ => by kernel_rfl
   i47 := by kernel_rfl }
theorem sclone_any (s : ByteArray) (w : World) (hs : s.size ≤ 281474976710656) :
 Calls Tryz.prog 58 #[.string s] w fun e w' => e = .returned (.string s) ∧ Below w.heap.size w w' := AnyPu.stringslite_Clone cloneLays s w hs
set_option maxHeartbeats 400000 in
theorem clone_any (s : ByteArray) (w : World) (hs : s.size ≤ 281474976710656) :
 Calls Tryz.prog 37 #[.string s] w fun e w' => e = .returned (.string s) ∧ Below w.heap.size w w' := by
 go_enter Tryz.func37, Tryz.ntmps37
 go_wp2_with fail
 refine (sclone_any s _ hs).mono ?_
 rintro e w1 ⟨rfl, hb⟩
 have HB := Lib.hid hb; clear hb
 go_wp2_with fail
 go_ret
 exact ⟨rfl, HB.out⟩
end Go.Proofs.YtchmepalhldpcaaGreatDoor.Ov
namespace Go.Proofs.YtchmepalhldpcaaGreatDoor.Fr
open Go.ChangeShapes Go.WideShapes Go.ChangeAt Go.RowKit Ov
theorem pre_len {x : Fd} (h : rt x = true) : ∀ k, k ≤ 4 → (pre x k).length ≤ 22 * k
 | 0, _ => Nat.le_refl _
 | k + 1, hk => by
   have h1 := pre_len h k (by omega)
   have h2 := ns_at h k (by omega)
   have h3 := Lib.itoa_length_le ((ns x).getD k 0) (by omega) (by omega)
   simp only [pre, List.length_append, List.length_cons]
   omega
theorem nm_len (x : Fd) : (nm x).length ≤ 88 := by
 cases h : rt x
 · rw [nm_no h]; exact Nat.zero_le _
 · rw [nm_rt h]; exact pre_len h 4 (Nat.le_refl _)
theorem pre_succ (x : Fd) (k : Nat) : pre x (k + 1) = (pre x k ++ [lt4.getD k 0]) ++ (tx (Lib.itoa ((ns x).getD k 0))).data.toList := by rw [tx_list]; simp [pre]
set_option maxRecDepth 100000 in
set_option maxHeartbeats 2000000 in
theorem name_any (x : Fd) (w : World) (ht : Tab w) : Calls Tryz.prog 13 #[.agg #[.int .i64 x.t, .int .i64 x.a, .int .i64 x.p, .int .i64 x.f]] w (Gives (.string (tx (nm x))) w) := by
 have hr := right_any x (w.alloc (.cells #[.int .i64 x.t, .int .i64 x.a, .int .i64 x.p, .int .i64 x.f] 26))
 have HX := Lib.hid (Blk.made w 26 [.int .i64 x.t, .int .i64 x.a, .int .i64 x.p, .int .i64 x.f] rfl)
 have HT := Lib.hid ht
 have HB0 := Lib.hid (box1 w (.cells #[.int .i64 x.t, .int .i64 x.a, .int .i64 x.p, .int .i64 x.f] 26))
 have hw0 : w.heap.size < (w.alloc (.cells #[.int .i64 x.t, .int .i64 x.a, .int .i64 x.p, .int .i64 x.f] 26)).heap.size := by simp
 cases hrt : rt x
 · rw [hrt] at hr
   rw [nm_no hrt]
   go_enter Tryz.func13, Tryz.ntmps13
   go_wp2_with (fail)
   refine hr.mono ?_
   rintro e w1 ⟨rfl, hb⟩
   have HB := Lib.hid (Below.next HB0.out hb)
   clear hb
   go_wp2_with (fail)
   go_ret
   exact ⟨rfl, HB.out⟩
 · rw [hrt] at hr
   have HE := Lib.hid (nm_rt hrt)
   have HRT := Lib.hid hrt
   have ho := of_any x
   go_enter Tryz.func13, Tryz.ntmps13
   go_wp2_with (fail)
   refine hr.mono ?_
   rintro e w1 ⟨rfl, hb⟩
   have HX1 := Lib.hid (HX.out.next hb)
   have HB1 := Lib.hid (Below.next HB0.out hb)
   have c0 := HX1.out.c 0 _ rfl; have c1 := HX1.out.c 1 _ rfl; have c2 := HX1.out.c 2 _ rfl; have c3 := HX1.out.c 3 _ rfl
   have hlt1 := HX1.out.lt
   have hn1 : ¬ w.heap.size = w1.heap.size := by omega
   have hn2 : ¬ w1.heap.size = w.heap.size := by omega
   clear hb hr HX HB0 hw0
   go_wp2_with (fail)
   refine (ho _).mono ?_
   rintro e w2 ⟨rfl, hb⟩
   have HD2 : Hid (Bld w1.heap.size w1.heap.size [] w2) := (Bld.fresh w1).old hb
   have HB2 : Hid (Below w.heap.size w w2) := (HB1.out.alloc HB1.out.size _).trans (hb.mono (by simp; have := HB1.out.size; omega))
   have HZ2 : Hid (w1.heap.size ≤ w2.heap.size) := by have := hb.size; simp at this; show _ ≤ _; omega
   clear hb ho
   go_wp2_with (fail)
   go_loopw [11] (fun i wr => ∃ k : Nat, k ≤ 4 ∧ i = .int .i64 (k : Int) ∧ Hid (Bld w1.heap.size w1.heap.size (pre x k) wr) ∧ Hid (Below w.heap.size w wr) ∧ Hid (w1.heap.size ≤ wr.heap.size)) (fun i _ => 4 - (intOf i).toNat)
   case atStart => exact ⟨0, by omega, rfl, HD2, HB2, HZ2⟩
   case round =>
    obtain ⟨k, hk, rfl, hd, hb, hz⟩ := hrel
    by_cases hlt : k < 4
    · have hix := fun W => index_ns x k hlt W
      have hil := fun W => index_lt4 k hlt W
      have hlt' : (k : Int) < 4 := by omega
      have HL := Lib.hid (pre_len HRT.out k hk)
      have HP := Lib.hid (pre_succ x k)
      have HN := Lib.hid (ns_at HRT.out k hlt)
      have HI := Lib.hid (Lib.itoa_length_le ((ns x).getD k 0) (by have := HN.out; omega) (by have := HN.out; omega))
      generalize (ns x).getD k 0 = n at hix HP HN HI
      generalize lt4.getD k 0 = c at hil HP
      go_wp2_with (fail)
      refine (byte_any _ _ _ c _ hd.out (by have := HL.out; omega) hz.out).mono ?_
      rintro e w3 ⟨rfl, hd3, hb3⟩
      have HD3 := Lib.hid hd3
      have HB3 : Hid (Below w.heap.size w w3) := hb.out.trans (hb3.mono (by have := HB1.out.size; omega))
      have HZ3 : Hid (w1.heap.size ≤ w3.heap.size) := Nat.le_trans hz.out hb3.size
      clear hd3 hb3 hd hb hz
      go_wp2_with (fail)
      refine (itoa_any n (by have := HN.out; omega) (by have := HN.out; omega) _ (HT.out.next HB3.out)).mono ?_
      rintro e w4 ⟨rfl, hb4⟩
      have HD4 := Lib.hid (HD3.out.old hb4)
      have HB4 := Lib.hid (Below.next HB3.out hb4)
      have HZ4 : Hid (w1.heap.size ≤ w4.heap.size) := Nat.le_trans HZ3.out hb4.size
      clear hb4
      have hsz : (tx (Lib.itoa n)).size ≤ 21 := by rw [tx_size]; exact HI.out
      generalize hS : tx (Lib.itoa n) = S at *
      go_wp2_with (fail)
      refine (write_any _ _ _ S _ HD4.out (by have := HL.out; simp; omega) HZ4.out).mono ?_
      rintro e w5 ⟨rfl, hd5, hb5⟩
      have HD5 := Lib.hid (hd5.cast HP.out.symm)
      have HB5 : Hid (Below w.heap.size w w5) := HB4.out.trans (hb5.mono (by have := HB1.out.size; omega))
      have HZ5 : Hid (w1.heap.size ≤ w5.heap.size) := Nat.le_trans HZ4.out hb5.size
      clear hd5 hb5
      go_wp2_with (fail)
      go_roundw
      · exact ⟨k + 1, by omega, by first | rfl | (congr 1; omega), HD5, HB5, HZ5⟩
      · simp [intOf]; omega
    · obtain rfl : k = 4 := by omega
      go_wp2_with (fail)
      refine (string_any _ _ _ _ hd.out hz.out).mono ?_
      rintro e w6 ⟨rfl, hb6⟩
      have HB6 : Hid (Below w.heap.size w w6) := hb.out.trans (hb6.mono (by have := HB1.out.size; omega))
      clear hb6
      go_wp2_with (fail)
      go_ret
      exact ⟨by rw [HE.out]; rfl, HB6.out⟩
end Go.Proofs.YtchmepalhldpcaaGreatDoor.Fr
namespace Go.Proofs.YtchmepalhldpcaaGreatDoor.Ov
open Go.ChangeShapes Go.WideShapes Go.ChangeAt Go.RowKit Go.Shelf
def atoRen : Ren := ⟨fun | 129 => 79 | 171 => 31 | 172 => 51 | 205 => 112 | 243 => 56 | 244 => 68 | 245 => 69 | 246 => 82 | 247 => 87 | 279 => 88 | 280 => 89 | 281 => 90 | 282 => 91 | 283 => 97 | 284 => 98 | 285 => 99 | 286 => 100 | 287 => 111 | 316 => 58 | 317 => 114 | 318 => 115 | 319 => 116 | 320 => 117 | 321 => 123 | 322 => 124 | 337 => 125 | 338 => 126 | n => n, fun | 0 => 0 | 2 => 2 | 3 => 3 | 4 => 4 | 5 => 5 | 9 => 9 | 20 => 20 | 21 => 21 | 37 => 67 | 46 => 99 | 51 => 119 | 53 => 121 | 75 => 72 | 76 => 74 | 80 => 77 | 85 => 131 | 127 => 101 | 143 => 169 | 145 => 171 | 167 => 130 | 168 => 133 | 171 => 142 | 173 => 144 | 175 => 153 | 210 => 156 | 212 => 162 | 213 => 163 | 232 => 174 | 233 => 175 | n => n, fun | 15 => 1 | 16 => 2 | 17 => 3 | 18 => 4 | 19 => 5 | n => n⟩
theorem atoLays : LaysC.n172 Tryz.prog atoRen :=
 { mixed := by kernel_rfl
   f129 := by kernel_rfl
   f171 := by kernel_rfl
   f172 := by kernel_rfl
   f205 := by kernel_rfl
   f243 := by kernel_rfl
   f244 := by kernel_rfl
   f245 := by kernel_rfl
   f246 := by kernel_rfl
   f247 := by kernel_rfl
   f279 := by kernel_rfl
   f280 := by kernel_rfl
   f281 := by kernel_rfl
   f282 := by kernel_rfl
   f283 := by kernel_rfl
   f284 := by kernel_rfl
   f285 := by kernel_rfl
   f286 := by kernel_rfl
   f287 := by kernel_rfl
   f316 := by kernel_rfl
   f317 := by kernel_rfl
   f318 := by kernel_rfl
   f319 := by kernel_rfl
   f320 := by kernel_rfl
   f321 := by kernel_rfl
   f322 := by kernel_rfl
   f337 := by kernel_rfl
   f338 := by kernel_rfl
   t0 := by kernel_rfl
   a0 := fun _ => by kernel_rfl
   z0 := fun _ => by kernel_rfl
   v0 := fun _ => by kernel_rfl
   t2 := by kernel_rfl
   a2 := fun _ => by kernel_rfl
   z2 := fun _ => by kernel_rfl
   v2 := fun _ => by kernel_rfl
   t3 := by kernel_rfl
   a3 := fun _ => by kernel_rfl
   z3 := fun _ => by kernel_rfl
   v3 := fun _ => by kernel_rfl
   t4 := by kernel_rfl
   a4 := fun _ => by kernel_rfl
   z4 := fun _ => by kernel_rfl
   v4 := fun _ => by kernel_rfl
   t5 := by kernel_rfl
   a5 := fun _ => by kernel_rfl
   z5 := fun _ => by kernel_rfl
   v5 := fun _ => by kernel_rfl
   t9 := by kernel_rfl
   a9 := fun _ => by kernel_rfl
   z9 := fun _ => by kernel_rfl
   v9 := fun _ => by kernel_rfl
   t20 := by kernel_rfl
   a20 := fun _ => by kernel_rfl
   z20 := fun _ => by kernel_rfl
   v20 := fun _ => by kernel_rfl
   t21 := by kernel_rfl
   a21 := fun _ => by kernel_rfl
   z21 := fun _ => by kernel_rfl
   v21 := fun _ => by kernel_rfl
   t37 := by kernel_rfl
   a37 := fun _ => by kernel_rfl
   z37 := fun _ => by kernel_rfl
   v37 := fun _ => by kernel_rfl
   t46 := by kernel_rfl
   a46 := fun _ => by kernel_rfl
   z46 := fun _ => by kernel_rfl
   v46 := fun _ => by kernel_rfl
   t51 := by kernel_rfl
   a51 := fun _ => by kernel_rfl
   z51 := fun _ => by kernel_rfl
   v51 := fun _ => by kernel_rfl
   t53 := by kernel_rfl
   a53 := fun _ => by kernel_rfl
   z53 := fun _ => by kernel_rfl
   v53 := fun _ => by kernel_rfl
   t75 := by kernel_rfl
   a75 := fun _ => by kernel_rfl
   z75 := fun _ => by kernel_rfl
   v75 := fun _ => by kernel_rfl
   t76 := by kernel_rfl
   a76 := fun _ => by kernel_rfl
   z76 := fun _ => by kernel_rfl
   v76 := fun _ => by kernel_rfl
   t85 := by kernel_rfl
   a85 := fun _ => by kernel_rfl
   z85 := fun _ => by kernel_rfl
   v85 := fun _ => by kernel_rfl
   t127 := by kernel_rfl
   a127 := fun _ => by kernel_rfl
   z127 := fun _ => by kernel_rfl
   v127 := fun _ => by kernel_rfl
   t143 := by kernel_rfl
   a143 := fun _ => by kernel_rfl
   z143 := fun _ => by kernel_rfl
   v143 := fun _ => by kernel_rfl
   t145 := by kernel_rfl
   a145 := fun _ => by kernel_rfl
   z145 := fun _ => by kernel_rfl
   v145 := fun _ => by kernel_rfl
   t167 := by kernel_rfl
   a167 := fun _ => by kernel_rfl
   z167 := fun _ => by kernel_rfl
   v167 := fun _ => by kernel_rfl
   t168 := by kernel_rfl
   a168 := fun _ => by kernel_rfl
   z168 := fun _ => by kernel_rfl
   v168 := fun _ => by kernel_rfl
   t171 := by kernel_rfl
   a171 := fun _ => by kernel_rfl
   z171 := fun _ => by kernel_rfl
   v171 := fun _ => by kernel_rfl
   t173 := by kernel_rfl
   a173 := fun _ => by kernel_rfl
   z173 := fun _ => by kernel_rfl
   v173 := fun _ => by kernel_rfl
   t175 := by kernel_rfl
   a175 := fun _ => by kernel_rfl
   z175 := fun _ => by kernel_rfl
   v175 := fun _ => by kernel_rfl
   t210 := by kernel_rfl
   a210 := fun _ => by kernel_rfl
   z210 := fun _ => by kernel_rfl
   v210 := fun _ => by kernel_rfl
   t212 := by kernel_rfl
   a212 := fun _ => by kernel_rfl
   z212 := fun _ => by kernel_rfl
   v212 := fun _ => by kernel_rfl
   t213 := by kernel_rfl
   a213 := fun _ => by kernel_rfl
   z213 := fun _ => by kernel_rfl
   t232 := by kernel_rfl
   a232 := fun _ => by kernel_rfl
   z232 := fun _ => by kernel_rfl
   v232 := fun _ => by kernel_rfl
   t233 := by kernel_rfl
   a233 := fun _ => by kernel_rfl
   z233 := fun _ => by kernel_rfl
   v233 := fun _ => by kernel_rfl
   g15 := by kernel_rfl
   g16 := by kernel_rfl
   g17 := by kernel_rfl
   g18 := by kernel_rfl
   g19 := by kernel_rfl
   t80 := by kernel_rfl
   a80 := fun _ => by kernel_rfl
   z80 := fun _ => by kernel_rfl
   v80 := fun _ => by kernel_rfl
   i0 := by kernel_rfl
   i2 := by kernel_rfl
   i3 := by kernel_rfl
   i4 := by kernel_rfl
   i5 := by kernel_rfl
   i9 := by kernel_rfl
   i20 := by kernel_rfl
   i21 := by kernel_rfl
   i37 := by kernel_rfl
   i46 := by kernel_rfl
   i51 := by kernel_rfl
   i53 := by kernel_rfl
   i75 := by kernel_rfl
   i76 := by kernel_rfl
   i80 := by kernel_rfl
   i85 := by kernel_rfl
   i127 := by kernel_rfl
   i143 := by kernel_rfl
   i145 := by kernel_rfl
   i167 := by kernel_rfl
   i168 := by kernel_rfl
   i171 := by kernel_rfl
   i173 := by kernel_rfl
   i175 := by kernel_rfl
   i210 := by kernel_rfl
   i212 := by kernel_rfl
   i232 := by kernel_rfl
   i233 := by kernel_rfl
   m15 := by kernel_rfl
   m16 := by kernel_rfl
   m17 := by kernel_rfl
   m18 := by kernel_rfl
   m19 := by kernel_rfl
   c0 := by kernel_rfl
   c2 := by kernel_rfl
   c3 := by kernel_rfl
   c4 := by kernel_rfl
   c5 := by kernel_rfl
   c9 := by kernel_rfl
   c20 := by kernel_rfl
   c21 := by kernel_rfl
   c37 := by kernel_rfl
   c46 := by kernel_rfl
   c51 := by kernel_rfl
   c53 := by kernel_rfl
   c75 := by kernel_rfl
   c76 := by kernel_rfl
   c80 := by kernel_rfl
   c85 := by kernel_rfl
   c127 := by kernel_rfl
   c143 := by kernel_rfl
   c145 := by kernel_rfl
   c167 := by kernel_rfl
   c168 := by kernel_rfl
   c171 := by kernel_rfl
   c173 := by kernel_rfl
   c175 := by kernel_rfl
   c210 := by kernel_rfl
   c212 := by kernel_rfl
   c213 := by kernel_rfl
   c232 := by kernel_rfl
   c233 := by kernel_rfl }
def Er1 (n : String) (w : World) : Prop := ∃ tp p, w.var? Tryz.prog n = some #[.iface tp p]
def Ers (w : World) : Prop := Er1 "strconv.ErrSyntax" w ∧ Er1 "strconv.ErrRange" w
theorem er_syntax : Tryz.prog.globalNamed "strconv.ErrSyntax" = some 1 := by kernel_rfl
theorem er_range : Tryz.prog.globalNamed "strconv.ErrRange" = some 2 := by kernel_rfl
theorem er_cell {n : String} {g : Nat} {w : World} (hg : Tryz.prog.globalNamed n = some g) (h : Er1 n w) : ∃ tp p, w.cell? ⟨g, 0, none⟩ = some (.iface tp p) := by
 obtain ⟨tp, p, h⟩ := h
 exact ⟨tp, p, by have := World.var?_cell hg h 0; simpa using this⟩
theorem Er1.next {n : String} {g : Nat} {w w' : World} (hg : Tryz.prog.globalNamed n = some g) (h : Er1 n w) (k : Below w.heap.size w w') : Er1 n w' := by
 obtain ⟨tp, p, hc⟩ := er_cell hg h
 have hlt : g < w.heap.size := block_lt_of_cell hc
 obtain ⟨tp, p, h⟩ := h
 refine ⟨tp, p, Eq.trans ?_ h⟩
 unfold World.var?
 rw [hg]
 simp only [Option.bind_some]
 rw [k.block _ hlt]
theorem Ers.next {w w' : World} (h : Ers w) (k : Below w.heap.size w w') : Ers w' := ⟨h.1.next er_syntax k, h.2.next er_range k⟩
theorem atoi_yes (s : ByteArray) (hs : s.size ≤ 281474976710656) {v : Int} (h : Lib.atoiAll s.data.toList = .ok v) (w : World) :
 Calls Tryz.prog 51 #[.string s] w (Gives (.tuple #[.int .i64 v, .nilIface]) w) :=
 (Any.strconv_Atoi_ok atoLays s (by omega) v h w).mono fun _ _ ⟨he, hw⟩ => ⟨he, by
   rcases hw with rfl | ⟨t, rfl⟩
   · exact Below.refl _ _
   · exact Lib.bytesWorld_below _ _ _⟩
theorem atoi_no (s : ByteArray) (hs : s.size ≤ 281474976710656) (h : ∀ v, Lib.atoiAll s.data.toList ≠ .ok v) (w : World) (hE : Ers w) :
 Calls Tryz.prog 51 #[.string s] w fun e w' => ∃ (n : Int) (t : TypeId) (p : Value), e = .returned (.tuple #[.int .i64 n, .iface t p]) ∧ Below w.heap.size w w' := by
 obtain ⟨tp, p, h1⟩ := er_cell er_syntax hE.1
 obtain ⟨tp', p', h2⟩ := er_cell er_range hE.2
 cases e : Lib.atoiAll s.data.toList with
 | ok v => exact absurd e (h v)
 | «syntax» => exact (Any.strconv_Atoi_syntax atoLays s (by omega) e _ w h1 (.inr ⟨_, _, rfl⟩)).mono fun _ _ ⟨N, he, _, _, hb⟩ => ⟨_, _, _, he, hb⟩
 | range => exact (Any.strconv_Atoi_range atoLays s (by omega) e _ w h2 (.inr ⟨_, _, rfl⟩)).mono fun _ _ ⟨N, he, _, _, hb⟩ => ⟨_, _, _, he, hb⟩
theorem er_met {n : String} {w : World} {l : List (String × DataW Unit)} {d x : DataW Unit} {ty : String} (hd : d = .iface ty x) (hm : (n, d) ∈ l) (h : laidMet Tryz.prog l w)
 {g t : Nat} {ms : Array (String × TypeId)} (hg : Tryz.prog.globalNamed n = some g) (ht : (Tryz.prog.globals[g]?).map (·.type) = some t) (hu : Tryz.prog.underlying t = some (.interface ms)) : Er1 n w := by
 obtain ⟨_, hv, _⟩ := h
 obtain ⟨g', t', cs, fuel, p, e1, e2, e3, e4⟩ := laid_reads hv _ d hm
 obtain rfl := Option.some.inj (hg.symm.trans e1)
 obtain rfl := Option.some.inj (ht.symm.trans e2)
 subst hd
 obtain ⟨_, u, v, hcs, _⟩ := iface_of_trod hu e4
 obtain ⟨cl⟩ := cs
 have hcl : cl = [.iface u v] := hcs
 subst hcl
 exact ⟨u, v, e3⟩
def lasRen : Ren := ⟨fun | 149 => 50 | 222 => 67 | n => n, fun | 3 => 3 | 4 => 4 | 5 => 5 | 9 => 9 | n => n, fun n => n⟩
theorem lasLays : Lays.n149 Tryz.prog lasRen :=
 { mixed := by kernel_rfl
   f149 := by kernel_rfl
   f222 := by kernel_rfl
   t3 := by kernel_rfl
   a3 := fun _ => by kernel_rfl
   z3 := fun _ => by kernel_rfl
   v3 := fun _ => by kernel_rfl
   t4 := by kernel_rfl
   a4 := fun _ => by kernel_rfl
   z4 := fun _ => by kernel_rfl
   v4 := fun _ => by kernel_rfl
   t5 := by kernel_rfl
   a5 := fun _ => by kernel_rfl
   z5 := fun _ => by kernel_rfl
   v5 := fun _ => by kernel_rfl
   t9 := by kernel_rfl
   a9 := fun _ => by kernel_rfl
   z9 := fun _ => by kernel_rfl
   v9 := fun _ => by kernel_rfl }
theorem last_any (s : ByteArray) (c : UInt8) (hs : s.size ≤ 281474976710656) (w : World) :
 Calls Tryz.prog 50 #[.string s, .int .u8 (c.toNat : Int)] w fun e w' => e = .returned (.int .i64 (Lib.lastIndexByte s (c.toNat : Int))) ∧ w' = w :=
 Any.strings_LastIndexByte lasLays s (c.toNat : Int) (by omega) w
end Go.Proofs.YtchmepalhldpcaaGreatDoor.Ov
namespace Go.Proofs.YtchmepalhldpcaaGreatDoor.Ov
open Go.ChangeShapes Go.WideShapes Go.ChangeAt Go.RowKit
structure Tur (b : Nat) (w w' : World) : Prop where
 os : w'.os = w.os
 tape : w'.tape = w.tape
 output : w'.output = w.output
 size : w.heap.size ≤ w'.heap.size
 block : ∀ k, k < w.heap.size → k ≠ b → w'.heap[k]? = w.heap[k]?
section
variable {w w' w'' : World} {b : Nat}
theorem Tur.refl : Tur b w w := ⟨rfl, rfl, rfl, Nat.le_refl _, fun _ _ _ => rfl⟩
theorem Tur.trans (h : Tur b w w') (k : Tur b w' w'') : Tur b w w'' :=
 ⟨k.os.trans h.os, k.tape.trans h.tape, k.output.trans h.output, Nat.le_trans h.size k.size, fun i hi hb => (k.block i (Nat.lt_of_lt_of_le hi h.size) hb).trans (h.block i hi hb)⟩
theorem Below.tur (h : Below w.heap.size w w') : Tur b w w' := ⟨h.os, h.tape, h.output, h.size, fun k hk _ => h.block k hk⟩
theorem Tur.below {lo : Nat} (h : Tur b w w') (hb : lo ≤ b) (hl : lo ≤ w.heap.size) : Below lo w w' := ⟨h.os, h.tape, h.output, h.size, fun k hk => h.block k (by omega) (by omega)⟩
theorem Tur.setCell (h : Tur b w w') (j : Nat) (v : Value) : Tur b w (w'.setCell ⟨b, j, none⟩ v) :=
 h.trans ⟨rfl, rfl, rfl, by simp [World.setCell], fun k _ hk => Below.heap_setCell _ _ _ _ hk⟩
theorem rowIs_tur {c : Nat} {t : TypeId} {n : Nat} {f : Nat → Value} (h : w.rowIs c t n f) (k : Tur b w w') (hne : c ≠ b) : w'.rowIs c t n f := h.of_block (k.block c h.lt hne)
theorem rowIs_old {c : Nat} {t : TypeId} {n : Nat} {f : Nat → Value} (h : w.rowIs c t n f) (k : Below w.heap.size w w') : w'.rowIs c t n f := h.of_block (k.block c h.lt)
def One (w : World) (b : Nat) (t : TypeId) (v : Value) : Prop := w.rowIs b t 1 (fun _ => v)
variable {t : TypeId} {v u : Value}
theorem One.cell (h : One w b t v) : w.cell? ⟨b, 0, none⟩ = some v := World.rowIs.cell h (Nat.lt_succ_self 0)
theorem One.thaw (h : One w b t v) : w.frozen? ⟨b, 0, none⟩ = false := World.rowIs.frozen h 0
theorem One.lt (h : One w b t v) : b < w.heap.size := World.rowIs.lt h
theorem One.old (h : One w b t v) (k : Below w.heap.size w w') : One w' b t v := rowIs_old h k
theorem One.tur {c : Nat} (h : One w b t v) (k : Tur c w w') (hne : b ≠ c) : One w' b t v := rowIs_tur h k hne
theorem One.set (h : One w b t v) (u : Value) : One (w.setCell ⟨b, 0, none⟩ u) b t u :=
 (World.rowIs.set h 0 u).congr (fun j hj => by rw [if_pos (by omega)])
theorem One.made (w : World) (t : TypeId) (v : Value) : One (w.alloc (.cells #[v] t)) w.heap.size t v :=
 World.rowIs_alloc w #[v] t _ (fun i hi => by
  obtain rfl : i = 0 := by simp at hi; omega
  rfl)
end
structure Kp (O : Nat → Prop) (w w' : World) : Prop where
 os : w'.os = w.os
 tape : w'.tape = w.tape
 output : w'.output = w.output
 size : w.heap.size ≤ w'.heap.size
 block : ∀ k, k < w.heap.size → ¬ O k → w'.heap[k]? = w.heap[k]?
section
variable {O O' : Nat → Prop} {w w' w'' : World}
theorem Kp.trans (h : Kp O w w') (k : Kp O' w' w'') (hO : ∀ b, O' b → O b ∨ w.heap.size ≤ b) : Kp O w w'' :=
 ⟨k.os.trans h.os, k.tape.trans h.tape, k.output.trans h.output, Nat.le_trans h.size k.size, fun b hb hn =>
  (k.block b (Nat.lt_of_lt_of_le hb h.size) fun e => (hO b e).elim hn fun e => by omega).trans (h.block b hb hn)⟩
theorem Below.kp (O : Nat → Prop) (h : Below w.heap.size w w') : Kp O w w' := ⟨h.os, h.tape, h.output, h.size, fun k hk _ => h.block k hk⟩
theorem Kp.next (h : Kp O w w') (k : Below w'.heap.size w' w'') : Kp O w w'' := h.trans (Below.kp O k) fun _ e => .inl e
theorem Kp.below {lo : Nat} (h : Kp O w w') (hO : ∀ b, O b → lo ≤ b) (hl : lo ≤ w.heap.size) : Below lo w w' :=
 ⟨h.os, h.tape, h.output, h.size, fun k hk => h.block k (by omega) fun e => by have := hO k e; omega⟩
theorem Kp.cell (h : Kp O w w') {p : Addr} (hp : ¬ O p.block) (hl : p.block < w.heap.size) : w'.cell? p = w.cell? p := World.cell?_of_block (w := w) (h.block _ hl hp)
theorem Kp.frozen (h : Kp O w w') {p : Addr} (hp : ¬ O p.block) (hl : p.block < w.heap.size) : w'.frozen? p = w.frozen? p := by
 unfold World.frozen?; rw [h.block _ hl hp]
theorem Blk.kp {b : Nat} {vs : List Value} (h : Blk w b vs) (k : Kp O w w') (hb : ¬ O b) : Blk w' b vs :=
 ⟨fun i v e => (k.cell (p := ⟨b, i, none⟩) hb h.lt).trans (h.c i v e), fun i v e => (k.frozen (p := ⟨b, i, none⟩) hb h.lt).trans (h.f i v e), Nat.lt_of_lt_of_le h.lt k.size⟩
theorem own_kp {base size n : Nat} {e : TypeId} {v : Value} {xs : List Value} (h : w.ownsRow base e size v n xs) (k : Kp O w w') (hv : ∀ g, v.ownBlock = some g → ¬ O g) : w'.ownsRow base e size v n xs := by
 refine ⟨h.1, ?_⟩
 rcases h.2 with h1 | ⟨g, cap, cur, rfl, hg, hc, rest⟩
 · exact .inl h1
 · exact .inr ⟨g, cap, cur, rfl, hg, (k.block g (Array.getElem?_eq_some_iff.1 hc).1 (hv g rfl)).trans hc, rest⟩
end
theorem wp_scope_once {P : Program} {a : Act} {w : World} {Q : Exit → Act → World → Prop} {c rest : Code} (l : Nat) (J : Act → World → Prop) (m : Act → World → Nat) (hf : findLabel c l = some (.seq .skip rest))
 (first : Hid (∀ a w, J a w → rest.wp P (Exit.jump l J Q) a w) → c.wp P (Exit.jump l J Q) a w)
 (pass : ∀ a w, J a w → rest.wp P (Exit.jump l (fun a' w' => J a' w' ∧ m a' w' < m a w) Q) a w) : (Code.scope c).wp P Q a w :=
 wp_scope_jumps l J m hf (first (Lib.hid fun a w h => Code.wp_mono (fun e a' w' q => by
  cases e with
  | goto l' => exact ⟨q.1, q.2.1⟩
  | _ => exact q) (pass a w h))) (fun a w h => wp_seq (wp_skip (pass a w h)))
end Go.Proofs.YtchmepalhldpcaaGreatDoor.Ov
namespace Go.Proofs.YtchmepalhldpcaaGreatDoor.Tp
open Go.ChangeShapes Go.WideShapes Go.ChangeAt Go.RowKit Ov
def JC (s : ByteArray) (w : World) (a' : Act) (w' : World) : Prop := ∃ (i n : Nat) (u7 u8 u9 u10 u11 u12 u13 u14 u15 u16 u17 u18 u19 u20 u21 u22 u23 u24 u25 u26 u27 u28 u29 u30 u31 u32 u33 u34 u35 u36 u37 u38 u39 u40 u41 u42 u43 u44 u45 u46 u47 u48 : Value),
 i < 8 ∧ i ≤ s.size ∧ n < 2 ^ (7 * i) ∧ cn 0 0 s.data.toList = cn i n (s.data.toList.drop i) ∧ w' = w ∧
 a' = { tmps := #[.string s, undef, .int .i64 0, .string ⟨#[]⟩, .int .i64 0, .int .i64 (n : Int), .int .i64 (i : Int), u7, u8, u9, u10, u11, u12, u13, u14, u15, u16, u17, u18, u19, u20, u21, u22, u23, u24, u25, u26, u27, u28, u29, u30, u31, u32, u33, u34, u35, u36, u37, u38, u39, u40, u41, u42, u43, u44, u45, u46, u47, u48], defers := [] }
def muC (a : Act) (_ : World) : Nat := 8 - (intOf (a.tmps.getD 6 undef)).toNat
def cv (r : Nat × List UInt8 × Nat) : Value := .tuple #[.int .i64 (r.1 : Int), .string (tx r.2.1), .int .i64 (r.2.2 : Int)]
theorem cn_step {s : ByteArray} {i n m : Nat} {b : UInt8} (h : i < s.size) (hb : s[i] = b) (hm : m = n + b.toNat % 128 * 2 ^ (7 * i)) :
 cn i n (s.data.toList.drop i) = if 128 ≤ b.toNat ∧ i + 1 < 8 then cn (i + 1) m (s.data.toList.drop (i + 1))
  else if 128 ≤ b.toNat ∨ (b.toNat = 0 ∧ 1 < i + 1) ∨ 9007199254740991 < m then (0, [], 6) else (m, s.data.toList.drop (i + 1), 0) := by
 have hl : i < s.data.toList.length := by simpa using h
 rw [List.drop_eq_getElem_cons hl, hm, ← hb]
 rfl
theorem bound_step {i n m k : Nat} (hk : k < 128) (hn : n < 2 ^ (7 * i)) (hm : m = n + k * 2 ^ (7 * i)) : m < 2 ^ (7 * (i + 1)) := by
 have e : 2 ^ (7 * (i + 1)) = 128 * 2 ^ (7 * i) := by rw [show 7 * (i + 1) = 7 + 7 * i by omega, Nat.pow_add]
 have h1 : k * 2 ^ (7 * i) ≤ 127 * 2 ^ (7 * i) := Nat.mul_le_mul_right _ (by omega)
 rw [hm, e]; omega
theorem pow_le {i : Nat} (hi : i < 8) : 2 ^ (7 * (i + 1)) ≤ 72057594037927936 := by
 have : 2 ^ (7 * (i + 1)) ≤ 2 ^ 56 := Nat.pow_le_pow_right (by omega) (by omega)
 omega
theorem ok_ret (s : ByteArray) (i m : Nat) : Ending.returned (.tuple #[.int .i64 (m : Int), .string (s.extract (i + 1) s.size), .int .i64 0]) = .returned (cv (m, s.data.toList.drop (i + 1), 0)) := by
 rw [ext_drop]; rfl
set_option maxRecDepth 100000 in
set_option maxHeartbeats 1000000 in
theorem cutNum_any (s : ByteArray) (w : World) (hs : s.size ≤ 281474976710656) :
 Calls Tryz.prog 84 #[.string s] w fun e w' => e = .returned (cv (cn 0 0 s.data.toList)) ∧ Below w.heap.size w w' := by
 go_enter Tryz.func84, Tryz.ntmps84
 go_wp2
 refine wp_scope_once 0 (JC s w) muC rfl (fun NX => ?_) ?_
 · go_wp2_with (fail)
   go_step3
   rename_i hK
   exact hK _ _ (NX.out _ _ ⟨0, 0, _, _, _, _, _, _, _, _, _, _, _, _, _, _, _, _, _, _, _, _, _, _, _, _, _, _, _, _, _, _, _, _, _, _, _, _, _, _, _, _, _, _, by omega, by omega, by simp, by simp, rfl, rfl⟩)
 · rintro a' w' ⟨i, n, u7, u8, u9, u10, u11, u12, u13, u14, u15, u16, u17, u18, u19, u20, u21, u22, u23, u24, u25, u26, u27, u28, u29, u30, u31, u32, u33, u34, u35, u36, u37, u38, u39, u40, u41, u42, u43, u44, u45, u46, u47, u48, hi, hsz, hn, hc, rfl, rfl⟩
   have HC := Lib.hid hc; clear hc
   by_cases he : i = s.size
   · have h0 : ((i : Int) == (s.size : Int)) = true := by rw [beq_iff_eq]; omega
     have HE : Hid (cn 0 0 s.data.toList = (0, [], 2)) := by
      show _ = _
      rw [HC.out, List.drop_of_length_le (by simp; omega)]; rfl
     clear he
     go_wp2_with (fail)
     simp only [Exit.jump]
     go_ret3
     exact ⟨by rw [HE.out]; rfl, Below.refl _ _⟩
   have hlt : i < s.size := by omega
   clear he
   have h0 : ((i : Int) == (s.size : Int)) = false := by rw [beq_eq_false_iff_ne]; omega
   obtain ⟨b, hbb⟩ : ∃ b : UInt8, s[i] = b := ⟨_, rfl⟩
   obtain ⟨m, hm⟩ : ∃ m : Nat, m = n + b.toNat % 128 * 2 ^ (7 * i) := ⟨_, rfl⟩
   have HS := Lib.hid (cn_step hlt hbb hm)
   have hb := b.toNat_lt
   have hml := bound_step (by omega) hn hm
   have HML := Lib.hid hml
   have hm0 : m ≤ 72057594037927936 := Nat.le_trans (Nat.le_of_lt hml) (pow_le hi)
   have hw : wrap64 ((n : Int) + wrap64 ((b.toNat : Int) % 128 * 2 ^ (7 * i))) = (m : Int) := by
    have e : ((b.toNat : Int) % 128 * 2 ^ (7 * i)) = ((b.toNat % 128 * 2 ^ (7 * i) : Nat) : Int) := by simp
    rw [e]
    generalize b.toNat % 128 * 2 ^ (7 * i) = q at *
    rw [IntWalk.wrap64_in (q : Int) (by omega), IntWalk.wrap64_in _ (by omega)]
    omega
   clear hn hml hm
   by_cases h1 : 128 ≤ b.toNat
   · by_cases h2 : i + 1 < 8
     · have HE : Hid (cn 0 0 s.data.toList = cn (i + 1) m (s.data.toList.drop (i + 1))) := by
        show _ = _
        rw [HC.out, HS.out, if_pos ⟨h1, h2⟩]
       go_wp2_with (fail)
       go_step3
       refine ⟨rfl, ⟨i + 1, m, _, _, _, _, _, _, _, _, _, _, _, _, _, _, _, _, _, _, _, _, _, _, _, _, _, _, _, _, _, _, _, _, _, _, _, _, _, _, _, _, _, _, h2, hlt, HML.out, HE.out, rfl, rfl⟩, ?_⟩
       simp [muC, intOf]; omega
     · have HE : Hid (cn 0 0 s.data.toList = (0, [], 6)) := by
        show _ = _
        rw [HC.out, HS.out, if_neg (by omega), if_pos (Or.inl h1)]
       go_wp2_with (fail)
       simp only [Exit.jump]
       go_ret3
       exact ⟨by rw [HE.out]; rfl, Below.refl _ _⟩
   · by_cases h3 : b.toNat = 0 ∧ 1 < i + 1
     · have HE : Hid (cn 0 0 s.data.toList = (0, [], 6)) := by
        show _ = _
        rw [HC.out, HS.out, if_neg (by omega), if_pos (Or.inr (Or.inl h3))]
       have h4 : ((b.toNat : Int) == 0) = true := by rw [beq_iff_eq]; omega
       have h5 : (1 : Int) < (i : Int) + 1 := by omega
       clear h3
       go_wp2_with (fail)
       simp only [Exit.jump]
       go_ret3
       exact ⟨by rw [HE.out]; rfl, Below.refl _ _⟩
     · by_cases h6 : 9007199254740991 < m
       · have HE : Hid (cn 0 0 s.data.toList = (0, [], 6)) := by
          show _ = _
          rw [HC.out, HS.out, if_neg (by omega), if_pos (Or.inr (Or.inr h6))]
         go_wp2_with (fail)
         all_goals
          simp only [Exit.jump]
          go_ret3
          exact ⟨by rw [HE.out]; rfl, Below.refl _ _⟩
       · have HE : Hid (cn 0 0 s.data.toList = (m, s.data.toList.drop (i + 1), 0)) := by
          show _ = _
          rw [HC.out, HS.out, if_neg (by omega), if_neg (by omega)]
         by_cases h7 : b.toNat = 0
         · have h4 : ((b.toNat : Int) == 0) = true := by rw [beq_iff_eq]; omega
           have h5 : ¬ (1 : Int) < (i : Int) + 1 := by omega
           clear h3 h7
           go_wp2_with (fail)
           go_quiet (fail)
           go_wp2_with (fail)
           simp only [Exit.jump]
           go_ret3
           exact ⟨by rw [HE.out]; exact ok_ret s i m, below_drewN (Below.refl _ _) _⟩
         · have h4 : ((b.toNat : Int) == 0) = false := by rw [beq_eq_false_iff_ne]; omega
           clear h3 h7
           go_wp2_with (fail)
           go_quiet (fail)
           go_wp2_with (fail)
           simp only [Exit.jump]
           go_ret3
           exact ⟨by rw [HE.out]; exact ok_ret s i m, below_drewN (Below.refl _ _) _⟩
def cc (most : Int) (l : List UInt8) : Nat × List UInt8 × Nat :=
 if (cn 0 0 l).2.2 = 0 then (if most < ((cn 0 0 l).1 : Int) then (0, [], 3) else cn 0 0 l) else cn 0 0 l
theorem cn_ends (i n : Nat) (l : List UInt8) : (cn i n l).2.2 ≤ 6 := by
 induction l generalizing i n with
 | nil => simp [cn]
 | cons b t ih =>
   rw [cn]
   by_cases h1 : 128 ≤ b.toNat ∧ i + 1 < 8
   · rw [if_pos h1]; exact ih _ _
   · rw [if_neg h1]
     by_cases h2 : 128 ≤ b.toNat ∨ (b.toNat = 0 ∧ 1 < i + 1) ∨ 9007199254740991 < n + b.toNat % 128 * 2 ^ (7 * i)
     · rw [if_pos h2]; exact Nat.le_refl _
     · rw [if_neg h2]; exact Nat.zero_le _
theorem cn_cases (l : List UInt8) : (∃ n t, cn 0 0 l = (n, t, 0) ∧ t.length < l.length ∧ n ≤ 9007199254740991) ∨ (∃ k, cn 0 0 l = (0, [], k) ∧ 0 < k ∧ k ≤ 6) := by
 by_cases h : (cn 0 0 l).2.2 = 0
 · obtain ⟨h1, h2⟩ := cn_ok 0 0 l h
   exact Or.inl ⟨_, _, Prod.ext rfl (Prod.ext rfl h), h1, h2⟩
 · obtain ⟨h1, h2⟩ := cn_err 0 0 l h
   exact Or.inr ⟨(cn 0 0 l).2.2, Prod.ext h1 (Prod.ext h2 rfl), by omega, cn_ends 0 0 l⟩
theorem cutNum_ok {s : ByteArray} {n : Nat} {t : List UInt8} (h : cn 0 0 s.data.toList = (n, t, 0)) (w : World) (hs : s.size ≤ 281474976710656) :
 Calls Tryz.prog 84 #[.string s] w fun e w' => e = .returned (.tuple #[.int .i64 (n : Int), .string (tx t), .int .i64 0]) ∧ Below w.heap.size w w' := by
 have := cutNum_any s w hs; rw [h] at this; exact this
theorem cutNum_no {s : ByteArray} {k : Nat} (h : cn 0 0 s.data.toList = (0, [], k)) (w : World) (hs : s.size ≤ 281474976710656) :
 Calls Tryz.prog 84 #[.string s] w fun e w' => e = .returned (.tuple #[.int .i64 0, .string ⟨#[]⟩, .int .i64 (k : Int)]) ∧ Below w.heap.size w w' := by
 have := cutNum_any s w hs; rw [h] at this; exact this
theorem cc_no {l : List UInt8} {k : Nat} (most : Int) (h : cn 0 0 l = (0, [], k)) (hk : 0 < k) : cc most l = (0, [], k) := by
 unfold cc; rw [h]; exact if_neg (Nat.ne_of_gt hk)
theorem cc_large {l : List UInt8} {n : Nat} {t : List UInt8} {most : Int} (h : cn 0 0 l = (n, t, 0)) (hm : most < n) : cc most l = (0, [], 3) := by
 unfold cc; rw [h, if_pos rfl, if_pos hm]
theorem cc_ok {l : List UInt8} {n : Nat} {t : List UInt8} {most : Int} (h : cn 0 0 l = (n, t, 0)) (hm : ¬ most < n) : cc most l = (n, t, 0) := by
 unfold cc; rw [h, if_pos rfl, if_neg hm]
set_option maxHeartbeats 1000000 in
theorem cutCount_any (s : ByteArray) (most : Int) (w : World) (hs : s.size ≤ 281474976710656) :
 Calls Tryz.prog 61 #[.string s, .int .i64 most] w fun e w' => e = .returned (cv (cc most s.data.toList)) ∧ Below w.heap.size w w' := by
 rcases cn_cases s.data.toList with ⟨n, t, h, hl, hn⟩ | ⟨k, h, hk, hk'⟩
 · have H := Lib.hid h; clear h hl
   by_cases hm : most < n
   · have HE := Lib.hid (cc_large H.out hm)
     go_enter Tryz.func61, Tryz.ntmps61
     go_wp2_with (fail)
     refine (cutNum_ok H.out _ hs).mono ?_
     rintro e w1 ⟨rfl, hb⟩
     have HB := Lib.hid hb; clear hb
     go_wp2_with (fail)
     go_ret3
     exact ⟨by rw [HE.out]; rfl, HB.out⟩
   · have HE := Lib.hid (cc_ok H.out hm)
     go_enter Tryz.func61, Tryz.ntmps61
     go_wp2_with (fail)
     refine (cutNum_ok H.out _ hs).mono ?_
     rintro e w1 ⟨rfl, hb⟩
     have HB := Lib.hid hb; clear hb
     go_wp2_with (fail)
     go_ret3
     exact ⟨by rw [HE.out]; rfl, HB.out⟩
 · have H := Lib.hid h; clear h
   have HE := Lib.hid (cc_no most H.out hk)
   have h0 : ((k : Int) != 0) = true := by rw [bne_iff_ne]; omega
   go_enter Tryz.func61, Tryz.ntmps61
   go_wp2_with (fail)
   refine (cutNum_no H.out _ hs).mono ?_
   rintro e w1 ⟨rfl, hb⟩
   have HB := Lib.hid hb; clear hb
   go_wp2_with (fail)
   go_ret3
   exact ⟨by rw [HE.out]; rfl, HB.out⟩
theorem cc_cases (most : Int) (l : List UInt8) : (∃ n t, cc most l = (n, t, 0) ∧ t.length < l.length ∧ n ≤ 9007199254740991 ∧ (n : Int) ≤ most) ∨ (∃ k, cc most l = (0, [], k) ∧ 0 < k ∧ k ≤ 6) := by
 rcases cn_cases l with ⟨n, t, h, hl, hn⟩ | ⟨k, h, hk, hk'⟩
 · by_cases hm : most < n
   · exact Or.inr ⟨3, cc_large h hm, by omega, by omega⟩
   · exact Or.inl ⟨n, t, cc_ok h hm, hl, hn, by omega⟩
 · exact Or.inr ⟨k, cc_no most h hk, hk, hk'⟩
theorem cutCount_ok {s : ByteArray} {most : Int} {n : Nat} {t : List UInt8} (h : cc most s.data.toList = (n, t, 0)) (w : World) (hs : s.size ≤ 281474976710656) :
 Calls Tryz.prog 61 #[.string s, .int .i64 most] w fun e w' => e = .returned (.tuple #[.int .i64 (n : Int), .string (tx t), .int .i64 0]) ∧ Below w.heap.size w w' := by
 have := cutCount_any s most w hs; rw [h] at this; exact this
def IsT (w : World) (b : Nat) (l : List UInt8) : Prop := One w b 103 (.string (tx l))
def NewT (l : List UInt8) (w : World) (e : Ending) (w' : World) : Prop := ∃ b, e = .returned (.pointer (some ⟨b, 0, none⟩)) ∧ w.heap.size ≤ b ∧ IsT w' b l ∧ Below w.heap.size w w'
def LeftT (b : Nat) (v : Value) (l : List UInt8) (w : World) (e : Ending) (w' : World) : Prop := e = .returned v ∧ IsT w' b l ∧ Tur b w w'
theorem new_any (s : ByteArray) (w : World) (hs : s.size ≤ 281474976710656) :
 Calls Tryz.prog 43 #[.string s] w (NewT s.data.toList w) := by
 go_enter Tryz.func43, Tryz.ntmps43
 go_wp2_with (fail)
 refine (clone_any s _ hs).mono ?_
 rintro e w1 ⟨rfl, hb⟩
 have HB := Lib.hid hb; clear hb
 go_wp2_with (fail)
 go_ret
 refine ⟨_, rfl, HB.out.size, ?_, HB.out.alloc HB.out.size _⟩
 show One _ _ _ _
 rw [tx_of]
 exact One.made _ _ _
theorem ahead_any (b : Nat) (l : List UInt8) (w : World) (h : IsT w b l) :
 Calls Tryz.prog 62 #[.pointer (some ⟨b, 0, none⟩)] w fun e w' => e = .returned (.string (tx l)) ∧ w = w' := by
 have hc := One.cell h
 have H := Lib.hid h; clear h
 go_enter Tryz.func62, Tryz.ntmps62
 go_wp2_with (fail)
 go_ret
 exact ⟨rfl, rfl⟩
theorem left_any (b : Nat) (l : List UInt8) (w : World) (h : IsT w b l) :
 Calls Tryz.prog 63 #[.pointer (some ⟨b, 0, none⟩)] w fun e w' => e = .returned (.int .i64 (l.length : Int)) ∧ w = w' := by
 have H := Lib.hid h; clear h
 go_enter Tryz.func63, Tryz.ntmps63
 go_wp2_with (fail)
 refine (ahead_any b l _ H.out).mono ?_
 rintro e w' ⟨rfl, rfl⟩
 have HZ := Lib.hid (tx_size l)
 generalize tx l = s at HZ ⊢
 go_wp2_with (fail)
 go_ret
 exact ⟨ret_int (by rw [HZ.out]), rfl⟩
set_option maxHeartbeats 1000000 in
theorem count_ok (b : Nat) (l : List UInt8) (most : Int) {n : Nat} {t : List UInt8} (w : World) (h : IsT w b l) (hl : l.length ≤ 281474976710656) (hc : cc most l = (n, t, 0)) :
 Calls Tryz.prog 60 #[.pointer (some ⟨b, 0, none⟩), .int .i64 most] w (LeftT b (.tuple #[.int .i64 (n : Int), .int .i64 0]) t w) := by
 have H := Lib.hid h; clear h
 have HC : Hid (cc most (tx l).data.toList = (n, t, 0)) := by show _ = _; rw [tx_list]; exact hc
 clear hc
 go_enter Tryz.func60, Tryz.ntmps60
 go_wp2_with (fail)
 refine (ahead_any b l _ H.out).mono ?_
 rintro e w' ⟨rfl, rfl⟩
 go_wp2_with (fail)
 refine (cutCount_ok HC.out _ (by rw [tx_size]; exact hl)).mono ?_
 rintro e w1 ⟨rfl, hb⟩
 have H1 : Hid (IsT w1 b l) := One.old H.out hb
 have hc1 := One.cell H1.out
 have hf1 := One.thaw H1.out
 have HT : Hid (Tur b w w1) := Below.tur hb
 clear hb
 go_wp2_with (fail)
 go_ret2
 exact ⟨rfl, One.set H1.out _, HT.out.setCell _ _⟩
theorem cc_num (l : List UInt8) : cc 9007199254740991 l = cn 0 0 l := by
 rcases cn_cases l with ⟨n, t, h, _, hn⟩ | ⟨k, h, hk, _⟩
 · rw [h]; exact cc_ok h (by omega)
 · rw [h]; exact cc_no _ h hk
theorem num_ok (b : Nat) (l : List UInt8) {n : Nat} {t : List UInt8} (w : World) (h : IsT w b l) (hl : l.length ≤ 281474976710656) (hc : cn 0 0 l = (n, t, 0)) :
 Calls Tryz.prog 44 #[.pointer (some ⟨b, 0, none⟩)] w (LeftT b (.tuple #[.int .i64 (n : Int), .int .i64 0]) t w) := by
 have H := Lib.hid h; clear h
 have HC := Lib.hid ((cc_num l).trans hc); clear hc
 go_enter Tryz.func44, Tryz.ntmps44
 go_wp2_with (fail)
 refine (count_ok b l _ _ H.out hl HC.out).mono ?_
 rintro e w1 ⟨rfl, h1, ht⟩
 have H1 := Lib.hid h1; have HT := Lib.hid ht; clear h1 ht
 go_wp2_with (fail)
 go_ret2
 exact ⟨rfl, H1.out, HT.out⟩
set_option maxHeartbeats 1000000 in
theorem text_ok (b : Nat) (l : List UInt8) (most : Int) {n : Nat} {t : List UInt8} (w : World) (h : IsT w b l) (hl : l.length ≤ 281474976710656) (hc : cc most l = (n, t, 0)) (hn : n ≤ t.length) :
 Calls Tryz.prog 45 #[.pointer (some ⟨b, 0, none⟩), .int .i64 most] w (LeftT b (.tuple #[.string (tx (t.take n)), .int .i64 0]) (t.drop n) w) := by
 have htl : t.length ≤ 281474976710656 := by
  rcases cc_cases most l with ⟨n', t', h', h1, _⟩ | ⟨k, h', h1, _⟩
  · rw [hc] at h'
    have : t = t' := congrArg (fun x => x.2.1) h'
    subst this; omega
  · rw [hc] at h'
    have : 0 = k := congrArg (fun x => x.2.2) h'
    omega
 have H := Lib.hid h; clear h
 have HC : Hid (cc most (tx l).data.toList = (n, t, 0)) := by show _ = _; rw [tx_list]; exact hc
 clear hc
 have hz : ((tx t).size : Int) = (t.length : Int) := by rw [tx_size]
 have h0 : ¬ ((t.length : Int) < (n : Int)) := by omega
 have HE : Hid ((tx t).extract n (tx t).size = tx (t.drop n)) := by show _ = _; rw [ext_drop, tx_list]
 have HF : Hid ((tx t).extract 0 n = tx (t.take n)) := by show _ = _; rw [ext_take, tx_list]
 go_enter Tryz.func45, Tryz.ntmps45
 go_wp2_with (fail)
 refine (ahead_any b l _ H.out).mono ?_
 rintro e w' ⟨rfl, rfl⟩
 go_wp2_with (fail)
 refine (cutCount_ok HC.out _ (by rw [tx_size]; exact hl)).mono ?_
 rintro e w1 ⟨rfl, hb⟩
 have H1 : Hid (IsT w1 b l) := One.old H.out hb
 have hc1 := One.cell H1.out
 have hf1 := One.thaw H1.out
 have HT : Hid (Tur b w w1) := Below.tur hb
 clear hb
 go_wp2_with (fail)
 rw [HE.out, HF.out]
 refine (clone_any (tx (t.take n)) _ (by rw [tx_size, List.length_take]; omega)).mono ?_
 rintro e w2 ⟨rfl, hb⟩
 have H2 : Hid (IsT w2 b (t.drop n)) := One.old (One.set H1.out _) hb
 have HT2 : Hid (Tur b w w2) := (HT.out.setCell _ _).trans (Below.tur hb)
 clear hb
 go_wp2_with (fail)
 go_ret2
 exact ⟨rfl, H2.out, HT2.out⟩
theorem end_yes (b : Nat) (l : List UInt8) (w : World) (h : IsT w b l) (he : l = []) :
 Calls Tryz.prog 46 #[.pointer (some ⟨b, 0, none⟩)] w fun e w' => e = .returned (.bool true) ∧ w = w' := by
 subst he
 have H := Lib.hid h; clear h
 go_enter Tryz.func46, Tryz.ntmps46
 go_wp2_with (fail)
 refine (left_any b [] _ H.out).mono ?_
 rintro e w' ⟨rfl, rfl⟩
 go_wp2_with (fail)
 go_ret
 exact ⟨rfl, rfl⟩
theorem cc_laid (x : Nat) (t : List UInt8) (most : Int) (h : x ≤ 9007199254740991) (hm : (x : Int) ≤ most) : cc most (nb x ++ t) = (x, t, 0) := cc_ok (cn_laid x t h) (by omega)
end Go.Proofs.YtchmepalhldpcaaGreatDoor.Tp

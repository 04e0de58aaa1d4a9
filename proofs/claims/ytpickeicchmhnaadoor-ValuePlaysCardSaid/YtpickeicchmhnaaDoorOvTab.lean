/-
  Of any seat that holds strconv.Itoa: the table that it reads, as the program lays it; a number in decimal, by the shelf (laid in plain words; written by gen_lay.py).
-/
import Derived.Test.YtpickeicchmhnaaDoorOvBase
import Derived.Shelf.Strconv.Itoa3
import Derived.Lib.LaidTab
namespace Go.Proofs.YtpickeicchmhnaaDoor.Ov
open Go.ChangeShapes Go.WideShapes Go.ChangeAt Go.RowKit Go.Shelf

def itoRen : Ren := ⟨fun | 129 => 79 | 171 => 30 | 243 => 56 | 246 => 67 | 283 => 73 | 284 => 74 | 285 => 75 | 286 => 76 | 317 => 78 | 318 => 80 | 319 => 81 | 320 => 82 | 337 => 84 | 338 => 85 | n => n, fun | 0 => 0 | 2 => 2 | 3 => 3 | 4 => 4 | 5 => 5 | 9 => 9 | 20 => 20 | 37 => 57 | 46 => 47 | 51 => 94 | 53 => 86 | 171 => 85 | 173 => 89 | 212 => 93 | 213 => 95 | 232 => 98 | 233 => 99 | n => n, fun | 17 => 0 | 18 => 2 | 19 => 3 | n => n⟩
theorem itoLays : LaysM.n171 Tryd.prog itoRen :=
  { mixed := by kernel_rfl
    f129 := by kernel_rfl
    f171 := by kernel_rfl
    f243 := by kernel_rfl
    f246 := by kernel_rfl
    f283 := by kernel_rfl
    f284 := by kernel_rfl
    f285 := by kernel_rfl
    f286 := by kernel_rfl
    f317 := by kernel_rfl
    f318 := by kernel_rfl
    f319 := by kernel_rfl
    f320 := by kernel_rfl
    f337 := by kernel_rfl
    f338 := by kernel_rfl
    t0 := by kernel_rfl
    a0 := fun _ => by kernel_rfl
    z0 := fun _ => by kernel_rfl
    v0 := fun _ => by kernel_rfl
    t2 := by kernel_rfl
    a2 := fun _ => by kernel_rfl
    z2 := fun _ => by kernel_rfl
    v2 := fun _ => by kernel_rfl
    t3 := by kernel_rfl
    a3 := fun _ => by kernel_rfl
    z3 := fun _ => by kernel_rfl
    v3 := fun _ => by kernel_rfl
    t4 := by kernel_rfl
    a4 := fun _ => by kernel_rfl
    z4 := fun _ => by kernel_rfl
    v4 := fun _ => by kernel_rfl
    t5 := by kernel_rfl
    a5 := fun _ => by kernel_rfl
    z5 := fun _ => by kernel_rfl
    v5 := fun _ => by kernel_rfl
    t9 := by kernel_rfl
    a9 := fun _ => by kernel_rfl
    z9 := fun _ => by kernel_rfl
    v9 := fun _ => by kernel_rfl
    t20 := by kernel_rfl
    a20 := fun _ => by kernel_rfl
    z20 := fun _ => by kernel_rfl
    v20 := fun _ => by kernel_rfl
    t37 := by kernel_rfl
    a37 := fun _ => by kernel_rfl
    z37 := fun _ => by kernel_rfl
    v37 := fun _ => by kernel_rfl
    t46 := by kernel_rfl
    a46 := fun _ => by kernel_rfl
    z46 := fun _ => by kernel_rfl
    v46 := fun _ => by kernel_rfl
    t51 := by kernel_rfl
    a51 := fun _ => by kernel_rfl
    z51 := fun _ => by kernel_rfl
    v51 := fun _ => by kernel_rfl
    t53 := by kernel_rfl
    a53 := fun _ => by kernel_rfl
    z53 := fun _ => by kernel_rfl
    v53 := fun _ => by kernel_rfl
    t171 := by kernel_rfl
    a171 := fun _ => by kernel_rfl
    z171 := fun _ => by kernel_rfl
    v171 := fun _ => by kernel_rfl
    t173 := by kernel_rfl
    a173 := fun _ => by kernel_rfl
    z173 := fun _ => by kernel_rfl
    v173 := fun _ => by kernel_rfl
    t212 := by kernel_rfl
    a212 := fun _ => by kernel_rfl
    z212 := fun _ => by kernel_rfl
    v212 := fun _ => by kernel_rfl
    t213 := by kernel_rfl
    a213 := fun _ => by kernel_rfl
    z213 := fun _ => by kernel_rfl
    t232 := by kernel_rfl
    a232 := fun _ => by kernel_rfl
    z232 := fun _ => by kernel_rfl
    v232 := fun _ => by kernel_rfl
    t233 := by kernel_rfl
    a233 := fun _ => by kernel_rfl
    z233 := fun _ => by kernel_rfl
    v233 := fun _ => by kernel_rfl
    g17 := by kernel_rfl
    g18 := by kernel_rfl
    g19 := by kernel_rfl
    i0 := by kernel_rfl
    i2 := by kernel_rfl
    i3 := by kernel_rfl
    i4 := by kernel_rfl
    i5 := by kernel_rfl
    i9 := by kernel_rfl
    i20 := by kernel_rfl
    i37 := by kernel_rfl
    i46 := by kernel_rfl
    i51 := by kernel_rfl
    i53 := by kernel_rfl
    i171 := by kernel_rfl
    i173 := by kernel_rfl
    i212 := by kernel_rfl
    i232 := by kernel_rfl
    i233 := by kernel_rfl
    m17 := by kernel_rfl
    m18 := by kernel_rfl
    m19 := by kernel_rfl }
/-- The powers of ten lie in their table. -/
def Tab (w : World) : Prop := Lib.TabIs Tryd.prog w "internal/strconv.uint64pow10" .u64 Lib.pow10Tab
theorem Tab.at {w : World} (h : Tab w) : Lib.TabIs Tryd.prog w "internal/strconv.uint64pow10" .u64 Lib.pow10Tab := h
theorem tab_global : Tryd.prog.globalNamed "internal/strconv.uint64pow10" = some 0 := by kernel_rfl
theorem Tab.lt {w : World} (h : Tab w) : 0 < w.heap.size := block_lt_of_cell (Lib.TabIs.cell h tab_global 0 (by decide))
theorem Tab.next {w w' : World} (h : Tab w) (k : Below w.heap.size w w') : Tab w' := by
  have e : w'.var? Tryd.prog "internal/strconv.uint64pow10" = w.var? Tryd.prog "internal/strconv.uint64pow10" := by
    unfold World.var?
    rw [tab_global]
    simp only [Option.bind_some]
    rw [k.block _ h.lt]
  exact e.trans h
theorem below_grow {B : Nat} {w w' : World} (h : Below B w w') (hB : B ≤ w'.heap.size) (os : Array Obj) : Below B w (Sort.grow w' os) :=
  ⟨h.os, h.tape, h.output, by rw [Sort.size_grow]; exact Nat.le_trans h.size (Nat.le_add_right _ _), fun i hi => (Sort.heap_grow_old w' os (by omega)).trans (h.block i hi)⟩
theorem itoa_any (n : Int) (h0 : -9223372036854775808 ≤ n) (h1 : n ≤ 9223372036854775807) (w : World) (ht : Tab w) :
    Calls Tryd.prog 30 #[.int .i64 n] w (Gives (.string (tx (Lib.itoa n))) w) :=
  (Any.strconv_Itoa itoLays n h0 h1 w ht).mono fun _ _ ⟨he, k, os, hw⟩ => ⟨he, by rw [hw]; exact below_grow (below_drewN (Below.refl _ _) k) (Nat.le_refl _) os⟩
/-- Out of what the row lists. -/
theorem tab_of {w : World} (d : DataW Unit) (hd : d = Lib.tabData .u64 Lib.pow10Tab) (h : ∃ g t cs fuel p, Tryd.prog.globalNamed "internal/strconv.uint64pow10" = some g ∧ (Tryd.prog.globals[g]?).map (·.type) = some t ∧ w.var? Tryd.prog "internal/strconv.uint64pow10" = some cs ∧
    DataW.trod (fun _ => ()) Tryd.prog w 0 (fun _ => true) false fuel t cs.toList = some (d, p)) : Tab w := by
  obtain ⟨g, t, cs, fuel, p, hg, ht, hv, hr⟩ := h
  subst hd
  obtain rfl := Option.some.inj (tab_global.symm.trans hg)
  obtain rfl := Option.some.inj ((show (Tryd.prog.globals[0]?).map (·.type) = some 93 by kernel_rfl).symm.trans ht)
  show w.var? _ _ = _
  rw [hv, ← Lib.cells_of_tab Tryd.underlying93 Tryd.underlying86 (by kernel_rfl) (by kernel_rfl) hr]
end Go.Proofs.YtpickeicchmhnaaDoor.Ov

/-
  slices' stable sort at elements of k cells: what lies in the program (generic in it, so that the walks don't open the element's type), the library's insertion sort laid in plain words.
-/
import Derived.Test.YtgakcpcpfkoaiaaRows
import Derived.Test.YtgakcpcpfkoaiaaStMath
import Derived.Shelf.SlSortCmp.KitK
import Derived.Sort.WalkB2
import Derived.Sort.WalkB12
import Derived.Deep.LoopGhost
import Derived.Lib.Hide
namespace Go.Proofs.Ytgakcpcpfkoaiaa.St
open Go.Proofs Go.RowKit Go.Shelf Go.Lib Go.Sort

/-- What of the program the stable sort's walks lean on (of the element's type nothing). -/
structure StL (P : Program) : Prop where
  mixed : P.follows .mixedOrders = true
  fI : P.funcs[60]? = some Try.f60
  fM : P.funcs[61]? = some Try.f61
  fR : P.funcs[67]? = some Try.f67
  fS : P.funcs[69]? = some Try.f69
  fT : P.funcs[49]? = some Try.f49
  fO : P.funcs[31]? = some Try.f31
  t0 : P.underlying 0 = some (TypeDesc.tuple #[])
  a0 : ∀ w, (isAgg 0).run P w = .ok false w
  z0 : ∀ w, (Go.sizeOf 0).run P w = .ok 1 w
  v0 : ∀ w, (zeroValue 0).run P w = .ok (Value.tuple #[]) w
  t3 : P.underlying 3 = some (TypeDesc.int IntKind.i64)
  a3 : ∀ w, (isAgg 3).run P w = .ok false w
  z3 : ∀ w, (Go.sizeOf 3).run P w = .ok 1 w
  v3 : ∀ w, (zeroValue 3).run P w = .ok (Value.int IntKind.i64 0) w
  t4 : P.underlying 4 = some (TypeDesc.bool)
  a4 : ∀ w, (isAgg 4).run P w = .ok false w
  z4 : ∀ w, (Go.sizeOf 4).run P w = .ok 1 w
  v4 : ∀ w, (zeroValue 4).run P w = .ok (Value.bool false) w
  t22 : P.underlying 22 = some (TypeDesc.slice 44)
  a22 : ∀ w, (isAgg 22).run P w = .ok false w
  z22 : ∀ w, (Go.sizeOf 22).run P w = .ok 1 w
  v22 : ∀ w, (zeroValue 22).run P w = .ok (Value.slice none 0 0) w
  t25 : P.underlying 69 = some (TypeDesc.func #[44, 44] #[3] false)
  a25 : ∀ w, (isAgg 69).run P w = .ok false w
  z25 : ∀ w, (Go.sizeOf 69).run P w = .ok 1 w
  v25 : ∀ w, (zeroValue 69).run P w = .ok (Value.nilFunc) w
  tu : P.underlying 75 = some (TypeDesc.int IntKind.u64)
  au : ∀ w, (isAgg 75).run P w = .ok false w
  zu : ∀ w, (Go.sizeOf 75).run P w = .ok 1 w
  vu : ∀ w, (zeroValue 75).run P w = .ok (Value.int IntKind.u64 0) w
theorem stL : StL Try.prog where
  mixed := by kernel_rfl
  fI := by kernel_rfl
  fM := by kernel_rfl
  fR := by kernel_rfl
  fS := by kernel_rfl
  fT := by kernel_rfl
  fO := by kernel_rfl
  t0 := by kernel_rfl
  a0 := fun _ => by kernel_rfl
  z0 := fun _ => by kernel_rfl
  v0 := fun _ => by kernel_rfl
  t3 := by kernel_rfl
  a3 := fun _ => by kernel_rfl
  z3 := fun _ => by kernel_rfl
  v3 := fun _ => by kernel_rfl
  t4 := by kernel_rfl
  a4 := fun _ => by kernel_rfl
  z4 := fun _ => by kernel_rfl
  v4 := fun _ => by kernel_rfl
  t22 := by kernel_rfl
  a22 := fun _ => by kernel_rfl
  z22 := fun _ => by kernel_rfl
  v22 := fun _ => by kernel_rfl
  t25 := by kernel_rfl
  a25 := fun _ => by kernel_rfl
  z25 := fun _ => by kernel_rfl
  v25 := fun _ => by kernel_rfl
  tu := by kernel_rfl
  au := fun _ => by kernel_rfl
  zu := fun _ => by kernel_rfl
  vu := fun _ => by kernel_rfl
/-- The numbers at which the library's insertion sort lies here. -/
def ren : Ren := ⟨fun | 20 => 60 | n => n, fun | 0 => 0 | 3 => 3 | 4 => 4 | 22 => 22 | 24 => 44 | 25 => 69 | n => n, fun n => n⟩
theorem StL.ins {P : Program} (L : StL P) : SlLaysF0.n20 P ren :=
  { mixed := L.mixed, f20 := ⟨Try.f60.name, by kernel_rfl, L.fI.trans (by kernel_rfl)⟩, t0 := L.t0, a0 := L.a0, z0 := L.z0, v0 := L.v0, t3 := L.t3, a3 := L.a3, z3 := L.z3, v3 := L.v3, t4 := L.t4, a4 := L.a4, z4 := L.z4, v4 := L.v4, t22 := L.t22, a22 := L.a22, z22 := L.z22, v22 := L.v22, t25 := L.t25, a25 := L.a25, z25 := L.z25, v25 := L.v25 }
end Go.Proofs.Ytgakcpcpfkoaiaa.St

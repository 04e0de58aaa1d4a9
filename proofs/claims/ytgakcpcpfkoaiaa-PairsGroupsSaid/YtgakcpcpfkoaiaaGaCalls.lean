/-
  The calls of package gauss that answer without an error of their own: fits, Right, bothRight, ifRight, toComplex, toSpot, mirror, norm, nearest.
-/
import Derived.Test.YtgakcpcpfkoaiaaGaMath
import Derived.Test.YtgakcpcpfkoaiaaOvBase
import Derived.Laws.StructEq
namespace Go.Proofs.Ytgakcpcpfkoaiaa.Ga
open Go.ChangeShapes Go.WideShapes Go.ChangeAt Go.RowKit Go.Proofs.Ytgakcpcpfkoaiaa.Ov

theorem bcell {W w1 : World} (hb : Below W.heap.size W w1) : (∀ b o, b < W.heap.size → w1.cell? ⟨b, o, none⟩ = W.cell? ⟨b, o, none⟩) ∧ (∀ b o, b < W.heap.size → w1.frozen? ⟨b, o, none⟩ = W.frozen? ⟨b, o, none⟩) :=
  ⟨fun b o h => hb.cell (p := ⟨b, o, none⟩) h, fun b o h => hb.frozen (p := ⟨b, o, none⟩) h⟩
theorem below1 (w : World) (a : Obj) : Below w.heap.size w (w.alloc a) := (Below.refl _ _).alloc (Nat.le_refl _) _
theorem below2 (w : World) (a b : Obj) : Below w.heap.size w ((w.alloc a).alloc b) := (below1 w a).alloc (by simp) _
theorem below3 (w : World) (a b c : Obj) : Below w.heap.size w (((w.alloc a).alloc b).alloc c) := (below2 w a b).alloc (by simp; omega) _
theorem below4 (w : World) (a b c d : Obj) : Below w.heap.size w ((((w.alloc a).alloc b).alloc c).alloc d) := (below3 w a b c).alloc (by simp; omega) _
theorem fits_any (n : Int) (w : World) : Calls Try.prog 63 #[.int .i64 n] w fun e w' => e = .returned (.bool (fb n)) ∧ w = w' := by
  by_cases h1 : -16777216 ≤ n
  · by_cases h2 : n ≤ 16777216
    · have e : fb n = true := fb_of h1 h2
      rw [e]; clear e
      go_enter Try.func63, Try.ntmps63
      go_wp2_with (fail)
      go_ret
      exact ⟨rfl, rfl⟩
    · have e : fb n = false := decide_eq_false (by omega)
      rw [e]; clear e
      go_enter Try.func63, Try.ntmps63
      go_wp2_with (fail)
      go_ret
      exact ⟨rfl, rfl⟩
  · have e : fb n = false := decide_eq_false (by omega)
    rw [e]; clear e
    go_enter Try.func63, Try.ntmps63
    go_wp2_with (fail)
    go_ret
    exact ⟨rfl, rfl⟩
theorem right_any (x y : Int) (w : World) : Calls Try.prog 57 #[.agg #[.int .i64 x, .int .i64 y]] w fun e w' => e = .returned (.bool (rb ⟨x, y⟩)) ∧ Below w.heap.size w w' := by
  have e : rb ⟨x, y⟩ = (fb x && fb y) := rfl
  rw [e]; clear e
  have HX := Lib.hid (fits_any x)
  have HY := Lib.hid (fits_any y)
  generalize fb x = p at *
  generalize fb y = q at *
  cases p
  · go_enter Try.func57, Try.ntmps57
    go_wp2_with (fail)
    refine (HX.out _).mono ?_
    rintro e w' ⟨rfl, rfl⟩
    go_wp2_with (fail)
    go_ret
    exact ⟨rfl, (Below.refl _ _).alloc (Nat.le_refl _) _⟩
  · go_enter Try.func57, Try.ntmps57
    go_wp2_with (fail)
    refine (HX.out _).mono ?_
    rintro e w' ⟨rfl, rfl⟩
    go_wp2_with (fail)
    refine (HY.out _).mono ?_
    rintro e w' ⟨rfl, rfl⟩
    go_wp2_with (fail)
    go_ret
    exact ⟨rfl, (Below.refl _ _).alloc (Nat.le_refl _) _⟩
end Go.Proofs.Ytgakcpcpfkoaiaa.Ga

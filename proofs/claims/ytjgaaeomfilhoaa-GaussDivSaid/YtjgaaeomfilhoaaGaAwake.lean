/-
  The document's examples for layer 6; a point among a law's arguments.
-/
import Derived.Test.YtjgaaeomfilhoaaGaCommon
import Derived.Lib.SmallJoins
import Derived.OpenShut
namespace Go.Proofs.Ytjgaaeomfilhoaa.Ga
open Go.ChangeShapes Go.WideShapes Go.ChangeAt Go.RowKit Go.Proofs.Ytjgaaeomfilhoaa.Ov

theorem boxes1 (t : TypeId) (x1 y1 : Value) (w : World) : Below w.heap.size w (w.alloc (.cells #[x1, y1] t)) ∧ Duo (w.alloc (.cells #[x1, y1] t)) w.heap.size x1 y1 := ⟨box1 w _, Duo.made w t x1 y1⟩
theorem mul_eg (w : World) : Calls Try.prog 10 #[.agg #[.int .i64 1, .int .i64 2], .agg #[.int .i64 3, .int .i64 (-1)]] w (Gives (.tuple #[.agg #[.int .i64 5, .int .i64 5], .int .i64 0]) w) := by
  have e : ans (rb ⟨1, 2⟩ && rb ⟨3, -1⟩ && rb (Pt.mul ⟨1, 2⟩ ⟨3, -1⟩)) (Pt.mul ⟨1, 2⟩ ⟨3, -1⟩) = .tuple #[.agg #[.int .i64 5, .int .i64 5], .int .i64 0] := by
    rw [show (rb ⟨1, 2⟩ && rb ⟨3, -1⟩ && rb (Pt.mul ⟨1, 2⟩ ⟨3, -1⟩)) = true by decide]; rfl
  have h := mul_any 1 2 3 (-1) w
  rw [e] at h
  exact h
theorem div_eg (w : World) : Calls Try.prog 14 #[.agg #[.int .i64 5, .int .i64 5], .agg #[.int .i64 2, .int .i64 0]] w (Gives (.tuple #[.agg #[.int .i64 3, .int .i64 3], .agg #[.int .i64 (-1), .int .i64 (-1)], .int .i64 0]) w) := by
  have e1 : Pt.quo ⟨5, 5⟩ ⟨2, 0⟩ = ⟨3, 3⟩ := by decide
  have e2 : Pt.rest ⟨5, 5⟩ ⟨2, 0⟩ = ⟨-1, -1⟩ := by decide
  have h := div_yes (x := 5) (y := 5) (u := 2) (v := 0) (by decide) (by decide) (by decide) w
  rw [e1, e2] at h
  exact h
set_option maxHeartbeats 1000000 in
theorem awake_any (w : World) : Calls Try.prog 9 #[] w (Gives (.bool true) w) := by
  go_enter Try.func9, Try.ntmps9
  go_wp2_with (fail)
  refine (mul_eg _).mono ?_
  rintro e w1 ⟨rfl, hb⟩
  have HB := Lib.hid hb; clear hb
  go_wp2_with (fail)
  have hb2 := (Below.alloc HB.out HB.out.size (.cells #[.int .i64 5, .int .i64 5] 23))
  have d1 := Duo.made w1 23 (.int .i64 5) (.int .i64 5)
  generalize w1.alloc (.cells #[.int .i64 5, .int .i64 5] 23) = w2 at *
  generalize w1.heap.size = g at *
  refine (div_eg _).mono ?_
  rintro e w3 ⟨rfl, hb⟩
  obtain ⟨k2, o3, o4⟩ := boxes2 23 (.int .i64 3) (.int .i64 3) (.int .i64 (-1)) (.int .i64 (-1)) w3
  have HB3 := Lib.hid ((hb2.trans (hb.mono hb2.size)).trans (k2.mono (hb2.trans (hb.mono hb2.size)).size))
  obtain ⟨a0, a1, _, _⟩ := (d1.next hb).next k2
  obtain ⟨b0, b1, _, _⟩ := o3
  obtain ⟨c0, c1, _, _⟩ := o4
  clear hb hb2 d1 k2
  go_wp2_with (fail)
  generalize (w3.alloc (.cells #[.int .i64 3, .int .i64 3] 23)).alloc (.cells #[.int .i64 (-1), .int .i64 (-1)] 23) = w4 at *
  go_wp2_with (fail)
  go_ret
  exact ⟨rfl, HB3.out⟩
section
variable {H : Type} {enc : TypeId × Value → H} {w : World} {base : Nat} {spare : Nat → Bool} {held : Bool}
/-- A point among the arguments, opened. -/
theorem spot_of {r : Reach} {b0 : Nat} {v : Value} {d : DataW H} {p : List MemPlace} (hv : Value.okWide Try.prog w r b0 23 v) (h : DataW.Trod enc Try.prog w base spare held 23 v d p) :
    ∃ x y : Int, v = .agg #[.int .i64 x, .int .i64 y] ∧ d = .agg [.lit (.int .i64 x), .lit (.int .i64 y)] ∧ p = [] ∧ (Lit.int .i64 x).wf = true ∧ (Lit.int .i64 y).wf = true := by
  obtain ⟨v0, v1, y0, y1, n, rfl, rfl, rfl, h0, h1⟩ := Joins.open_agg2 Try.underlying23 (by kernel_rfl) (by kernel_rfl) hv h
  obtain ⟨x, hx, rfl, wx⟩ := DataW.trod_int Try.underlying3 h0
  obtain ⟨y, hy, rfl, wy⟩ := DataW.trod_int Try.underlying3 h1
  obtain rfl : v0 = .int .i64 x := by simpa using hx
  obtain rfl : v1 = .int .i64 y := by simpa using hy
  exact ⟨x, y, rfl, rfl, rfl, wx, wy⟩
/-- And shut. -/
theorem shut_spot {x y : Int} (wx : (Lit.int .i64 x).wf = true) (wy : (Lit.int .i64 y).wf = true) : DataW.Trod enc Try.prog w base spare held 23 (.agg #[.int .i64 x, .int .i64 y]) (.agg [.lit (.int .i64 x), .lit (.int .i64 y)]) [] :=
  Joins.shut_agg2 (y0 := (.lit (.int .i64 x), [])) (y1 := (.lit (.int .i64 y), [])) Try.underlying23 (by kernel_rfl) (by kernel_rfl) ⟨1, trod_int_mk 0 Try.underlying3 wx⟩ ⟨1, trod_int_mk 0 Try.underlying3 wy⟩
end
end Go.Proofs.Ytjgaaeomfilhoaa.Ga

/-
  Div, where there is a quotient.
-/
import Derived.Test.YtjgaaeomfilhoaaGaTurn
namespace Go.Proofs.Ytjgaaeomfilhoaa.Ga
open Go.ChangeShapes Go.WideShapes Go.ChangeAt Go.RowKit Go.Proofs.Ytjgaaeomfilhoaa.Ov

theorem not_zero {u v : Int} (h : (⟨u, v⟩ : Pt) ≠ Pt.zero) : (u == 0) = false ∨ ((u == 0) = true ∧ (v == 0) = false) := by
  by_cases hu : u = 0
  · exact .inr ⟨beq_iff_eq.2 hu, beq_eq_false_iff_ne.2 fun hv => h (Pt.ext hu hv)⟩
  · exact .inl (beq_eq_false_iff_ne.2 hu)
set_option maxHeartbeats 1000000 in
theorem div_yes {x y u v : Int} (ha : rb ⟨x, y⟩ = true) (hb : rb ⟨u, v⟩ = true) (h0 : (⟨u, v⟩ : Pt) ≠ Pt.zero) (w : World) :
    Calls Try.prog 14 #[.agg #[.int .i64 x, .int .i64 y], .agg #[.int .i64 u, .int .i64 v]] w
      (Gives (two (Pt.quo ⟨x, y⟩ ⟨u, v⟩).x (Pt.quo ⟨x, y⟩ ⟨u, v⟩).y (Pt.rest ⟨x, y⟩ ⟨u, v⟩).x (Pt.rest ⟨x, y⟩ ⟨u, v⟩).y 0) w) := by
  have HR := Lib.hid (both_any x y u v); rw [ha, hb] at HR
  have HD := Lib.hid (divide_any ha hb h0)
  have hne := not_zero h0
  clear ha hb h0
  generalize (Pt.quo ⟨x, y⟩ ⟨u, v⟩).x = p at *
  generalize (Pt.quo ⟨x, y⟩ ⟨u, v⟩).y = q at *
  generalize (Pt.rest ⟨x, y⟩ ⟨u, v⟩).x = r at *
  generalize (Pt.rest ⟨x, y⟩ ⟨u, v⟩).y = s at *
  rcases hne with hu | ⟨hu, hv⟩
  all_goals
    go_enter Try.func14, Try.ntmps14
    go_wp2_with (fail)
    refine (HR.out _).mono ?_
    rintro e w1 ⟨rfl, hb⟩
    obtain ⟨h4, d2, d3, d4, d5⟩ := boxes4 23 (.int .i64 x) (.int .i64 y) (.int .i64 u) (.int .i64 v) (.int .i64 0) (.int .i64 0) (.int .i64 0) (.int .i64 0) w
    have HB := Lib.hid (Below.next h4 hb)
    have D4 := Lib.hid (d4.next hb); have D5 := Lib.hid (d5.next hb)
    obtain ⟨a0, a1, _, _⟩ := d2.next hb
    obtain ⟨b0, b1, _, _⟩ := d3.next hb
    clear hb h4 d2 d3 d4 d5
    go_wp2_with (fail)
    refine (HD.out _).mono ?_
    rintro e w2 ⟨rfl, hb⟩
    obtain ⟨k2, o7, o8⟩ := boxes2 23 (.int .i64 p) (.int .i64 q) (.int .i64 r) (.int .i64 s) w2
    have HB2 := Lib.hid (Below.next (Below.next HB.out hb) k2)
    have F4 := Lib.hid ((D4.out.next hb).next k2)
    have F5 := Lib.hid ((D5.out.next hb).next k2)
    have O7 := Lib.hid o7; have O8 := Lib.hid o8
    have hg : w.heap.size + 1 + 1 + 1 < w2.heap.size := (D5.out.next hb).lt
    have hz := F5.out.lt
    clear hb a0 a1 b0 b1 k2 o7 o8
    go_wp2_with (fail)
    generalize (w2.alloc (.cells #[.int .i64 p, .int .i64 q] 23)).alloc (.cells #[.int .i64 r, .int .i64 s] 23) = w3 at *
    generalize w2.heap.size = g at *
    obtain ⟨a0, a1, _, _⟩ := O7.out
    obtain ⟨b0, b1, _, _⟩ := O8.out
    obtain ⟨e0, e1, g0, g1⟩ := F4.out
    obtain ⟨i0, i1, j0, j1⟩ := F5.out
    go_region
    go_wp2_with (fail)
    refine bodyPost_ret (v := two p q r s 0) (by simp [results, Try.results14, go_sem, e0, e1, i0, i1]; rfl) rfl ⟨rfl, ?_⟩
    exact (below_put2 (below_put2 HB2.out (c := w.heap.size + 1 + 1) (by omega) _ _) (c := w.heap.size + 1 + 1 + 1) (by omega) _ _).drew
end Go.Proofs.Ytjgaaeomfilhoaa.Ga

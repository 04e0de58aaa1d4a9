/-
  Turn, Div.
-/
import Derived.Test.YtjgaaeomfilhoaaGaFirst
namespace Go.Proofs.Ytjgaaeomfilhoaa.Ga
open Go.ChangeShapes Go.WideShapes Go.ChangeAt Go.RowKit Go.Proofs.Ytjgaaeomfilhoaa.Ov

theorem bits_and3 (n : Int) : bits .and .i64 n 3 = (((n % 4).toNat : Nat) : Int) := by
  show IntKind.i64.wrap ((BitVec.ofInt 64 n &&& BitVec.ofInt 64 3).toNat : Int) = _
  rw [BitVec.toNat_and, BitVec.toNat_ofInt, IntKind.wrap_i64]
  have e2 : (BitVec.ofInt 64 3).toNat = 3 := by decide
  rw [e2]
  have e3 : (n % ((2 ^ 64 : Nat) : Int)).toNat &&& 3 = (n % ((2 ^ 64 : Nat) : Int)).toNat % 4 := Nat.and_two_pow_sub_one_eq_mod _ 2
  rw [e3]; omega
theorem turn_yes {x y : Int} (h : rb ⟨x, y⟩ = true) (n : Int) (w : World) : Calls Try.prog 19 #[.agg #[.int .i64 x, .int .i64 y], .int .i64 n] w
    (Gives (.tuple #[.agg #[.int .i64 (Pt.turns (n % 4).toNat ⟨x, y⟩).x, .int .i64 (Pt.turns (n % 4).toNat ⟨x, y⟩).y], .int .i64 0]) w) := by
  have HR := Lib.hid (right_any x y); rw [h] at HR
  have HT := Lib.hid (turn_any h (n % 4).toNat (by omega)); clear h
  have hbit := bits_and3 n
  generalize (((n % 4).toNat : Nat) : Int) = m at *
  generalize (Pt.turns (n % 4).toNat ⟨x, y⟩).x = p at *
  generalize (Pt.turns (n % 4).toNat ⟨x, y⟩).y = q at *
  go_enter Try.func19, Try.ntmps19
  go_wp2_with (fail)
  refine (HR.out _).mono ?_
  rintro e w1 ⟨rfl, hb⟩
  obtain ⟨h2, d0, d1⟩ := boxes2 23 (.int .i64 x) (.int .i64 y) (.int .i64 0) (.int .i64 0) w
  have HB := Lib.hid (Below.next h2 hb)
  have HD := Lib.hid (d1.next hb)
  obtain ⟨c0, c1, _, _⟩ := d0.next hb
  clear hb h2 d0 d1
  go_wp2_with (fail)
  refine (HT.out _).mono ?_
  rintro e w2 ⟨rfl, hb⟩
  have HB2 := Lib.hid (Below.next HB.out hb)
  have hz := (HD.out.next hb).lt
  obtain ⟨e0, e1, g0, g1⟩ := HD.out.next hb
  clear hb c0 c1
  go_wp2_with (fail)
  refine bodyPost_ret (v := .tuple #[.agg #[.int .i64 p, .int .i64 q], .int .i64 0]) (by simp [results, Try.results19, go_sem, e0, e1]) rfl ⟨rfl, ?_⟩
  exact below_put2 HB2.out (c := w.heap.size + 1) (by omega) _ _
theorem turn_no {x y : Int} (h : rb ⟨x, y⟩ = false) (n : Int) (w : World) : Calls Try.prog 19 #[.agg #[.int .i64 x, .int .i64 y], .int .i64 n] w (Gives (.tuple #[.agg #[.int .i64 0, .int .i64 0], .int .i64 14]) w) := by
  have HR := Lib.hid (right_any x y); rw [h] at HR; clear h
  go_enter Try.func19, Try.ntmps19
  go_wp2_with (fail)
  refine (HR.out _).mono ?_
  rintro e w1 ⟨rfl, hb⟩
  obtain ⟨h2, d0, d1⟩ := boxes2 23 (.int .i64 x) (.int .i64 y) (.int .i64 0) (.int .i64 0) w
  have HB := Lib.hid (Below.next h2 hb)
  have hz := (d1.next hb).lt
  obtain ⟨e0, e1, g0, g1⟩ := d1.next hb
  clear hb h2 d0 d1
  go_wp2_with (fail)
  refine bodyPost_ret (v := .tuple #[.agg #[.int .i64 0, .int .i64 0], .int .i64 14]) (by simp [results, Try.results19, go_sem, e0, e1]) rfl ⟨rfl, ?_⟩
  exact below_put2 HB.out (c := w.heap.size + 1) (by omega) _ _
/-- Two points and an error. -/
def two (p q r s e : Int) : Value := .tuple #[.agg #[.int .i64 p, .int .i64 q], .agg #[.int .i64 r, .int .i64 s], .int .i64 e]
theorem div_bad (x y u v : Int) (h : (rb ⟨x, y⟩ && rb ⟨u, v⟩) = false) (w : World) : Calls Try.prog 14 #[.agg #[.int .i64 x, .int .i64 y], .agg #[.int .i64 u, .int .i64 v]] w (Gives (two 0 0 0 0 14) w) := by
  have HR := Lib.hid (both_any x y u v); rw [h] at HR; clear h
  go_enter Try.func14, Try.ntmps14
  go_wp2_with (fail)
  refine (HR.out _).mono ?_
  rintro e w1 ⟨rfl, hb⟩
  obtain ⟨h4, d2, d3, d4, d5⟩ := boxes4 23 (.int .i64 x) (.int .i64 y) (.int .i64 u) (.int .i64 v) (.int .i64 0) (.int .i64 0) (.int .i64 0) (.int .i64 0) w
  have HB := Lib.hid (Below.next h4 hb)
  have hz := (d5.next hb).lt
  obtain ⟨e0, e1, g0, g1⟩ := d4.next hb
  obtain ⟨i0, i1, j0, j1⟩ := d5.next hb
  clear hb h4 d2 d3 d4 d5
  go_wp2_with (fail)
  refine bodyPost_ret (v := two 0 0 0 0 14) (by simp [results, Try.results14, go_sem, e0, e1, i0, i1]; rfl) rfl ⟨rfl, ?_⟩
  exact below_put2 (below_put2 HB.out (c := w.heap.size + 1 + 1) (by omega) _ _) (c := w.heap.size + 1 + 1 + 1) (by omega) _ _
theorem div_zero (x y : Int) (h : rb ⟨x, y⟩ = true) (w : World) : Calls Try.prog 14 #[.agg #[.int .i64 x, .int .i64 y], .agg #[.int .i64 0, .int .i64 0]] w (Gives (two 0 0 0 0 16) w) := by
  have HR := Lib.hid (both_any x y 0 0); rw [h, show rb ⟨0, 0⟩ = true from rfl, Bool.true_and] at HR; clear h
  go_enter Try.func14, Try.ntmps14
  go_wp2_with (fail)
  refine (HR.out _).mono ?_
  rintro e w1 ⟨rfl, hb⟩
  obtain ⟨h4, d2, d3, d4, d5⟩ := boxes4 23 (.int .i64 x) (.int .i64 y) (.int .i64 0) (.int .i64 0) (.int .i64 0) (.int .i64 0) (.int .i64 0) (.int .i64 0) w
  have HB := Lib.hid (Below.next h4 hb)
  have hz := (d5.next hb).lt
  obtain ⟨k0, k1, _, _⟩ := d3.next hb
  obtain ⟨e0, e1, g0, g1⟩ := d4.next hb
  obtain ⟨i0, i1, j0, j1⟩ := d5.next hb
  clear hb h4 d2 d3 d4 d5
  go_wp2_with (fail)
  refine bodyPost_ret (v := two 0 0 0 0 16) (by simp [results, Try.results14, go_sem, e0, e1, i0, i1]; rfl) rfl ⟨rfl, ?_⟩
  exact below_put2 (below_put2 HB.out (c := w.heap.size + 1 + 1) (by omega) _ _) (c := w.heap.size + 1 + 1 + 1) (by omega) _ _
end Go.Proofs.Ytjgaaeomfilhoaa.Ga

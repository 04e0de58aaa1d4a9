/-
  'in' of layer 6's laws; what a loop of turns in them keeps.
-/
import Derived.Test.YtjgaaeomfilhoaaGaRef2
namespace Go.Proofs.Ytjgaaeomfilhoaa.Ga
open Go.ChangeShapes Go.WideShapes Go.ChangeAt Go.RowKit Go.Proofs.Ytjgaaeomfilhoaa.Ov

theorem in_false (x y : Int) (w : World) : Calls Try.prog 18 #[.agg #[.int .i64 x, .int .i64 y], .bool false] w (Gives (.tuple #[.agg #[.int .i64 0, .int .i64 0], .int .i64 14]) w) := by
  go_enter Try.func18, Try.ntmps18
  go_wp2_with (fail)
  refine bodyPost_ret (v := .tuple #[.agg #[.int .i64 0, .int .i64 0], .int .i64 14]) (by simp [results, Try.results18, go_sem]) rfl ⟨rfl, ?_⟩
  exact below2 w _ _
theorem in_true (x y : Int) (w : World) : Calls Try.prog 18 #[.agg #[.int .i64 x, .int .i64 y], .bool true] w (Gives (ans (rb ⟨x, y⟩) ⟨x, y⟩) w) := by
  have HR := Lib.hid (rright_any x y)
  cases h : rb ⟨x, y⟩
  all_goals
    rw [h] at HR
    clear h
    first | rw [ans_true] | rw [ans_false]
    go_enter Try.func18, Try.ntmps18
    go_wp2_with (fail)
    obtain ⟨kb, d0, d1⟩ := boxes2 23 (.int .i64 x) (.int .i64 y) (.int .i64 0) (.int .i64 0) w
    refine (HR.out _).mono ?_
    rintro e w1 ⟨rfl, hb⟩
    have HB := Lib.hid (Below.next kb hb)
    have hz := (d1.next hb).lt
    obtain ⟨a0, a1, _, _⟩ := d0.next hb
    obtain ⟨e0, e1, g0, g1⟩ := d1.next hb
    clear hb kb d0 d1
    go_wp2_with (fail)
    refine bodyPost_ret (v := _) (by simp [results, Try.results18, go_sem, e0, e1]) rfl ⟨rfl, ?_⟩
    exact below_put2 HB.out (c := w.heap.size + 1) (by omega) _ _
/-- What the law's loop of turns keeps: the boxes of a, b, the sum, the difference, the product, and what is turned. -/
def RelP (x y u v s1 s2 d1 d2 m1 m2 : Int) (b9 b10 b11 b12 : Nat) (w : World) (N : Nat) (I : Value) (wr : World) : Prop := ∃ (k : Nat) (p q : Int), k ≤ N ∧ I = .int .i64 (k : Int) ∧ Pt.turns k ⟨x, y⟩ = ⟨p, q⟩ ∧
  Duo wr w.heap.size (.int .i64 x) (.int .i64 y) ∧ Duo wr (w.heap.size + 1) (.int .i64 u) (.int .i64 v) ∧ Duo wr b9 (.int .i64 s1) (.int .i64 s2) ∧ Duo wr b10 (.int .i64 d1) (.int .i64 d2) ∧ Duo wr b11 (.int .i64 m1) (.int .i64 m2) ∧
  Duo wr b12 (.int .i64 p) (.int .i64 q) ∧ Below w.heap.size w wr
theorem rturn_any {x y p q : Int} {k : Nat} (h : rb ⟨x, y⟩ = true) (ht : Pt.turns k ⟨x, y⟩ = ⟨p, q⟩) (w : World) :
    Calls Try.prog 17 #[.agg #[.int .i64 p, .int .i64 q], .agg #[.int .i64 0, .int .i64 1]] w (Gives (.agg #[.int .i64 (-q), .int .i64 p]) w) := by
  have hr : rb ⟨p, q⟩ = true := by rw [← ht]; exact Pt.turns_right _ h
  have h1 := rmul_any (u := 0) (v := 1) hr (by decide) w
  rwa [show p * 0 - q * 1 = -q by omega, show p * 1 + q * 0 = p by omega] at h1
theorem mod4 (n : Int) : (n.tmod 4 + 4) % 4 = (((n % 4).toNat : Nat) : Int) ∧ (n.tmod 4 + 4).tmod 4 = (((n % 4).toNat : Nat) : Int) ∧ -4 < n.tmod 4 ∧ n.tmod 4 < 4 := by
  have l1 := Int.lt_tmod_of_pos n (show (0 : Int) < 4 by omega)
  have l2 := Int.tmod_lt_of_pos n (show (0 : Int) < 4 by omega)
  have h := Int.tmod_eq_emod (a := n) (b := 4)
  have e : (n.tmod 4 + 4) % 4 = (((n % 4).toNat : Nat) : Int) := by split at h <;> omega
  refine ⟨e, ?_, by omega, l2⟩
  rw [Int.tmod_eq_emod_of_nonneg (by omega)]; exact e
end Go.Proofs.Ytjgaaeomfilhoaa.Ga

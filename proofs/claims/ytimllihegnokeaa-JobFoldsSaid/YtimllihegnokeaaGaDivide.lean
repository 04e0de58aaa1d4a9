/-
  The quotient and the rest of right points.
-/
import Derived.Test.YtimllihegnokeaaGaMul
import Derived.Test.YtimllihegnokeaaGaNear
import Derived.Test.YtimllihegnokeaaOvDuo
namespace Go.Proofs.Ytimllihegnokeaa.Ga
open Go.ChangeShapes Go.WideShapes Go.ChangeAt Go.RowKit Go.Proofs.Ytimllihegnokeaa.Ov

theorem alloc_spot (ρ : Operand → Value) (x : World) (d : Tmp) (p : String) (e : Array Edge) : (execOp ρ { dst := some d, op := Op.alloc 23, type := 0, pos := p, after := e, guard := none }).run Try.prog x = .ok (.value (.pointer (some ⟨x.heap.size, 0, none⟩))) (x.alloc (.cells #[.int .i64 0, .int .i64 0] 23)) := by
  simp [execOp, go_sem]
set_option maxHeartbeats 2000000 in
theorem divide_core (x y u v v' z1 z2 n q1 q2 r1 r2 : Int) (fx fy fu fv fv' fp fq re im re2 im2 re3 im3 : Nat) (w : World)
    (HC1 : Hid (∀ w, Calls Try.prog 34 #[.agg #[.int .i64 x, .int .i64 y]] w (Gives (.complex .f64 fx fy) w)))
    (HM : Hid (∀ w, Calls Try.prog 35 #[.agg #[.int .i64 u, .int .i64 v]] w (Gives (.agg #[.int .i64 u, .int .i64 v']) w)))
    (HC2 : Hid (∀ w, Calls Try.prog 34 #[.agg #[.int .i64 u, .int .i64 v']] w (Gives (.complex .f64 fu fv') w)))
    (hm1 : ∀ w : World, (binOp .mul 58 (.complex .f64 fx fy) (.complex .f64 fu fv')).run Try.prog w = .ok (.complex .f64 re im) w)
    (HS1 : Hid (∀ w, Calls Try.prog 33 #[.complex .f64 re im] w (Gives (.agg #[.int .i64 z1, .int .i64 z2]) w)))
    (HN : Hid (∀ w, Calls Try.prog 36 #[.agg #[.int .i64 u, .int .i64 v]] w (Gives (.int .i64 n) w)))
    (HQ1 : Hid (∀ w, Calls Try.prog 37 #[.int .i64 z1, .int .i64 n] w (Gives (.int .i64 q1) w)))
    (HQ2 : Hid (∀ w, Calls Try.prog 37 #[.int .i64 z2, .int .i64 n] w (Gives (.int .i64 q2) w)))
    (HC3 : Hid (∀ w, Calls Try.prog 34 #[.agg #[.int .i64 q1, .int .i64 q2]] w (Gives (.complex .f64 fp fq) w)))
    (HC4 : Hid (∀ w, Calls Try.prog 34 #[.agg #[.int .i64 u, .int .i64 v]] w (Gives (.complex .f64 fu fv) w)))
    (hm2 : ∀ w : World, (binOp .mul 58 (.complex .f64 fp fq) (.complex .f64 fu fv)).run Try.prog w = .ok (.complex .f64 re2 im2) w)
    (hm3 : ∀ w : World, (binOp .sub 58 (.complex .f64 fx fy) (.complex .f64 re2 im2)).run Try.prog w = .ok (.complex .f64 re3 im3) w)
    (HS2 : Hid (∀ w, Calls Try.prog 33 #[.complex .f64 re3 im3] w (Gives (.agg #[.int .i64 r1, .int .i64 r2]) w))) :
    Calls Try.prog 28 #[.agg #[.int .i64 x, .int .i64 y], .agg #[.int .i64 u, .int .i64 v]] w (Gives (.tuple #[.agg #[.int .i64 q1, .int .i64 q2], .agg #[.int .i64 r1, .int .i64 r2]]) w) := by
  go_enter Try.func28, Try.ntmps28
  go_wp2_with (fail)
  obtain ⟨hb, d2, d3, d4, d5⟩ := boxes4 23 (.int .i64 x) (.int .i64 y) (.int .i64 u) (.int .i64 v) (.int .i64 0) (.int .i64 0) (.int .i64 0) (.int .i64 0) w
  generalize (((w.alloc (.cells #[.int .i64 x, .int .i64 y] 23)).alloc (.cells #[.int .i64 u, .int .i64 v] 23)).alloc (.cells #[.int .i64 0, .int .i64 0] 23)).alloc (.cells #[.int .i64 0, .int .i64 0] 23) = w0 at *
  have HB := Lib.hid hb; clear hb
  have D2 := Lib.hid d2; have D3 := Lib.hid d3; have D4 := Lib.hid d4; have D5 := Lib.hid d5; clear d2 d3 d4 d5
  refine wp_over_alloc (O := .cells #[.int .i64 0, .int .i64 0] 23) 9 (by kernel_rfl) (by kernel_rfl) rfl rfl rfl (fun ρ x => alloc_spot ρ x _ _ _) (by kernel_rfl) ?_
  simp only [List.take_succ_cons, List.take_zero, List.drop_succ_cons, List.drop_zero]
  apply Exists.intro
  apply And.intro
  · intro x0
    have k1 : ∀ r : Over x0.val, r.val.cell? ⟨w.heap.size, 0, none⟩ = some (.int .i64 x) := fun r => ((D2.out.over x0).over r).c0
    have k2 : ∀ r : Over x0.val, r.val.cell? ⟨w.heap.size, 1, none⟩ = some (.int .i64 y) := fun r => ((D2.out.over x0).over r).c1
    have k3 : ∀ r : Over x0.val, r.val.cell? ⟨w.heap.size + 1, 0, none⟩ = some (.int .i64 u) := fun r => ((D3.out.over x0).over r).c0
    have k4 : ∀ r : Over x0.val, r.val.cell? ⟨w.heap.size + 1, 1, none⟩ = some (.int .i64 v) := fun r => ((D3.out.over x0).over r).c1
    repeat (go_big_quiet_step (first
      | with_reducible exact over_gives _ (HC1.out _)
      | with_reducible exact over_gives _ (HM.out _)
      | with_reducible exact over_gives _ (HC2.out _)
      | with_reducible exact over_gives _ (HS1.out _)
      | with_reducible exact over_gives _ (HN.out _)))
    refine wpQuiet_nil ?_
    rfl
  · rintro b w1 HO
    have hb := HO.1
    have DN := Lib.hid (HO.duo.set (.int .i64 z1) (.int .i64 z2))
    have hlo := HO.2.1
    obtain ⟨c0, c1, f0, f1⟩ := HO.duo
    have l2 := D2.out.lt; have l3 := D3.out.lt; have l4 := D4.out.lt; have l5 := D5.out.lt
    have E2 := Lib.hid ((D2.out.next hb).put2 (c := b) (by omega) (.int .i64 z1) (.int .i64 z2))
    have E3 := Lib.hid ((D3.out.next hb).put2 (c := b) (by omega) (.int .i64 z1) (.int .i64 z2))
    have E4 := Lib.hid ((D4.out.next hb).put2 (c := b) (by omega) (.int .i64 z1) (.int .i64 z2))
    have E5 := Lib.hid ((D5.out.next hb).put2 (c := b) (by omega) (.int .i64 z1) (.int .i64 z2))
    have HB2 := Lib.hid (below_put2 (Below.next HB.out hb) (c := b) (by omega) (.int .i64 z1) (.int .i64 z2))
    have hbl : b < w1.heap.size := block_lt_of_cell c0
    have HN4 : Hid (w.heap.size + 1 + 1 < b) := Lib.hid (by omega)
    have HN5 : Hid (w.heap.size + 1 + 1 + 1 < b) := Lib.hid (by omega)
    clear hb HO D2 D3 D4 D5 HB
    simp only [Act.put, List.setIfInBounds_toArray, List.set_cons_zero, List.set_cons_succ]
    go_wp2_with (fail)
    generalize ((w1.setCell ⟨b, 0, none⟩ (.int .i64 z1)).setCell ⟨b, 1, none⟩ (.int .i64 z2)) = w2 at *
    clear c0 c1 f0 f1 hbl hlo l2 l3 l4 l5
    have n2 : b ≠ w.heap.size + 1 + 1 := Nat.ne_of_gt HN4.out
    have n3 : b ≠ w.heap.size + 1 + 1 + 1 := Nat.ne_of_gt HN5.out
    refine wp_over_alloc (O := .cells #[.int .i64 0, .int .i64 0] 23) 9 (by kernel_rfl) (by kernel_rfl) rfl rfl rfl (fun ρ x => alloc_spot ρ x _ _ _) (by kernel_rfl) ?_
    simp only [List.take_succ_cons, List.take_zero, List.drop_succ_cons, List.drop_zero]
    apply Exists.intro
    apply And.intro
    · intro x0
      have k1 : ∀ r : Over x0.val, r.val.cell? ⟨b, 0, none⟩ = some (.int .i64 z1) := fun r => ((DN.out.over x0).over r).c0
      have k2 : ∀ r : Over x0.val, r.val.cell? ⟨b, 1, none⟩ = some (.int .i64 z2) := fun r => ((DN.out.over x0).over r).c1
      repeat (go_big_quiet_step (first
        | with_reducible exact over_gives _ (HQ1.out _)
        | with_reducible exact over_gives _ (HQ2.out _)))
      refine wpQuiet_nil ?_
      rfl
    · rintro c w3 HO
      have hb := HO.1
      have hlo := HO.2.1
      have l2 := E2.out.lt; have l3 := E3.out.lt; have l4 := E4.out.lt; have l5 := E5.out.lt
      have DC := Lib.hid (HO.duo.set (.int .i64 q1) (.int .i64 q2))
      have F2 := Lib.hid ((E2.out.next hb).put2 (c := c) (by omega) (.int .i64 q1) (.int .i64 q2))
      have F3 := Lib.hid ((E3.out.next hb).put2 (c := c) (by omega) (.int .i64 q1) (.int .i64 q2))
      have F4 := Lib.hid ((E4.out.next hb).put2 (c := c) (by omega) (.int .i64 q1) (.int .i64 q2))
      have F5 := Lib.hid ((E5.out.next hb).put2 (c := c) (by omega) (.int .i64 q1) (.int .i64 q2))
      have HB3 := Lib.hid (below_put2 (Below.next HB2.out hb) (c := c) (by have := HB2.out.size; omega) (.int .i64 q1) (.int .i64 q2))
      obtain ⟨c0, c1, f0, f1⟩ := HO.duo
      have hbl : c < w3.heap.size := block_lt_of_cell c0
      clear hb HO E2 E3 E4 E5 HB2 DN
      simp only [Act.put, List.setIfInBounds_toArray, List.set_cons_zero, List.set_cons_succ]
      go_wp2_with (fail)
      generalize ((w3.setCell ⟨c, 0, none⟩ (.int .i64 q1)).setCell ⟨c, 1, none⟩ (.int .i64 q2)) = w4 at *
      clear c0 c1 f0 f1 hbl hlo l2 l3 l4 l5
      have k1 : ∀ r : Over w4, r.val.cell? ⟨w.heap.size, 0, none⟩ = some (.int .i64 x) := fun r => (F2.out.over r).c0
      have k2 : ∀ r : Over w4, r.val.cell? ⟨w.heap.size, 1, none⟩ = some (.int .i64 y) := fun r => (F2.out.over r).c1
      have k3 : ∀ r : Over w4, r.val.cell? ⟨w.heap.size + 1, 0, none⟩ = some (.int .i64 u) := fun r => (F3.out.over r).c0
      have k4 : ∀ r : Over w4, r.val.cell? ⟨w.heap.size + 1, 1, none⟩ = some (.int .i64 v) := fun r => (F3.out.over r).c1
      have k5 : ∀ r : Over w4, r.val.cell? ⟨c, 0, none⟩ = some (.int .i64 q1) := fun r => (DC.out.over r).c0
      have k6 : ∀ r : Over w4, r.val.cell? ⟨c, 1, none⟩ = some (.int .i64 q2) := fun r => (DC.out.over r).c1
      refine wp_over_tail 10 (by kernel_rfl) (by kernel_rfl) ?_
      simp only [List.take_succ_cons, List.take_zero, List.drop_succ_cons, List.drop_zero]
      repeat (go_big_quiet_step (first
        | with_reducible exact over_gives _ (HC1.out _)
        | with_reducible exact over_gives _ (HC3.out _)
        | with_reducible exact over_gives _ (HC4.out _)
        | with_reducible exact over_gives _ (HS2.out _)))
      refine wpQuiet_nil ?_
      rintro w5 ⟨⟨w5, hb⟩, rfl⟩
      have HB4 := Lib.hid (Below.next HB3.out hb)
      obtain ⟨c0, c1, f0, f1⟩ := F4.out.next hb
      obtain ⟨e0, e1, g0, g1⟩ := F5.out.next hb
      have hz := (F5.out.next hb).lt
      have hz4 := (F4.out.next hb).lt
      clear hb k1 k2 k3 k4 k5 k6 n2 n3
      go_wp2_with (fail)
      refine bodyPost_ret (v := .tuple #[.agg #[.int .i64 q1, .int .i64 q2], .agg #[.int .i64 r1, .int .i64 r2]]) (by simp [results, Try.results28, go_sem, c0, c1, e0, e1]) rfl ⟨rfl, ?_⟩
      exact below_put2 (below_put2 HB4.out (c := w.heap.size + 1 + 1) (by omega) _ _) (c := w.heap.size + 1 + 1 + 1) (by omega) _ _
theorem sum_le {a b : Int} (h1 : -281474976710656 ≤ a ∧ a ≤ 281474976710656) (h2 : -281474976710656 ≤ b ∧ b ≤ 281474976710656) :
    (-562949953421312 ≤ a + b ∧ a + b ≤ 562949953421312) ∧ (-562949953421312 ≤ a - b ∧ a - b ≤ 562949953421312) := by omega
theorem run_csub {x y p q : Int} {re im : Nat} (hx : -16777216 ≤ x ∧ x ≤ 16777216) (hy : -16777216 ≤ y ∧ y ≤ 16777216) (hr : Is re p) (hi : Is im q) (hp : -562949953421312 ≤ p ∧ p ≤ 562949953421312) (hq : -562949953421312 ≤ q ∧ q ≤ 562949953421312) :
    ∃ a b, (∀ w : World, (binOp .sub 58 (.complex .f64 (floatOfInt .f64 x) (floatOfInt .f64 y)) (.complex .f64 re im)).run Try.prog w = .ok (.complex .f64 a b) w) ∧ Is a (x - p) ∧ Is b (y - q) := by
  obtain ⟨a, b, h, h1, h2⟩ := csub (Is.ofInt (n := x) (by omega)) (Is.ofInt (n := y) (by omega)) hr hi (by omega) (by omega)
  exact ⟨a, b, fun w => run_complex_sum w .sub (.inr rfl) _ _ _ _ _ _ _ _ h, h1, h2⟩
/-- The quotient and the rest, of right points, the second not 0. -/
theorem divide_any {x y u v : Int} (ha : rb ⟨x, y⟩ = true) (hb : rb ⟨u, v⟩ = true) (h0 : (⟨u, v⟩ : Pt) ≠ Pt.zero) (w : World) :
    Calls Try.prog 28 #[.agg #[.int .i64 x, .int .i64 y], .agg #[.int .i64 u, .int .i64 v]] w
      (Gives (.tuple #[.agg #[.int .i64 (Pt.quo ⟨x, y⟩ ⟨u, v⟩).x, .int .i64 (Pt.quo ⟨x, y⟩ ⟨u, v⟩).y], .agg #[.int .i64 (Pt.rest ⟨x, y⟩ ⟨u, v⟩).x, .int .i64 (Pt.rest ⟨x, y⟩ ⟨u, v⟩).y]]) w) := by
  obtain ⟨hx, hy⟩ := rb_xy ha
  obtain ⟨hu, hv⟩ := rb_xy hb
  have hv' : -16777216 ≤ -v ∧ -v ≤ 16777216 := by omega
  obtain ⟨hp, hq⟩ := rb_yes (Pt.quo_right ha h0)
  obtain ⟨hr1, hr2⟩ := rb_yes (Pt.rest_right (a := ⟨x, y⟩) hb h0)
  obtain ⟨re, im, hm1, i1, i2⟩ := run_cmul hx hy hu hv'
  obtain ⟨re2, im2, hm2, j1, j2⟩ := run_cmul hp hq hu hv
  obtain ⟨s1, s1'⟩ := sum_le (mul_big hx hu) (mul_big hy hv')
  obtain ⟨s2, s2'⟩ := sum_le (mul_big hx hv') (mul_big hy hu)
  obtain ⟨s3, s3'⟩ := sum_le (mul_big hp hu) (mul_big hq hv)
  obtain ⟨s4, s4'⟩ := sum_le (mul_big hp hv) (mul_big hq hu)
  obtain ⟨re3, im3, hm3, k1, k2⟩ := run_csub hx hy j1 j2 s3' s4
  obtain ⟨s5, s5'⟩ := sum_le (mul_big hu hu) (mul_big hv hv)
  have hn : 0 < Pt.norm ⟨u, v⟩ := Pt.norm_pos h0
  refine divide_core x y u v (-v) (x * u - y * -v) (x * -v + y * u) (u * u + v * v) _ _ _ _ _ _ _ _ _ _ _ re im re2 im2 re3 im3 w (Lib.hid (complex_any x y)) (Lib.hid (mirror_any hv)) (Lib.hid (complex_any u (-v))) hm1
    (Lib.hid (spot_any i1 i2 (by omega) (by omega))) (Lib.hid (norm_any hu hv)) (Lib.hid fun w => ?_) (Lib.hid fun w => ?_) (Lib.hid (complex_any _ _)) (Lib.hid (complex_any u v)) hm2 hm3
    (Lib.hid (spot_any k1 k2 ?_ ?_))
  · exact (nearest_any (n := x * u - y * -v) (d := u * u + v * v) (by omega) (by omega) hn (by omega) w).mono fun e w' h => ⟨h.1, by rw [← h.2]; exact Below.refl _ _⟩
  · exact (nearest_any (n := x * -v + y * u) (d := u * u + v * v) (by omega) (by omega) hn (by omega) w).mono fun e w' h => ⟨h.1, by rw [← h.2]; exact Below.refl _ _⟩
  · omega
  · omega
end Go.Proofs.Ytimllihegnokeaa.Ga

/-
  The document's quotients, the first of four, common divisors.
-/
import Derived.Test.YtjgaaeomfilhoaaGaRef
namespace Go.Proofs.Ytjgaaeomfilhoaa.Ga
open Go.ChangeShapes Go.WideShapes Go.ChangeAt Go.RowKit Go.Proofs.Ytjgaaeomfilhoaa.Ov

set_option maxHeartbeats 2000000 in
theorem rdiv_core (x y u v v' z1 z2 n q1 q2 p1 p2 r1 r2 : Int) (w : World) (hx : -16777216 ≤ x) (hx' : x ≤ 16777216) (hy : -16777216 ≤ y) (hy' : y ≤ 16777216) (hv : -16777216 ≤ v) (hv' : v ≤ 16777216) (hnv : -v = v')
    (hp1 : -562949953421312 ≤ p1) (hp1' : p1 ≤ 562949953421312) (hp2 : -562949953421312 ≤ p2) (hp2' : p2 ≤ 562949953421312) (hr1 : x - p1 = r1) (hr2 : y - p2 = r2)
    (HM1 : Hid (∀ w, Calls Try.prog 17 #[.agg #[.int .i64 x, .int .i64 y], .agg #[.int .i64 u, .int .i64 v']] w (Gives (.agg #[.int .i64 z1, .int .i64 z2]) w)))
    (HN : Hid (∀ w, Calls Try.prog 21 #[.agg #[.int .i64 u, .int .i64 v]] w (Gives (.int .i64 n) w)))
    (HQ1 : Hid (∀ w, Calls Try.prog 37 #[.int .i64 z1, .int .i64 n] w (Gives (.int .i64 q1) w)))
    (HQ2 : Hid (∀ w, Calls Try.prog 37 #[.int .i64 z2, .int .i64 n] w (Gives (.int .i64 q2) w)))
    (HM2 : Hid (∀ w, Calls Try.prog 17 #[.agg #[.int .i64 q1, .int .i64 q2], .agg #[.int .i64 u, .int .i64 v]] w (Gives (.agg #[.int .i64 p1, .int .i64 p2]) w))) :
    Calls Try.prog 25 #[.agg #[.int .i64 x, .int .i64 y], .agg #[.int .i64 u, .int .i64 v]] w (Gives (.tuple #[.agg #[.int .i64 q1, .int .i64 q2], .agg #[.int .i64 r1, .int .i64 r2]]) w) := by
  go_enter Try.func25, Try.ntmps25
  go_wp2_with (fail)
  obtain ⟨hb, d2, d3, d4, d5⟩ := boxes4 23 (.int .i64 x) (.int .i64 y) (.int .i64 u) (.int .i64 v) (.int .i64 0) (.int .i64 0) (.int .i64 0) (.int .i64 0) w
  generalize (((w.alloc (.cells #[.int .i64 x, .int .i64 y] 23)).alloc (.cells #[.int .i64 u, .int .i64 v] 23)).alloc (.cells #[.int .i64 0, .int .i64 0] 23)).alloc (.cells #[.int .i64 0, .int .i64 0] 23) = w0 at *
  have HB := Lib.hid hb; clear hb
  have D2 := Lib.hid d2; have D3 := Lib.hid d3; have D4 := Lib.hid d4; have D5 := Lib.hid d5; clear d2 d3 d4 d5
  refine (HM1.out _).mono ?_
  rintro e w1 ⟨rfl, hb⟩
  obtain ⟨kb, o6⟩ := boxes1 23 (.int .i64 z1) (.int .i64 z2) w1
  have hg : w.heap.size + 1 + 1 + 1 < w1.heap.size := (D5.out.next hb).lt
  have HB1 := Lib.hid (Below.next (Below.next HB.out hb) kb)
  have E2 := Lib.hid ((D2.out.next hb).next kb); have E3 := Lib.hid ((D3.out.next hb).next kb); have E4 := Lib.hid ((D4.out.next hb).next kb); have E5 := Lib.hid ((D5.out.next hb).next kb)
  have E6 := Lib.hid o6
  clear hb kb o6 HB D2 D3 D4 D5
  obtain ⟨a0, a1, _, _⟩ := E3.out
  go_wp2_with (fail)
  generalize w1.alloc (.cells #[.int .i64 z1, .int .i64 z2] 23) = w2 at *
  generalize w1.heap.size = g at *
  clear a0 a1
  refine (HN.out _).mono ?_
  rintro e w3 ⟨rfl, hb⟩
  have HB2 := Lib.hid (Below.next HB1.out hb)
  have F2 := Lib.hid (E2.out.next hb); have F3 := Lib.hid (E3.out.next hb); have F4 := Lib.hid (E4.out.next hb); have F5 := Lib.hid (E5.out.next hb); have F6 := Lib.hid (E6.out.next hb)
  clear hb HB1 E2 E3 E4 E5 E6
  go_wp2_with (fail)
  refine wp_over_alloc (O := .cells #[.int .i64 0, .int .i64 0] 23) 9 (by kernel_rfl) (by kernel_rfl) rfl rfl rfl (fun ρ x => alloc_spot ρ x _ _ _) (by kernel_rfl) ?_
  simp only [List.take_succ_cons, List.take_zero, List.drop_succ_cons, List.drop_zero]
  apply Exists.intro
  apply And.intro
  · intro x0
    have k1 : ∀ r : Over x0.val, r.val.cell? ⟨g, 0, none⟩ = some (.int .i64 z1) := fun r => ((F6.out.over x0).over r).c0
    have k2 : ∀ r : Over x0.val, r.val.cell? ⟨g, 1, none⟩ = some (.int .i64 z2) := fun r => ((F6.out.over x0).over r).c1
    repeat (go_big_quiet_step (first
      | with_reducible exact over_gives _ (HQ1.out _)
      | with_reducible exact over_gives _ (HQ2.out _)))
    refine wpQuiet_nil ?_
    rfl
  · rintro b w4 HO
    have hb := HO.1
    have hlo := HO.2.1
    have l6 := F6.out.lt
    have G8 := Lib.hid (HO.duo.set (.int .i64 q1) (.int .i64 q2))
    have l2 := F2.out.lt; have l3 := F3.out.lt; have l4 := F4.out.lt; have l5 := F5.out.lt
    have G2 := Lib.hid ((F2.out.next hb).put2 (c := b) (by omega) (.int .i64 q1) (.int .i64 q2))
    have G3 := Lib.hid ((F3.out.next hb).put2 (c := b) (by omega) (.int .i64 q1) (.int .i64 q2))
    have G4 := Lib.hid ((F4.out.next hb).put2 (c := b) (by omega) (.int .i64 q1) (.int .i64 q2))
    have G5 := Lib.hid ((F5.out.next hb).put2 (c := b) (by omega) (.int .i64 q1) (.int .i64 q2))
    have HB3 := Lib.hid (below_put2 (Below.next HB2.out hb) (c := b) (by have := HB2.out.size; omega) (.int .i64 q1) (.int .i64 q2))
    obtain ⟨c0, c1, f0, f1⟩ := HO.duo
    have hbl : b < w4.heap.size := block_lt_of_cell c0
    have ng : Hid (w.heap.size + 1 + 1 + 1 < b) := Lib.hid (by omega)
    clear hb HO F2 F3 F4 F5 F6 HB2 hlo l2 l3 l4 l5 l6
    simp only [Act.put, List.setIfInBounds_toArray, List.set_cons_zero, List.set_cons_succ]
    obtain ⟨b0, b1, _, _⟩ := G8.out
    obtain ⟨e0, e1, _, _⟩ := G3.out
    go_wp2_with (fail)
    generalize ((w4.setCell ⟨b, 0, none⟩ (.int .i64 q1)).setCell ⟨b, 1, none⟩ (.int .i64 q2)) = w5 at *
    clear c0 c1 f0 f1 hbl b0 b1 e0 e1
    refine (HM2.out _).mono ?_
    rintro e w6 ⟨rfl, hb⟩
    obtain ⟨kb, o9⟩ := boxes1 23 (.int .i64 p1) (.int .i64 p2) w6
    have hg9 : b < w6.heap.size := (G8.out.next hb).lt
    have HB4 := Lib.hid (Below.next (Below.next HB3.out hb) kb)
    have I2 := Lib.hid ((G2.out.next hb).next kb); have I4 := Lib.hid ((G4.out.next hb).next kb); have I5 := Lib.hid ((G5.out.next hb).next kb); have I8 := Lib.hid ((G8.out.next hb).next kb)
    have I9 := Lib.hid o9
    clear hb kb o9 HB3 G2 G3 G4 G5 G8
    go_wp2_with (fail)
    generalize w6.alloc (.cells #[.int .i64 p1, .int .i64 p2] 23) = w7 at *
    have n1 := ng.out
    have n8 : ¬ w.heap.size + 1 + 1 = b := by omega
    have n8' : ¬ b = w.heap.size + 1 + 1 := by omega
    have n9 : ¬ w.heap.size + 1 + 1 = w6.heap.size := by omega
    have n9' : ¬ w6.heap.size = w.heap.size + 1 + 1 := by omega
    generalize w6.heap.size = g9 at *
    have hz := I5.out.lt
    clear n1 hg9 hg
    obtain ⟨a0, a1, _, _⟩ := I2.out
    obtain ⟨b0, b1, _, _⟩ := I8.out
    obtain ⟨c0, c1, _, _⟩ := I9.out
    obtain ⟨e0, e1, g0, g1⟩ := I4.out
    obtain ⟨i0, i1, j0, j1⟩ := I5.out
    go_region
    go_wp2_with (fail)
    refine bodyPost_ret (v := .tuple #[.agg #[.int .i64 q1, .int .i64 q2], .agg #[.int .i64 r1, .int .i64 r2]]) (by simp [results, Try.results25, go_sem, e0, e1, i0, i1]) rfl ⟨rfl, ?_⟩
    exact (below_put2 (below_put2 HB4.out (c := w.heap.size + 1 + 1) (by omega) _ _) (c := w.heap.size + 1 + 1 + 1) (by omega) _ _).drew
theorem rdiv_any {x y u v : Int} (ha : rb ⟨x, y⟩ = true) (hb : rb ⟨u, v⟩ = true) (h0 : (⟨u, v⟩ : Pt) ≠ Pt.zero) (w : World) :
    Calls Try.prog 25 #[.agg #[.int .i64 x, .int .i64 y], .agg #[.int .i64 u, .int .i64 v]] w
      (Gives (.tuple #[.agg #[.int .i64 (Pt.quo ⟨x, y⟩ ⟨u, v⟩).x, .int .i64 (Pt.quo ⟨x, y⟩ ⟨u, v⟩).y], .agg #[.int .i64 (Pt.rest ⟨x, y⟩ ⟨u, v⟩).x, .int .i64 (Pt.rest ⟨x, y⟩ ⟨u, v⟩).y]]) w) := by
  obtain ⟨hx, hy⟩ := rb_xy ha
  obtain ⟨hu, hv⟩ := rb_xy hb
  have hq := Pt.quo_right ha h0
  obtain ⟨hp1, hp2⟩ := rb_yes hq
  have hb' : rb ⟨u, -v⟩ = true := by unfold rb at *; rw [fb_neg]; exact hb
  have hv' := (rb_xy hb').2
  obtain ⟨s1, s1'⟩ := sum_le (mul_big hx hu) (mul_big hy hv')
  obtain ⟨s2, s2'⟩ := sum_le (mul_big hx hv') (mul_big hy hu)
  obtain ⟨s3, s3'⟩ := sum_le (mul_big hp1 hu) (mul_big hp2 hv)
  obtain ⟨s4, s4'⟩ := sum_le (mul_big hp1 hv) (mul_big hp2 hu)
  obtain ⟨s5, s5'⟩ := sum_le (mul_big hu hu) (mul_big hv hv)
  have hn : 0 < Pt.norm ⟨u, v⟩ := Pt.norm_pos h0
  exact rdiv_core x y u v (-v) (x * u - y * -v) (x * -v + y * u) (u * u + v * v) _ _ _ _ _ _ w hx.1 hx.2 hy.1 hy.2 hv.1 hv.2 rfl s3'.1 s3'.2 s4.1 s4.2 rfl rfl (Lib.hid (rmul_any ha hb')) (Lib.hid (rnorm_any hb))
    (Lib.hid (rnearest_any (n := x * u - y * -v) (d := u * u + v * v) (by omega) (by omega) hn (by omega))) (Lib.hid (rnearest_any (n := x * -v + y * u) (d := u * u + v * v) (by omega) (by omega) hn (by omega))) (Lib.hid (rmul_any hq hb))
/-! ### The first of four -/
theorem fs_turn' {a : Pt} (h : ¬ (0 < a.x ∧ 0 ≤ a.y)) : Pt.fs a.turn = Pt.fs a := by
  by_cases h0 : a = Pt.zero
  · subst h0; rfl
  · exact Pt.fs_turn h h0
theorem turns_none {a : Pt} (h : ∀ j, j < 4 → ¬ (0 < (Pt.turns j a).x ∧ 0 ≤ (Pt.turns j a).y)) : a = Pt.zero := by
  have h0 : ¬ (0 < a.x ∧ 0 ≤ a.y) := h 0 (by omega)
  have h1 : ¬ (0 < -a.y ∧ 0 ≤ a.x) := h 1 (by omega)
  have h2 : ¬ (0 < -a.x ∧ 0 ≤ -a.y) := h 2 (by omega)
  have h3 : ¬ (0 < - -a.y ∧ 0 ≤ -a.x) := h 3 (by omega)
  exact Pt.ext (by show a.x = 0; omega) (by show a.y = 0; omega)
/-- What the loop keeps. -/
def RelR (x y : Int) (w : World) (I : Value) (wr : World) : Prop := ∃ (k : Nat) (p q : Int), k ≤ 4 ∧ I = .int .i64 (k : Int) ∧ Pt.turns k ⟨x, y⟩ = ⟨p, q⟩ ∧ Pt.fs ⟨p, q⟩ = Pt.fs ⟨x, y⟩ ∧
  (∀ j, j < k → ¬ (0 < (Pt.turns j ⟨x, y⟩).x ∧ 0 ≤ (Pt.turns j ⟨x, y⟩).y)) ∧ Duo wr w.heap.size (.int .i64 p) (.int .i64 q) ∧ Duo wr (w.heap.size + 1) (.int .i64 0) (.int .i64 0) ∧ Below w.heap.size w wr
set_option maxHeartbeats 1000000 in
theorem rfirst_any {x y : Int} (h : rb ⟨x, y⟩ = true) (w : World) :
    Calls Try.prog 36 #[.agg #[.int .i64 x, .int .i64 y]] w (Gives (.agg #[.int .i64 (Pt.fs ⟨x, y⟩).x, .int .i64 (Pt.fs ⟨x, y⟩).y]) w) := by
  have H := Lib.hid h; clear h
  go_enter Try.func36, Try.ntmps36
  go_wp2_with (fail)
  obtain ⟨h2, d0, d1⟩ := boxes2 23 (.int .i64 x) (.int .i64 y) (.int .i64 0) (.int .i64 0) w
  have HW : Hid (RelR x y w (.int .i64 0) ((w.alloc (.cells #[.int .i64 x, .int .i64 y] 23)).alloc (.cells #[.int .i64 0, .int .i64 0] 23))) := Lib.hid ⟨0, x, y, by omega, rfl, rfl, rfl, fun j hj => by omega, d0, d1, h2⟩
  clear h2 d0 d1
  go_loopw [3] (fun I wr => RelR x y w I wr) (fun I _ => 4 - (intOf I).toNat)
  case atStart => exact HW.out
  case round =>
    obtain ⟨k, p, q, hk, rfl, ht, hf, hj, d0, d1, hb⟩ := hrel
    have HT := Lib.hid ht; have HF := Lib.hid hf; have HJ := Lib.hid hj; have D0 := Lib.hid d0; have D1 := Lib.hid d1; have HB := Lib.hid hb
    clear ht hf hj d0 d1 hb
    obtain ⟨c0, c1, f0, f1⟩ := D0.out
    obtain ⟨e0, e1, g0, g1⟩ := D1.out
    have hz := D1.out.lt
    by_cases hlt : k < 4
    · by_cases hq : 0 < p ∧ 0 ≤ q
      · have HE : Hid (Pt.fs ⟨x, y⟩ = ⟨p, q⟩) := by
          show _ = _
          rw [← HF.out]; exact Pt.fs_done (.inl hq)
        obtain ⟨q1, q2⟩ := hq
        go_wp2_with (fail)
        refine bodyPost_ret (v := .agg #[.int .i64 p, .int .i64 q]) (by simp [results, Try.results36, go_sem, e0, e1]) rfl ⟨by rw [HE.out], ?_⟩
        exact below_put2 HB.out (c := w.heap.size + 1) (by omega) _ _
      · have HM : Hid (∀ w, Calls Try.prog 17 #[.agg #[.int .i64 p, .int .i64 q], .agg #[.int .i64 0, .int .i64 1]] w (Gives (.agg #[.int .i64 (-q), .int .i64 p]) w)) := Lib.hid fun w => by
          have hr : rb ⟨p, q⟩ = true := by rw [← HT.out]; exact Pt.turns_right _ H.out
          have h1 := rmul_any (u := 0) (v := 1) hr (by decide) w
          rwa [show p * 0 - q * 1 = -q by omega, show p * 1 + q * 0 = p by omega] at h1
        have HT' : Hid (Pt.turns (k + 1) ⟨x, y⟩ = ⟨-q, p⟩) := by
          show (Pt.turns k ⟨x, y⟩).turn = _
          rw [HT.out]; rfl
        have HF' : Hid (Pt.fs ⟨-q, p⟩ = Pt.fs ⟨x, y⟩) := by
          show _ = _
          rw [← HF.out]; exact fs_turn' (a := ⟨p, q⟩) hq
        have HJ' : Hid (∀ j, j < k + 1 → ¬ (0 < (Pt.turns j ⟨x, y⟩).x ∧ 0 ≤ (Pt.turns j ⟨x, y⟩).y)) := Lib.hid fun j hj => by
          by_cases e : j = k
          · subst e; rw [HT.out]; exact hq
          · exact HJ.out j (by omega)
        have hcase : ¬ 0 < p ∨ (0 < p ∧ ¬ 0 ≤ q) := by omega
        clear hq
        generalize -q = q' at *
        rcases hcase with h1 | ⟨h1, h2⟩
        all_goals
          go_wp2_with (fail)
          refine (HM.out _).mono ?_
          rintro e w2 ⟨rfl, hb⟩
          have HO := Lib.hid ((D0.out.next hb).set (.int .i64 q') (.int .i64 p))
          have HP := Lib.hid ((D1.out.next hb).put2 (c := w.heap.size) (by omega) (.int .i64 q') (.int .i64 p))
          have HB2 := Lib.hid (below_put2 (HB.out.trans (hb.mono HB.out.size)) (c := w.heap.size) (Nat.le_refl _) (.int .i64 q') (.int .i64 p))
          obtain ⟨d0, d1, h0, h1⟩ := D0.out.next hb
          have hz := (D0.out.next hb).lt
          clear hb c0 c1 f0 f1 e0 e1 g0 g1
          go_wp2_with (fail)
          go_roundw
          case rel => exact ⟨k + 1, q', p, by omega, by go_num, HT'.out, HF'.out, HJ'.out, HO.out, HP.out, HB2.out⟩
          case measure => simp [intOf]; omega
    · have HE : Hid (Pt.fs ⟨x, y⟩ = ⟨p, q⟩) := by
        obtain rfl : k = 4 := by omega
        have h0 := turns_none HJ.out
        have ht := HT.out
        rw [h0] at ht ⊢
        show Pt.zero = _
        rw [← ht]; rfl
      go_wp2_with (fail)
      refine bodyPost_ret (v := .agg #[.int .i64 p, .int .i64 q]) (by simp [results, Try.results36, go_sem, e0, e1]) rfl ⟨by rw [HE.out], ?_⟩
      exact below_put2 HB.out (c := w.heap.size + 1) (by omega) _ _
end Go.Proofs.Ytjgaaeomfilhoaa.Ga

/-
  A code is made: New.
-/
import Derived.Test.YtkgfkchdbbeljaaCdSmall
namespace Go.Proofs.Ytkgfkchdbbeljaa.Cd
open Go.ChangeShapes Go.WideShapes Go.ChangeAt Go.RowKit Go.Proofs.Ytkgfkchdbbeljaa.Gf Go.Proofs.Ytkgfkchdbbeljaa.Mx

set_option maxHeartbeats 400000 in
theorem new_no (k n : Int) (h : k < 1 ∨ n < k ∨ 16 < n) (w : World) :
    Calls Try.prog 9 #[.int .i64 k, .int .i64 n] w fun e w' => e = .returned (.tuple #[.pointer none, .int .i64 1]) ∧ w' = w := by
  have hc : (decide (k < 1) = true) ∨ (decide (k < 1) = false ∧ decide (n < k) = true) ∨ (decide (k < 1) = false ∧ decide (n < k) = false ∧ decide (16 < n) = true) := by
    simp only [decide_eq_true_eq, decide_eq_false_iff_not]; omega
  clear h
  rcases hc with t1 | ⟨t1, t2⟩ | ⟨t1, t2, t3⟩
  all_goals
    go_enter Try.func9, Try.ntmps9
    go_wp2_with fail
    go_ret2
    exact ⟨rfl, rfl⟩
/-- What New answers of k and n that may be. -/
def NewC (k n : Nat) (w : World) (e : Ending) (w' : World) : Prop :=
  ∃ (c fb TB : Nat) (r : Nat → Nat) (x : Nat → Nat → K), e = .returned (.tuple #[.pointer (some ⟨c, 0, none⟩), .int .i64 0]) ∧ IsC w' c k n fb TB r x ∧ Below w.heap.size w w'
theorem pows_not (k : Nat) (hk : k ≤ 256) : ¬ Sing k (fun i j => pows ((i : Int)).toNat j) := powers_not_sing k (fun i => kb ((i : Int)).toNat) fun a ha b hb e => by
  have e1 : ((a : Int)).toNat % 256 = ((b : Int)).toNat % 256 := congrArg K.n e
  omega
theorem cod_of {k n : Nat} {y : Nat → Nat → K} (h : Inv k (fun i j => pows ((i : Int)).toNat j) y) : Cod k n (mm k (fun i j => kp (kb i) j) y) := ⟨y, h.congr (fun i _ j _ => by rw [Int.toNat_natCast]) (fun _ _ _ _ => rfl), fun _ _ _ _ => rfl⟩
theorem newc_of {w w6 : World} {k n TB : Nat} {r : Nat → Nat} {x : Nat → Nat → K} (hM : Mat w6 TB 0 n k r (fun _ => 0) (fun _ => k) x) (hb : Below w.heap.size w w6) (hx : Cod k n x) (h1 : 1 ≤ k) (h2 : k ≤ n) (h3 : n ≤ 16) :
    NewC k n w (.returned (.tuple #[.pointer (some ⟨(fresh w6).heap.size, 0, none⟩), .int .i64 0])) ((fresh w6).alloc (.cells #[.int .i64 (k : Int), .int .i64 (n : Int), .pointer (some ⟨w6.heap.size, 0, none⟩), .slice (some ⟨TB, 0, none⟩) n n] 58)) := by
  have hb7 := fresh_below w6
  have hb8 : Below (fresh w6).heap.size (fresh w6) ((fresh w6).alloc (.cells #[.int .i64 (k : Int), .int .i64 (n : Int), .pointer (some ⟨w6.heap.size, 0, none⟩), .slice (some ⟨TB, 0, none⟩) n n] 58)) := (Below.refl _ _).alloc (Nat.le_refl _) _
  refine ⟨_, w6.heap.size, TB, r, x, rfl, ⟨?_, ?_, ?_, ?_, IsF.old (fresh_F w6) hb8, (hM.below hb7).below hb8, hx, h1, h2, h3⟩, Below.next (Below.next hb hb7) hb8⟩
  all_goals rw [World.cell?_alloc_at _ _ _ _ rfl]; rfl
set_option maxRecDepth 100000 in
set_option maxHeartbeats 1000000 in
theorem new_yes (k n : Nat) (h1 : 1 ≤ k) (h2 : k ≤ n) (h3 : n ≤ 16) (w : World) :
    Calls Try.prog 9 #[.int .i64 (k : Int), .int .i64 (n : Int)] w (NewC k n w) := by
  have t1 : decide ((k : Int) < 1) = false := by simp; omega
  have t2 : decide ((n : Int) < (k : Int)) = false := by simp; omega
  have t2' : decide (n < k) = false := by simp; omega
  have t3 : decide ((16 : Int) < (n : Int)) = false := by simp; omega
  go_enter Try.func9, Try.ntmps9
  go_wp2_with fail
  refine (powers_yes n k (by omega) (by omega) (by omega) (by omega) _).mono ?_
  rintro e w1 ⟨B1, r1, rfl, ho1, hb1⟩
  have HM1 := Lib.hid ho1.mat; have HB1 := Lib.hid hb1; clear ho1 hb1
  go_wp2_with fail
  refine (data_any k (by omega) _).mono ?_
  rintro e w2 ⟨p, rfl, hI, hb2⟩
  have HI := Lib.hid hI; have HM2 := Lib.hid (HM1.out.below hb2); have HB2 := Lib.hid (Below.next HB1.out hb2); clear hI hb2 HM1 HB1
  go_wp2_with fail
  refine (pick_any B1 0 n k _ _ _ _ _ p k _ (fun i => (i : Int)) _ (by omega) (by omega) (by omega) (by omega) (by omega) (by omega) HM2.out HI.out).mono ?_
  rintro e w3 ⟨hy, _⟩
  obtain ⟨B3, r3, rfl, ho3, hb3⟩ := hy (fun i hi => by show 0 ≤ (i : Int) ∧ (i : Int) < (n : Int); omega)
  have HM3 := Lib.hid ho3.mat; have HM4 := Lib.hid (HM2.out.below hb3); have HB3 := Lib.hid (Below.next HB2.out hb3); clear ho3 hb3 hy HM2 HB2 HI
  go_wp2_with fail
  refine (undo_any B3 0 k _ _ _ _ _ _ (by omega) (by omega) HM3.out).mono ?_
  rintro e w4 (⟨y, hy, B4, r4, rfl, ho4, hb4⟩ | ⟨hs, _⟩)
  · have HY := Lib.hid hy; have HM5 := Lib.hid ho4.mat; have HM6 := Lib.hid (HM4.out.below hb4); have HB4 := Lib.hid (Below.next HB3.out hb4); clear ho4 hb4 hy HM4 HB3 HM3
    go_wp2_with fail
    refine (mul_yes B1 0 n k k _ B4 0 _ _ _ _ _ _ _ _ y _ (by omega) (by omega) (by omega) (by omega) (by omega) (by omega) HM6.out HM5.out).mono ?_
    rintro e w5 ⟨B5, r5, rfl, ho5, hb5⟩
    have HM7 := Lib.hid ho5.mat; have HB5 := Lib.hid (Below.next HB4.out hb5); clear ho5 hb5 HM5 HM6 HB4
    go_wp2_with fail
    refine (new_fresh _).mono ?_
    rintro e w6 ⟨rfl, hw⟩
    have HW := Lib.hid hw; clear hw
    go_wp2_with fail
    go_ret2
    rw [HW.out]
    exact newc_of HM7.out HB5.out (cod_of HY.out) h1 h2 h3
  · exact absurd hs (pows_not k (by omega))
end Go.Proofs.Ytkgfkchdbbeljaa.Cd

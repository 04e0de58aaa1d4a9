/-
  Sums and differences of points; norms, points turned about, which comes first.
-/
import Derived.Test.YtjgaaeomfilhoaaGaSmall
namespace Go.Proofs.Ytjgaaeomfilhoaa.Ga
open Go.ChangeShapes Go.WideShapes Go.ChangeAt Go.RowKit Go.Proofs.Ytjgaaeomfilhoaa.Ov

/-- A point and no error; or none and the error 'out of range'. -/
def ans (ok : Bool) (p : Pt) : Value := if ok then .tuple #[.agg #[.int .i64 p.x, .int .i64 p.y], .int .i64 0] else .tuple #[.agg #[.int .i64 0, .int .i64 0], .int .i64 14]
theorem ans_true (p : Pt) : ans true p = .tuple #[.agg #[.int .i64 p.x, .int .i64 p.y], .int .i64 0] := rfl
theorem ans_false (p : Pt) : ans false p = .tuple #[.agg #[.int .i64 0, .int .i64 0], .int .i64 14] := rfl
/-- It is so answered, and the world is as it was but for what the call made. -/
def Gives (v : Value) (w : World) (e : Ending) (w' : World) : Prop := e = .returned v ∧ Below w.heap.size w w'
theorem if_any (x y : Int) (w : World) : Calls Try.prog 27 #[.agg #[.int .i64 x, .int .i64 y]] w (Gives (ans (rb ⟨x, y⟩) ⟨x, y⟩) w) := by
  cases h : rb ⟨x, y⟩
  · exact if_no x y w h
  · exact if_yes x y w h
set_option maxHeartbeats 1000000 in
theorem add_any (x y u v : Int) (w : World) : Calls Try.prog 11 #[.agg #[.int .i64 x, .int .i64 y], .agg #[.int .i64 u, .int .i64 v]] w (Gives (ans (rb ⟨x, y⟩ && rb ⟨u, v⟩ && rb (Pt.add ⟨x, y⟩ ⟨u, v⟩)) (Pt.add ⟨x, y⟩ ⟨u, v⟩)) w) := by
  have HR := Lib.hid (both_any x y u v)
  by_cases hr : (rb ⟨x, y⟩ && rb ⟨u, v⟩) = true
  · have h12 := hr; rw [Bool.and_eq_true] at h12
    obtain ⟨⟨x1, x2⟩, y1, y2⟩ := rb_yes h12.1
    obtain ⟨⟨u1, u2⟩, v1, v2⟩ := rb_yes h12.2
    simp only at x1 x2 y1 y2 u1 u2 v1 v2
    rw [hr] at HR ⊢
    clear h12 hr
    rw [Bool.true_and]
    have HI := Lib.hid (if_any (x + u) (y + v))
    have HE : Hid (Pt.add ⟨x, y⟩ ⟨u, v⟩ = ⟨x + u, y + v⟩) := rfl
    rw [HE.out]; clear HE
    cases hk : rb ⟨x + u, y + v⟩
    all_goals
      rw [hk] at HI
      clear hk
      first | rw [ans_true] at HI ⊢ | rw [ans_false] at HI ⊢
      go_enter Try.func11, Try.ntmps11
      go_wp2_with (fail)
      refine (HR.out _).mono ?_
      rintro e w1 ⟨rfl, hb⟩
      have HB := Lib.hid hb
      obtain ⟨hc, hf⟩ := bcell hb
      have hz : w.heap.size + 2 < w1.heap.size := by have := hb.size; simp at this; omega
      clear hb
      go_wp2_with (fail)
      refine (HI.out _).mono ?_
      rintro e w2 ⟨rfl, hb⟩
      have HB2 := Lib.hid (Below.next (Below.next (below3 w _ _ _) HB.out) hb)
      have hz2 : w.heap.size + 2 < w2.heap.size := by have := hb.size; omega
      have hf2 : w2.frozen? ⟨w.heap.size + 2, 0, none⟩ = w1.frozen? ⟨w.heap.size + 2, 0, none⟩ := hb.frozen (p := ⟨w.heap.size + 2, 0, none⟩) hz
      have hf3 : w2.frozen? ⟨w.heap.size + 2, 1, none⟩ = w1.frozen? ⟨w.heap.size + 2, 1, none⟩ := hb.frozen (p := ⟨w.heap.size + 2, 1, none⟩) hz
      have hc2 : w2.cell? ⟨w.heap.size + 2, 0, none⟩ = w1.cell? ⟨w.heap.size + 2, 0, none⟩ := hb.cell (p := ⟨w.heap.size + 2, 0, none⟩) hz
      have hc3 : w2.cell? ⟨w.heap.size + 2, 1, none⟩ = w1.cell? ⟨w.heap.size + 2, 1, none⟩ := hb.cell (p := ⟨w.heap.size + 2, 1, none⟩) hz
      clear hb
      go_wp2_with (fail)
      refine bodyPost_ret (v := _) (by simp [results, Try.results11, go_sem, hc2, hc3, hc]) rfl ⟨rfl, ?_⟩
      exact (HB2.out.setCell (by first | (simp; done) | (simp; omega)) _).setCell (by first | (simp; done) | (simp; omega)) _
  · have hr2 : (rb ⟨x, y⟩ && rb ⟨u, v⟩) = false := by simpa using hr
    rw [hr2] at HR ⊢
    clear hr hr2
    rw [Bool.false_and, ans_false]
    go_enter Try.func11, Try.ntmps11
    go_wp2_with (fail)
    refine (HR.out _).mono ?_
    rintro e w1 ⟨rfl, hb⟩
    have HB := Lib.hid hb
    obtain ⟨hc, hf⟩ := bcell hb
    have hz : w.heap.size + 2 < w1.heap.size := by have := hb.size; simp at this; omega
    clear hb
    go_wp2_with (fail)
    refine bodyPost_ret (v := .tuple #[.agg #[.int .i64 0, .int .i64 0], .int .i64 14]) (by simp [results, Try.results11, go_sem, hc]) rfl ⟨rfl, ?_⟩
    exact ((Below.next (below3 w _ _ _) HB.out).setCell (by first | (simp; done) | (simp; omega)) _).setCell (by first | (simp; done) | (simp; omega)) _
set_option maxHeartbeats 1000000 in
theorem sub_any (x y u v : Int) (w : World) : Calls Try.prog 12 #[.agg #[.int .i64 x, .int .i64 y], .agg #[.int .i64 u, .int .i64 v]] w (Gives (ans (rb ⟨x, y⟩ && rb ⟨u, v⟩ && rb (Pt.sub ⟨x, y⟩ ⟨u, v⟩)) (Pt.sub ⟨x, y⟩ ⟨u, v⟩)) w) := by
  have HR := Lib.hid (both_any x y u v)
  by_cases hr : (rb ⟨x, y⟩ && rb ⟨u, v⟩) = true
  · have h12 := hr; rw [Bool.and_eq_true] at h12
    obtain ⟨⟨x1, x2⟩, y1, y2⟩ := rb_yes h12.1
    obtain ⟨⟨u1, u2⟩, v1, v2⟩ := rb_yes h12.2
    simp only at x1 x2 y1 y2 u1 u2 v1 v2
    rw [hr] at HR ⊢
    clear h12 hr
    rw [Bool.true_and]
    have HI := Lib.hid (if_any (x - u) (y - v))
    have HE : Hid (Pt.sub ⟨x, y⟩ ⟨u, v⟩ = ⟨x - u, y - v⟩) := rfl
    rw [HE.out]; clear HE
    cases hk : rb ⟨x - u, y - v⟩
    all_goals
      rw [hk] at HI
      clear hk
      first | rw [ans_true] at HI ⊢ | rw [ans_false] at HI ⊢
      go_enter Try.func12, Try.ntmps12
      go_wp2_with (fail)
      refine (HR.out _).mono ?_
      rintro e w1 ⟨rfl, hb⟩
      have HB := Lib.hid hb
      obtain ⟨hc, hf⟩ := bcell hb
      have hz : w.heap.size + 2 < w1.heap.size := by have := hb.size; simp at this; omega
      clear hb
      go_wp2_with (fail)
      refine (HI.out _).mono ?_
      rintro e w2 ⟨rfl, hb⟩
      have HB2 := Lib.hid (Below.next (Below.next (below3 w _ _ _) HB.out) hb)
      have hz2 : w.heap.size + 2 < w2.heap.size := by have := hb.size; omega
      have hf2 : w2.frozen? ⟨w.heap.size + 2, 0, none⟩ = w1.frozen? ⟨w.heap.size + 2, 0, none⟩ := hb.frozen (p := ⟨w.heap.size + 2, 0, none⟩) hz
      have hf3 : w2.frozen? ⟨w.heap.size + 2, 1, none⟩ = w1.frozen? ⟨w.heap.size + 2, 1, none⟩ := hb.frozen (p := ⟨w.heap.size + 2, 1, none⟩) hz
      have hc2 : w2.cell? ⟨w.heap.size + 2, 0, none⟩ = w1.cell? ⟨w.heap.size + 2, 0, none⟩ := hb.cell (p := ⟨w.heap.size + 2, 0, none⟩) hz
      have hc3 : w2.cell? ⟨w.heap.size + 2, 1, none⟩ = w1.cell? ⟨w.heap.size + 2, 1, none⟩ := hb.cell (p := ⟨w.heap.size + 2, 1, none⟩) hz
      clear hb
      go_wp2_with (fail)
      refine bodyPost_ret (v := _) (by simp [results, Try.results12, go_sem, hc2, hc3, hc]) rfl ⟨rfl, ?_⟩
      exact (HB2.out.setCell (by first | (simp; done) | (simp; omega)) _).setCell (by first | (simp; done) | (simp; omega)) _
  · have hr2 : (rb ⟨x, y⟩ && rb ⟨u, v⟩) = false := by simpa using hr
    rw [hr2] at HR ⊢
    clear hr hr2
    rw [Bool.false_and, ans_false]
    go_enter Try.func12, Try.ntmps12
    go_wp2_with (fail)
    refine (HR.out _).mono ?_
    rintro e w1 ⟨rfl, hb⟩
    have HB := Lib.hid hb
    obtain ⟨hc, hf⟩ := bcell hb
    have hz : w.heap.size + 2 < w1.heap.size := by have := hb.size; simp at this; omega
    clear hb
    go_wp2_with (fail)
    refine bodyPost_ret (v := .tuple #[.agg #[.int .i64 0, .int .i64 0], .int .i64 14]) (by simp [results, Try.results12, go_sem, hc]) rfl ⟨rfl, ?_⟩
    exact ((Below.next (below3 w _ _ _) HB.out).setCell (by first | (simp; done) | (simp; omega)) _).setCell (by first | (simp; done) | (simp; omega)) _
end Go.Proofs.Ytjgaaeomfilhoaa.Ga

/-
  The document's example of layer 2, as its laws ask it (awake): it comes out.
-/
import Derived.Test.YtnobpdgicglieaaMxNo
import Derived.Test.YtnobpdgicglieaaMxRefRight
import Derived.Test.YtnobpdgicglieaaMxRefMul
namespace Go.Proofs.Ytnobpdgicglieaa.Mx
open Go.ChangeShapes Go.WideShapes Go.ChangeAt Go.RowKit Go.Proofs.Ytnobpdgicglieaa.Gf

/-- 1 1, 1 2: the powers of 1 and of 2. -/
def exm (i j : Nat) : K := kp (kb (i + 1)) j
theorem exm_not : ¬ Sing 2 exm := powers_not_sing 2 (fun i => kb (i + 1)) fun i hi j hj e => by
  have := congrArg K.n e
  simp [kb] at this
  omega
def exw (w : World) : World := ((w.alloc (.cells #[.int .u8 1, .int .u8 1] 5)).alloc (.cells #[.int .u8 1, .int .u8 2] 5)).alloc (.cells #[.slice (some ⟨w.heap.size, 0, none⟩) 2 2, .slice (some ⟨w.heap.size + 1, 0, none⟩) 2 2] 37)
theorem exw_below (w : World) : Below w.heap.size w (exw w) := (((Below.refl _ _).alloc (Nat.le_refl _) _).alloc (by simp) _).alloc (by simp; omega) _
theorem exm_n : ∀ i, i < 2 → ∀ j, j < 2 → (exm i j).n = if i = 1 ∧ j = 1 then 2 else 1 := by decide +kernel
theorem exw_mat (w : World) : Mat (exw w) (w.heap.size + 2) 0 2 2 (fun i => w.heap.size + i) (fun _ => 0) (fun _ => 2) exm := by
  have r0 : (exw w).rowIs w.heap.size 5 2 (fun _ => .int .u8 1) := by
    refine (World.rowIs.alloc (World.rowIs.alloc (World.rowIs_alloc w #[.int .u8 1, .int .u8 1] _ _ ?_) _) _)
    intro i hi
    match i, hi with
    | 0, _ => rfl
    | 1, _ => rfl
  have r1 : (exw w).rowIs (w.heap.size + 1) 5 2 (fun i => if i = 1 then .int .u8 2 else .int .u8 1) := by
    have := (World.rowIs_alloc (w.alloc (.cells #[.int .u8 1, .int .u8 1] 5)) #[.int .u8 1, .int .u8 2] 5 (fun i => if i = 1 then .int .u8 2 else .int .u8 1) (fun i hi => by
      match i, hi with
      | 0, _ => rfl
      | 1, _ => rfl)).alloc (.cells #[.slice (some ⟨w.heap.size, 0, none⟩) 2 2, .slice (some ⟨w.heap.size + 1, 0, none⟩) 2 2] 37)
    simpa [exw] using this
  have r2 : (exw w).rowIs (w.heap.size + 2) 37 2 (fun i => .slice (some ⟨w.heap.size + i, 0, none⟩) 2 2) := by
    have := World.rowIs_alloc ((w.alloc (.cells #[.int .u8 1, .int .u8 1] 5)).alloc (.cells #[.int .u8 1, .int .u8 2] 5)) #[.slice (some ⟨w.heap.size, 0, none⟩) 2 2, .slice (some ⟨w.heap.size + 1, 0, none⟩) 2 2] 37 (fun i => .slice (some ⟨w.heap.size + i, 0, none⟩) 2 2) (fun i hi => by
      match i, hi with
      | 0, _ => rfl
      | 1, _ => rfl)
    simpa [exw] using this
  refine ⟨fun i hi => by rw [Nat.zero_add]; exact r2.cell hi, fun i hi j hj => ?_⟩
  rw [Nat.zero_add, exm_n i hi j hj]
  match i, hi with
  | 0, _ => exact r0.cell hj
  | 1, _ =>
    rw [r1.cell hj]
    match j, hj with
    | 0, _ => rfl
    | 1, _ => rfl
set_option maxRecDepth 100000 in
set_option maxHeartbeats 1000000 in
theorem awake_any (w : World) :
    Calls Try.prog 10 #[] w fun e w' => e = .returned (.bool true) ∧ Below w.heap.size w w' := by
  have HM := Lib.hid (exw_mat w); have HB := Lib.hid (exw_below w)
  go_enter Try.func10, Try.ntmps10
  go_wp2_with fail
  show Calls _ _ _ (exw w) _
  generalize exw w = w0 at *
  generalize w.heap.size + 2 = B0 at *
  refine (undo_any _ _ _ _ _ _ _ exm _ (by omega) (by omega) HM.out).mono ?_
  rintro e w1 (⟨y, hy, B, r, rfl, ho, hb⟩ | ⟨hs, _⟩)
  · have HY := Lib.hid hy; have HO := Lib.hid ho.mat; have HB1 := Lib.hid hb
    clear hy ho hb
    go_wp2_with fail
    refine (refmm_any _ _ _ _ _ _ _ _ _ _ _ _ _ _ _ exm y _ (by omega) (by omega) (by omega) (by omega) (by omega) (by omega) (HM.out.below HB1.out) HO.out).mono ?_
    rintro e w2 ⟨B2, cap, r2, c2, rfl, hm, hb⟩
    have HM2 := Lib.hid hm; have HB2 := Lib.hid hb
    clear hm hb
    go_wp2_with fail
    refine (isone_yes _ _ _ _ _ _ _ _ _ _ (by omega) (by omega) HM2.out (fun i hi j hj => (HY.out i hi j hj).1)).mono ?_
    rintro e w3 ⟨rfl, rfl⟩
    go_wp2_with fail
    go_ret
    exact ⟨rfl, Below.next (Below.next HB.out HB1.out) HB2.out⟩
  · exact absurd hs exm_not
end Go.Proofs.Ytnobpdgicglieaa.Mx

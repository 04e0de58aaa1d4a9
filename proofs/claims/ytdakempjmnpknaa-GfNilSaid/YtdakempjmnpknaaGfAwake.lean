/-
  The document's examples, as the laws of layer 1 ask them (awake): they come out.
-/
import Derived.Test.YtdakempjmnpknaaGfCalls
namespace Go.Proofs.Ytdakempjmnpknaa.Gf
open Go.ChangeShapes Go.WideShapes Go.ChangeAt Go.RowKit

theorem ex_div : ((gd (29 : Int).toNat (2 : Int).toNat : Nat) : Int) = 128 := by decide +kernel
theorem ex_mul : ((gm (2 : Int).toNat (128 : Int).toNat : Nat) : Int) = 29 := by decide +kernel
theorem ex_exp : ((pw ((8 : Int) % 255).toNat : Nat) : Int) = 29 := by decide +kernel
/-- The world behind gf.New, up to draws. -/
def fresh (w : World) : World := w.alloc (.cells (T 255) 43)
theorem fresh_F (w : World) : IsF (fresh w) w.heap.size := IsF.new w
theorem fresh_old {w : World} {b : Nat} (h : IsF w b) (hb : b < w.heap.size) : IsF (fresh w) b := h.alloc hb _
theorem new_fresh (w : World) : Calls Try.prog 9 #[] w fun e w' => e = .returned (.pointer (some ⟨w.heap.size, 0, none⟩)) ∧ w' = fresh w := new_any w
theorem fresh_grown (w : World) : Grown w (fresh w) := (Grown.refl w).alloc _ _
theorem grown_drewN {w w' : World} (h : Grown w w') (n : Nat) : Grown w (w'.drewN n) := h
theorem grown_trans {a b c : World} (h : Grown a b) (k : Grown b c) : Grown a c :=
  ⟨World.keptBut_trans h.1 k.1, fun x => (k.2.1 x).trans (h.2.1 x), Nat.le_trans h.2.2 k.2.2⟩
set_option maxHeartbeats 400000 in
theorem awake_any (w : World) :
    Calls Try.prog 10 #[] w fun e w' => e = .returned (.bool true) ∧ ∃ m, w' = (fresh w).drewN m := by
  have HF := Lib.hid (fresh_F w)
  go_enter Try.func10, Try.ntmps10
  go_wp2_with fail
  refine (new_fresh _).mono ?_
  rintro e w' ⟨rfl, rfl⟩
  go_wp2_with fail
  refine (div_some _ _ _ (by omega) (by omega) (by omega) (by omega) _ HF.out).mono ?_
  rintro e w' ⟨rfl, m1, rfl⟩
  rw [ex_div]
  go_wp2_with fail
  refine (mul_any _ _ _ (by omega) (by omega) (by omega) (by omega) _ (HF.out.drewN _)).mono ?_
  rintro e w' ⟨rfl, m2, rfl⟩
  rw [ex_mul]
  go_wp2_with fail
  refine (exp_any _ _ _ (HF.out.drewN _)).mono ?_
  rintro e w' ⟨rfl, m3, rfl⟩
  rw [ex_exp]
  go_wp2_with fail
  go_ret
  exact ⟨rfl, _, rfl⟩
end Go.Proofs.Ytdakempjmnpknaa.Gf

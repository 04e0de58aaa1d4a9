/-
  Whether pieces are those of their first ones: slices.Equal of texts, Right.
-/
import Derived.Test.YtkgfkchdbbeljaaCdMake
namespace Go.Proofs.Ytkgfkchdbbeljaa.Cd
open Go.ChangeShapes Go.WideShapes Go.ChangeAt Go.RowKit Go.Proofs.Ytkgfkchdbbeljaa.Gf Go.Proofs.Ytkgfkchdbbeljaa.Mx

def RelEq (n : Nat) (w : World) (I : Value) (wr : World) : Prop := ∃ k m : Nat, k ≤ n ∧ I = .int .i64 (k : Int) ∧ wr = w.drewN m
set_option maxHeartbeats 400000 in
theorem eq_yes (B O B' O' n cn cm : Nat) (t : Nat → ByteArray) (w : World) (hn : n ≤ 4096) (hS : Strs w (some ⟨B, O, none⟩) n t) (hS' : Strs w (some ⟨B', O', none⟩) n t) :
    Calls Try.prog 30 #[.slice (some ⟨B, O, none⟩) n cn, .slice (some ⟨B', O', none⟩) n cm] w fun e w' => e = .returned (.bool true) ∧ ∃ m, w' = w.drewN m := by
  have HS := Lib.hid hS; have HS' := Lib.hid hS'; clear hS hS'
  have t1 : ((n : Int) != (n : Int)) = false := by simp
  have t1' : (n != n) = false := by simp
  go_enter Try.func30, Try.ntmps30
  go_wp2
  go_loopw [13] (fun I wr => RelEq n w I wr) (fun I _ => n - (intOf I).toNat)
  case atStart => exact ⟨0, 0, by omega, rfl, rfl⟩
  case round =>
    obtain ⟨k, m, hk, rfl, hw⟩ := hrel
    have HW := Lib.hid hw; clear hw
    by_cases hlt : k < n
    · have k0 : (k : Int) < (n : Int) := by omega
      have c1 : wr.cell? ⟨B, O + k, none⟩ = some (.string (t k)) := by rw [HW.out]; exact HS.out.at_ hlt
      have c2 : wr.cell? ⟨B', O' + k, none⟩ = some (.string (t k)) := by rw [HW.out]; exact HS'.out.at_ hlt
      generalize t k = tk at *
      go_wp2_with fail
      go_quiet (fail)
      go_wp2
      go_roundw
      case rel => exact ⟨k + 1, _, by omega, by go_num, by rw [HW.out, World.drewN_drewN]⟩
      case measure => simp [intOf]; omega
    · obtain rfl : n = k := by omega
      go_wp2
      go_ret
      exact ⟨rfl, m, HW.out⟩
set_option maxRecDepth 100000 in
set_option maxHeartbeats 1000000 in
theorem right_of (c k n fb TB : Nat) (r : Nat → Nat) (x : Nat → Nat → K) (B O cn m : Nat) (t u : Nat → ByteArray) (w : World) (hC : IsC w c k n fb TB r x) (hS : Strs w (some ⟨B, O, none⟩) n u) (hcn : n ≤ cn) (hs : ∀ j, j < k → (t j).size = m) (hm : m ≤ 4096) (hu : ∀ i, i < n → u i = pc k m x t i) :
    Calls Try.prog 14 #[.pointer (some ⟨c, 0, none⟩), .slice (some ⟨B, O, none⟩) n cn] w fun e w' => e = .returned (.bool true) ∧ Below w.heap.size w w' := by
  have hk1 := hC.k1; have hkn := hC.kn; have hn16 := hC.n16
  have ck := hC.ck; have ccn := hC.cn
  have HC := Lib.hid hC; have HS := Lib.hid hS; have HZ := Lib.hid hs; have HU := Lib.hid hu; clear hC hS hs hu
  have HT : Hid (∀ j, j < k → u j = t j) := fun j hj => by rw [HU.out j (by omega)]; exact HC.out.cod.first hkn hj (HZ.out j hj)
  have t1 : ((n : Int) != (n : Int)) = false := by simp
  have t1' : (n != n) = false := by simp
  have k1 : (k : Int) ≤ (cn : Int) := by omega
  go_enter Try.func14, Try.ntmps14
  go_wp2_with fail
  refine (make_yes c k n fb TB r x B O _ m u _ HC.out (HS.out.less hkn) (fun j hj => by rw [HT.out j hj]; exact HZ.out j hj) hm).mono ?_
  rintro e w1 ⟨B1, cap1, rfl, _, hS1, hb1⟩
  have HS1 : Hid (Strs w1 (some ⟨B1, 0, none⟩) n u) := hS1.congr fun i hi => by
    rw [HU.out i hi]; exact pc_congr (fun _ _ => rfl) (fun j hj => HT.out j hj)
  have HB1 := Lib.hid hb1; clear hS1 hb1
  go_wp2_with fail
  refine (eq_yes B1 0 B O n _ _ u _ (by omega) HS1.out (HS.out.below HB1.out)).mono ?_
  rintro e w2 ⟨rfl, q, hw⟩
  have HB2 : Hid (Below w.heap.size w w2) := by rw [hw]; exact below_drewN HB1.out q
  clear hw
  go_wp2_with fail
  go_ret
  exact ⟨rfl, HB2.out⟩
end Go.Proofs.Ytkgfkchdbbeljaa.Cd

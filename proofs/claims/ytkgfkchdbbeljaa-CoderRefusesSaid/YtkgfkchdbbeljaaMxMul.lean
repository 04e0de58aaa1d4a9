/-
  The product of rows: Mul.
-/
import Derived.Test.YtkgfkchdbbeljaaMxPick
import Derived.Test.YtkgfkchdbbeljaaMxPowers
import Derived.Deep.RegionWith
namespace Go.Proofs.Ytkgfkchdbbeljaa.Mx
open Go.ChangeShapes Go.WideShapes Go.ChangeAt Go.RowKit Go.Proofs.Ytkgfkchdbbeljaa.Gf

theorem dot_S (x y : Nat → K) (k : Nat) : dotN (fun i => (x i).n) (fun i => (y i).n) k = (S k (fun t => x t * y t)).n := by
  induction k with
  | zero => rfl
  | succ k ih => rw [dotN, ih]; rfl
set_option maxRecDepth 100000 in
set_option maxHeartbeats 1000000 in
theorem mul_yes (P O n l m cn P' O' cl : Nat) (b o c b' o' c' : Nat → Nat) (x y : Nat → Nat → K) (w : World) (hn : 1 ≤ n) (hn' : n ≤ 32) (hl : 1 ≤ l) (hl' : l ≤ 32) (hm : 1 ≤ m) (hm' : m ≤ 32)
    (hM : Mat w P O n l b o c x) (hM' : Mat w P' O' l m b' o' c' y) :
    Calls Try.prog 22 #[.slice (some ⟨P, O, none⟩) n cn, .slice (some ⟨P', O', none⟩) l cl] w (Made2 n m (mm l x y) (.int .i64 0) w) := by
  have c0 := hM.top0 (by omega)
  have HM := Lib.hid hM; have HM' := Lib.hid hM'; clear hM hM'
  have n0 : (0 : Int) < (n : Int) := by omega
  have HF0 := Lib.hid (fresh_F w)
  go_enter Try.func22, Try.ntmps22
  go_wp2_with fail
  refine (right_yes _ _ _ _ _ _ _ HM.out.rag ⟨hn, hn', hl, hl', fun _ _ => rfl⟩).mono ?_
  rintro e w' ⟨rfl, rfl⟩
  go_wp2_with fail
  refine (right_yes _ _ _ _ _ _ _ HM'.out.rag ⟨hl, hl', hm, hm', fun _ _ => rfl⟩).mono ?_
  rintro e w'' ⟨rfl, rfl⟩
  go_wp2_with fail
  refine (new_fresh _).mono ?_
  rintro e w0 ⟨rfl, hw0⟩
  have HW0 := Lib.hid hw0; clear hw0
  have HF1 : Hid (IsF w0 w''.heap.size) := by rw [HW0.out]; exact HF0.out
  have HM1 : Hid (Mat w0 P O n l b o c x) := by rw [HW0.out]; exact HM.out.below (fresh_below _)
  have HM1' : Hid (Mat w0 P' O' l m b' o' c' y) := by rw [HW0.out]; exact HM'.out.below (fresh_below _)
  clear HF0 c0
  generalize hfb : w''.heap.size = fb at *
  have HFB := Lib.hid hfb; clear hfb
  go_wp2_with fail
  refine (turn_any _ _ _ m _ _ _ _ y _ (by omega) (by omega) (by omega) HM1'.out).mono ?_
  rintro e w1 ⟨Bc, rc, rfl, hoc, hbc⟩
  have HMc := Lib.hid hoc.mat
  have HM2 := Lib.hid (HM1.out.below hbc)
  have HF2 := Lib.hid (IsF.old HF1.out hbc)
  have HB2 := Lib.hid hbc
  clear hoc hbc
  go_wp2_with fail
  refine (blank_any n m (by omega) (by omega) _).mono ?_
  rintro e w2 ⟨B, r, rfl, ho, hb⟩
  have HO : Hid (Fil w1 B n m r (fillTo (mm l x y) 0 0) w2) := ⟨ho.congr fun a _ b _ => (fill_start _ _ _).symm, hb⟩
  clear ho hb
  go_wp2_with fail
  go_loopw [40] (fun I wr => RelPo w1 B n m r (mm l x y) I wr) (fun I _ => n - (intOf I).toNat)
  case atStart => exact ⟨0, by omega, rfl, HO.out⟩
  case round =>
    clear HO
    obtain ⟨k, hk, rfl, hF⟩ := hrel
    have HF := Lib.hid hF; clear hF
    by_cases hlt : k < n
    · have ct := (HM2.out.below HF.out.2).top k hlt
      have k0 : (k : Int) < (n : Int) := by omega
      go_wp2
      clear ct
      go_loopw [47] (fun I wi => RelPi w1 B n m r (mm l x y) k I wi) (fun I _ => m - (intOf I).toNat)
      case atStart => exact ⟨0, by omega, rfl, HF.out⟩
      case round =>
        clear HF
        obtain ⟨j, hj, rfl, hF⟩ := hrel
        have HF := Lib.hid hF; clear hF
        by_cases hll : j < m
        · have j0 : (j : Int) < (m : Int) := by omega
          have cc := (HMc.out.below HF.out.2).top j hll
          rw [Nat.zero_add] at cc
          have ct := HF.out.1.top.cell hlt
          have HX := Lib.hid ((HM2.out.below HF.out.2).bytes hlt)
          have HY := Lib.hid ((HMc.out.below HF.out.2).bytes hll)
          have HF3 := Lib.hid (IsF.old HF2.out HF.out.2)
          have HE := Lib.hid (dot_S (x k) (fun t => y t j) l)
          go_wp2_with fail
          go_region_with ((go_at_call 39; refine (dot_some fb (b k) (rc j) (o k) 0 l _ _ (fun t => (x k t).n) (fun t => (y t j).n) _ (by omega) (by exact HF3.out.drewN 1) (by exact HX.out) (by exact HY.out)).mono ?_; rintro e w3 ⟨rfl, q, hq⟩; (have HG : Hid (Fil w1 B n m r (fillTo (mm l x y) k j) w3) := by rw [hq]; exact (HF.out.drewN 1).drewN q); clear hq; have ct3 := HG.out.1.top.cell hlt; have cr3 := (HG.out.1.row k hlt).cell hll; have fr3 := (HG.out.1.row k hlt).frozen j; rw [HE.out]))
          all_goals
            have HS := Lib.hid (HG.out.set hlt j (mm l x y k j) fun a _ b _ => fill_step (mm l x y) k j a b)
            go_wp2
            go_roundw
            case rel => exact ⟨j + 1, by omega, by go_num, HS.out⟩
            case measure => simp [intOf]; omega
        · obtain rfl : j = m := by omega
          go_wp2
          go_roundw
          case rel => exact ⟨k + 1, by omega, by go_num, HF.out.congr fun a _ b hb => fill_row _ _ _ _ _ hb⟩
          case measure => simp [intOf]; omega
    · obtain rfl : k = n := by omega
      go_wp2
      go_ret2
      refine Made2.of_fresh ?_
      rw [← HW0.out]
      exact ⟨B, r, rfl, (HF.out.1.mono HB2.out.size).congr fun a ha b _ => fill_done _ _ _ _ ha, Below.next HB2.out HF.out.2⟩
end Go.Proofs.Ytkgfkchdbbeljaa.Mx

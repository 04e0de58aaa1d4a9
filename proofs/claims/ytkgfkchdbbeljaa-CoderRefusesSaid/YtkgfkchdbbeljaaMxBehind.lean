/-
  Calls that copy rows: behind.
-/
import Derived.Test.YtkgfkchdbbeljaaMxCopy
namespace Go.Proofs.Ytkgfkchdbbeljaa.Mx
open Go.ChangeShapes Go.WideShapes Go.ChangeAt Go.RowKit Go.Proofs.Ytkgfkchdbbeljaa.Gf

def RelBh (w : World) (B n m f : Nat) (r : Nat → Nat) (x : Nat → Nat → K) (I : Value) (wr : World) : Prop := ∃ k : Nat, k ≤ n ∧ I = .int .i64 (k : Int) ∧ Fil w B n m r (fillTo (fun i j => x i (f + j)) k 0) wr
set_option maxRecDepth 100000 in
set_option maxHeartbeats 1000000 in
theorem behind_any (P n m f M : Nat) (b : Nat → Nat) (x : Nat → Nat → K) (w : World) (hn : 0 < n) (hn' : n ≤ 64) (hm : 0 < m) (hm' : m ≤ 64) (hf : f ≤ 64) (hfm : M = f + m) (hM : Mat w P 0 n M b (fun _ => 0) (fun _ => M) x) :
    Calls Try.prog 37 #[.slice (some ⟨P, 0, none⟩) n n, .int .i64 (f : Int)] w (Made n m (fun i j => x i (f + j)) w) := by
  have c0 : w.cell? ⟨P, 0, none⟩ = some (.slice (some ⟨b 0, 0, none⟩) M M) := hM.top0 hn
  have HM := Lib.hid hM; clear hM
  have n0 : (0 : Int) < (n : Int) := by omega
  have e2 : (M : Int) - (f : Int) = ((m : Nat) : Int) := by omega
  have fM : (f : Int) ≤ (M : Int) := by omega
  have fM' : f ≤ M := by omega
  have fM2 : M ≤ 200 := by omega
  have E2 := Lib.hid e2; clear e2
  have HM2 := Lib.hid hfm; clear hfm
  go_enter Try.func37, Try.ntmps37
  go_wp2_with fail
  rw [E2.out]
  refine (blank_any n m (by omega) (by omega) _).mono ?_
  rintro e w1 ⟨B, r, rfl, ho, hb⟩
  have HO : Hid (Fil w B n m r (fillTo (fun i j => x i (f + j)) 0 0) w1) := ⟨ho.congr fun a _ b _ => (fill_start _ _ _).symm, hb⟩
  clear ho hb c0
  go_wp2_with fail
  go_loopw [19] (fun I wr => RelBh w B n m f r x I wr) (fun I _ => n - (intOf I).toNat)
  case atStart => exact ⟨0, by omega, rfl, HO.out⟩
  case round =>
    clear HO
    obtain ⟨k, hk, rfl, hF⟩ := hrel
    have HF := Lib.hid hF; clear hF
    by_cases hlt : k < n
    · have cs := (HM.out.below HF.out.2).top k hlt
      rw [Nat.zero_add] at cs
      have ct := HF.out.1.top.cell hlt
      obtain ⟨w2, hrun, hbut, hrow⟩ := copy_row (wr := wr.drew) (b := b k) (o := f) (L := M - f) (v := fun j => x k (f + j)) (c := m) (c' := M - f) ((HF.out.1.row k hlt).drew) (fun j hj => by
        have := (HM.out.below HF.out.2).row k hlt (f + j) (by have := HM2.out; omega)
        rw [Nat.zero_add] at this; exact this) (by have := HM2.out; omega)
      have HS : Hid (Fil w B n m r (fillTo (fun i j => x i (f + j)) (k + 1) 0) w2) := by
        refine (HF.out.drewN 1).turn hlt (v := fun j => x k (f + j)) hbut (hrow.congr fun j hj => by rw [if_pos (by have := HM2.out; omega)]) (fun a _ b _ => fill_rows _ _ _ _)
      have k0 : (k : Int) < (n : Int) := by omega
      have HB := Lib.hid hbut; have HR := Lib.hid hrow
      clear hbut hrow
      have hne : ¬ M = f := by have := HM2.out; omega
      go_wp2_with fail
      go_region
      go_wp2
      go_roundw
      case rel => exact ⟨k + 1, by omega, by go_num, HS.out⟩
      case measure => simp [intOf]; omega
    · obtain rfl : k = n := by omega
      go_wp2
      go_ret
      exact ⟨B, r, rfl, HF.out.1.congr fun a ha b _ => fill_done _ _ _ _ ha, HF.out.2⟩
end Go.Proofs.Ytkgfkchdbbeljaa.Mx

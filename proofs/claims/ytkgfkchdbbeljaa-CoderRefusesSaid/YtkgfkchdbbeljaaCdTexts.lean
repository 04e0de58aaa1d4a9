/-
  Rows of bytes as texts: asTexts.
-/
import Derived.Test.YtkgfkchdbbeljaaCdMem
import Derived.Lib.SlBytesRow
namespace Go.Proofs.Ytkgfkchdbbeljaa.Cd
open Go.ChangeShapes Go.WideShapes Go.ChangeAt Go.RowKit Go.Proofs.Ytkgfkchdbbeljaa.Gf Go.Proofs.Ytkgfkchdbbeljaa.Mx

/-- string(b), of a row of bytes. -/
theorem run_text {w : World} {b o m c : Nat} {f : Nat → K} (h : ∀ j, j < m → w.cell? ⟨b, o + j, none⟩ = some (.int .u8 ((f j).n : Int))) :
    (convert 23 9 (.slice (some ⟨b, o, none⟩) m c)).run Try.prog w = .ok (.string (bs m f)) w := by
  have := Lib.run_convert_whole (P := Try.prog) w 23 5 9 Try.underlying23 Try.underlying5 Try.underlying9 b o (bs m f) (fun i hi => by
    rw [← kt_at hi, kt_bs (by rwa [bs_size] at hi)]
    exact h i (by rwa [bs_size] at hi)) c
  rwa [bs_size] at this
/-- n texts, in a row of the call's own. -/
def MadeT (n : Nat) (t : Nat → ByteArray) (w : World) (e : Ending) (w' : World) : Prop :=
  ∃ B, e = .returned (.slice (some ⟨B, 0, none⟩) n n) ∧ w'.rowIs B 9 n (fun i => .string (t i)) ∧ w.heap.size ≤ B ∧ Below w.heap.size w w'
def RelAt (w : World) (n : Nat) (t : Nat → ByteArray) (I : Value) (wr : World) : Prop := ∃ k : Nat, k ≤ n ∧ I = .int .i64 (k : Int) ∧ RowTo w w.heap.size 9 n (fun i => .string (t i)) (.string ⟨#[]⟩) k wr
set_option maxRecDepth 100000 in
set_option maxHeartbeats 1000000 in
theorem texts_any (P O n m cn : Nat) (b o c : Nat → Nat) (x : Nat → Nat → K) (w : World) (hn : n ≤ 4096) (hM : Mat w P O n m b o c x) :
    Calls Try.prog 42 #[.slice (some ⟨P, O, none⟩) n cn] w (MadeT n (fun i => bs m (x i)) w) := by
  have HM := Lib.hid hM; clear hM
  have hmk := run_make_row' (P := Try.prog) 22 9 (.string ⟨#[]⟩) 16 Try.underlying22 infoS rfl .i64 .i64 n (by omega) (by omega)
  go_enter Try.func42, Try.ntmps42
  go_wp2
  clear hmk
  go_loopw [11] (fun I wr => RelAt w n (fun i => bs m (x i)) I wr) (fun I _ => n - (intOf I).toNat)
  case atStart => exact ⟨0, by omega, rfl, RowTo.start w _ n _ _⟩
  case round =>
    obtain ⟨k, hk, rfl, hB⟩ := hrel
    have HB := Lib.hid hB; clear hB
    by_cases hlt : k < n
    · have ct := (HM.out.below HB.out.below).top k hlt
      have hcv := run_text (c := c k) ((HM.out.below HB.out.below).row k hlt)
      have hc := HB.out.cell hlt
      have hf := HB.out.row.frozen k
      have k0 : (k : Int) < (n : Int) := by omega
      go_wp2
      go_roundw
      case rel => exact ⟨k + 1, by omega, by go_num, HB.out.set rfl⟩
      case measure => simp [intOf]; omega
    · obtain rfl : k = n := by omega
      go_wp2
      go_ret
      exact ⟨w.heap.size, rfl, HB.out.done, Nat.le_refl _, HB.out.below⟩
end Go.Proofs.Ytkgfkchdbbeljaa.Cd

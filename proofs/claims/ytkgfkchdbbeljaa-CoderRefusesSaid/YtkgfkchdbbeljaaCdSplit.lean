/-
  The numbers and the texts of pieces: split.
-/
import Derived.Test.YtkgfkchdbbeljaaCdSmall
namespace Go.Proofs.Ytkgfkchdbbeljaa.Cd
open Go.ChangeShapes Go.WideShapes Go.ChangeAt Go.RowKit Go.Proofs.Ytkgfkchdbbeljaa.Gf Go.Proofs.Ytkgfkchdbbeljaa.Mx

/-- Both rows are filled up to a and b. -/
structure SplAt (w : World) (n a b : Nat) (z : Nat → Int) (t : Nat → ByteArray) (wr : World) : Prop where
  num : RowTo w w.heap.size 3 n (fun i => .int .i64 (z i)) (.int .i64 0) a wr
  txt : RowTo w (w.heap.size + 1) 9 n (fun i => .string (t i)) (.string ⟨#[]⟩) b wr
section
variable {w wr : World} {n a b : Nat} {z : Nat → Int} {t : Nat → ByteArray}
theorem SplAt.start (w : World) (n : Nat) (z : Nat → Int) (t : Nat → ByteArray) : SplAt w n 0 0 z t ((w.alloc (.cells (madeCells #[.int .i64 0] n) 3)).alloc (.cells (madeCells #[.string ⟨#[]⟩] n) 9)) := by
  have h1 := RowTo.start w (.int .i64 0) n 3 (fun i => .int .i64 (z i))
  have h2 := RowTo.start (w.alloc (.cells (madeCells #[.int .i64 0] n) 3)) (.string ⟨#[]⟩) n 9 (fun i => .string (t i))
  have hs : (w.alloc (.cells (madeCells #[.int .i64 0] n) 3)).heap.size = w.heap.size + 1 := by simp
  refine ⟨⟨h1.row.alloc _, h1.below.alloc (by rw [hs]; omega) _, h1.lo⟩, ⟨?_, h1.below.alloc (by rw [hs]; omega) _, by omega⟩⟩
  have := h2.row
  rwa [hs] at this
theorem SplAt.alloc (h : SplAt w n a b z t wr) (o : Obj) : SplAt w n a b z t (wr.alloc o) :=
  ⟨⟨h.num.row.alloc _, h.num.below.alloc h.num.below.size _, h.num.lo⟩, ⟨h.txt.row.alloc _, h.num.below.alloc h.num.below.size _, h.txt.lo⟩⟩
theorem SplAt.drewN (h : SplAt w n a b z t wr) (m : Nat) : SplAt w n a b z t (wr.drewN m) := ⟨h.num.drewN m, h.txt.drewN m⟩
theorem SplAt.setN (h : SplAt w n a b z t wr) : SplAt w n (a + 1) b z t (wr.setCell ⟨w.heap.size, a, none⟩ (.int .i64 (z a))) :=
  ⟨h.num.set rfl, ⟨h.txt.row.setOther (by show w.heap.size + 1 ≠ w.heap.size; omega) _, h.txt.below.setCell (Nat.le_refl _) _, h.txt.lo⟩⟩
theorem SplAt.setT (h : SplAt w n a b z t wr) : SplAt w n a (b + 1) z t (wr.setCell ⟨w.heap.size + 1, b, none⟩ (.string (t b))) :=
  ⟨⟨h.num.row.setOther (by show w.heap.size ≠ w.heap.size + 1; omega) _, h.num.below.setCell (show w.heap.size ≤ w.heap.size + 1 by omega) _, h.num.lo⟩, h.txt.set rfl⟩
end
def RelSp (w : World) (n : Nat) (z : Nat → Int) (t : Nat → ByteArray) (I : Value) (wr : World) : Prop := ∃ k : Nat, k ≤ n ∧ I = .int .i64 (k : Int) ∧ SplAt w n k k z t wr
/-- n numbers and n texts. -/
def MadeP (n : Nat) (z : Nat → Int) (t : Nat → ByteArray) (w : World) (e : Ending) (w' : World) : Prop :=
  ∃ N T, e = .returned (.tuple #[.slice (some ⟨N, 0, none⟩) n n, .slice (some ⟨T, 0, none⟩) n n]) ∧ Ints w' (some ⟨N, 0, none⟩) n z ∧ Strs w' (some ⟨T, 0, none⟩) n t ∧ Below w.heap.size w w'
theorem infoP : ∀ w, Sem.run Try.prog (zeroValue 41) w = .ok (.agg #[.int .i64 0, .string ⟨#[]⟩]) w := fun _ => by kernel_rfl
set_option maxRecDepth 100000 in
set_option maxHeartbeats 1000000 in
theorem split_any (p : Option Addr) (n cn : Nat) (z : Nat → Int) (t : Nat → ByteArray) (w : World) (hn : n ≤ 4096) (hP : Pcs w p n z t) :
    Calls Try.prog 28 #[.slice p n cn] w (MadeP n z t w) := by
  have HP := Lib.hid hP; clear hP
  have hmk := run_make_row' (P := Try.prog) 51 3 (.int .i64 0) 8 Try.underlying51 infoI rfl .i64 .i64 n (by omega) (by omega)
  have hmk2 := run_make_row' (P := Try.prog) 22 9 (.string ⟨#[]⟩) 16 Try.underlying22 infoS rfl .i64 .i64 n (by omega) (by omega)
  go_enter Try.func28, Try.ntmps28
  go_wp2
  clear hmk hmk2
  go_loopw [16] (fun I wr => RelSp w n z t I wr) (fun I _ => n - (intOf I).toNat)
  case atStart => exact ⟨0, by omega, rfl, SplAt.start w n z t⟩
  case round =>
    obtain ⟨k, hk, rfl, hB⟩ := hrel
    have HB := Lib.hid hB; clear hB
    by_cases hlt : k < n
    · have k0 : (k : Int) < (n : Int) := by omega
      have HPk := Lib.hid (HP.out.below HB.out.num.below)
      obtain ⟨B, O, rfl, hc⟩ := HPk.out (by omega)
      have c1 := (hc k hlt).1
      have c2 := (hc k hlt).2
      clear hc HPk
      go_wp2_with fail
      have d1 : (wr.alloc (.cells #[.int .i64 (z k), .string (t k)] 41)).cell? ⟨wr.heap.size, 0, none⟩ = some (.int .i64 (z k)) := by rw [World.cell?_alloc_at _ _ _ _ rfl]; rfl
      have d2 : (wr.alloc (.cells #[.int .i64 (z k), .string (t k)] 41)).cell? ⟨wr.heap.size, 1, none⟩ = some (.string (t k)) := by rw [World.cell?_alloc_at _ _ _ _ rfl]; rfl
      have HB1 := Lib.hid (HB.out.alloc (.cells #[.int .i64 (z k), .string (t k)] 41))
      have HG := HB.out.txt.row.lt
      clear c1 c2 HB
      generalize wr.alloc (.cells #[.int .i64 (z k), .string (t k)] 41) = w1 at *
      generalize wr.heap.size = g at *
      have e1 := HB1.out.num.cell hlt
      have e2 := HB1.out.txt.cell hlt
      have f1 := HB1.out.num.row.frozen k
      have f2 := HB1.out.txt.row.frozen k
      have HS1 := Lib.hid (HB1.out.setN.setT)
      have HS2 := Lib.hid (HB1.out.setT.setN)
      clear HB1
      generalize z k = u at d1 HS1 HS2
      generalize t k = tk at d2 HS1 HS2
      go_region
      all_goals
        go_wp2
        go_roundw
        case rel => first | exact ⟨k + 1, by omega, by go_num, HS1.out.drewN 1⟩ | exact ⟨k + 1, by omega, by go_num, HS2.out.drewN 1⟩
        case measure => simp [intOf]; omega
    · obtain rfl : k = n := by omega
      go_wp2
      go_ret2
      exact ⟨w.heap.size, w.heap.size + 1, rfl, fun _ => ⟨w.heap.size, 0, rfl, fun i hi => by rw [Nat.zero_add]; exact HB.out.num.done.cell hi⟩, Strs.row HB.out.txt.done, HB.out.num.below⟩
end Go.Proofs.Ytkgfkchdbbeljaa.Cd

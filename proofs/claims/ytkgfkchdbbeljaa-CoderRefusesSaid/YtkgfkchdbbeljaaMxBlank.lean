/-
  The contracts of rows' small functions: fits, blank.
-/
import Derived.Test.YtkgfkchdbbeljaaMxMem
namespace Go.Proofs.Ytkgfkchdbbeljaa.Mx
open Go.ChangeShapes Go.WideShapes Go.ChangeAt Go.RowKit Go.Proofs.Ytkgfkchdbbeljaa.Gf

theorem info8 : (Try.prog.info? 5).map (fun i => (i.zero, i.size, i.bytes)) = some (some (.int .u8 0), 1, 1) := by kernel_rfl
theorem infoR : (Try.prog.info? 23).map (fun i => (i.zero, i.size, i.bytes)) = some (some (.slice none 0 0), 1, 24) := by kernel_rfl
set_option maxHeartbeats 400000 in
theorem fits_yes (n : Int) (h1 : 1 ≤ n) (h2 : n ≤ 32) (w : World) :
    Calls Try.prog 31 #[.int .i64 n] w fun e w' => e = .returned (.bool true) ∧ w' = w := by
  go_enter Try.func31, Try.ntmps31
  go_wp2
  go_ret
  exact ⟨rfl, rfl⟩
set_option maxHeartbeats 400000 in
theorem fits_no (n : Int) (h : n < 1 ∨ 32 < n) (w : World) :
    Calls Try.prog 31 #[.int .i64 n] w fun e w' => e = .returned (.bool false) ∧ w' = w := by
  by_cases h1 : n < 1
  · clear h
    have t : decide (1 ≤ n) = false := by simp; omega
    go_enter Try.func31, Try.ntmps31
    go_wp2
    go_ret
    exact ⟨rfl, rfl⟩
  · have h2 : 32 < n := by omega
    have h3 : 1 ≤ n := by omega
    have t : decide (n ≤ 32) = false := by simp; omega
    clear h h1
    go_enter Try.func31, Try.ntmps31
    go_wp2
    go_ret
    exact ⟨rfl, rfl⟩

/-- k rows are made. -/
structure BlankAt (w wr : World) (n m k : Nat) : Prop where
  below : Below w.heap.size w wr
  size : wr.heap.size = w.heap.size + 1 + k
  top : wr.rowIs w.heap.size 23 n (fun i => if i < k then .slice (some ⟨w.heap.size + 1 + i, 0, none⟩) m m else .slice none 0 0)
  row : ∀ i, i < k → wr.rowIs (w.heap.size + 1 + i) 5 m (fun _ => .int .u8 0)
theorem blank_start (w : World) (n m : Nat) : BlankAt w (w.alloc (.cells (madeCells #[.slice none 0 0] n) 23)) n m 0 :=
  ⟨(Below.refl _ _).alloc (Nat.le_refl _) _, by simp, (World.rowIs_made w _ n _).congr (fun j _ => by simp), fun j hj => absurd hj (Nat.not_lt_zero _)⟩
theorem blank_step {w wr : World} {n m k : Nat} (h : BlankAt w wr n m k) :
    BlankAt w ((wr.alloc (.cells (madeCells #[.int .u8 0] m) 5)).setCell ⟨w.heap.size, k, none⟩ (.slice (some ⟨wr.heap.size, 0, none⟩) m m)) n m (k + 1) := by
  have hnew := World.rowIs_made wr (.int .u8 0) m 5
  rw [h.size] at hnew ⊢
  refine ⟨(h.below.alloc (by rw [h.size]; omega) _).setCell (Nat.le_refl _) _, by simp [h.size]; omega, ((h.top.alloc _).set k _).congr (fun j _ => ?_), fun j hj => ?_⟩
  · by_cases e : j = k
    · subst e; simp
    · rw [if_neg e]
      by_cases hlt : j < k
      · rw [if_pos hlt, if_pos (by omega)]
      · rw [if_neg hlt, if_neg (by omega)]
  · by_cases e : j = k
    · subst e; exact hnew.setOther (by show w.heap.size + 1 + j ≠ w.heap.size; omega) _
    · exact ((h.row j (by omega)).alloc _).setOther (by show w.heap.size + 1 + j ≠ w.heap.size; omega) _
/-- What a call that makes rows answers. -/
def Made (n m : Nat) (x : Nat → Nat → K) (w : World) (e : Ending) (w' : World) : Prop :=
  ∃ (B : Nat) (r : Nat → Nat), e = .returned (.slice (some ⟨B, 0, none⟩) n n) ∧ Own w' w.heap.size B n m r x ∧ Below w.heap.size w w'
theorem blank_done {w wr : World} {n m : Nat} (h : BlankAt w wr n m n) : Made n m (fun _ _ => 0) w (.returned (.slice (some ⟨w.heap.size, 0, none⟩) n n)) wr :=
  ⟨w.heap.size, fun i => w.heap.size + 1 + i, rfl, ⟨h.top.congr fun i hi => by rw [if_pos hi], fun i hi => h.row i hi, Nat.le_refl _, fun i _ => by omega, fun i _ j _ e => by omega⟩, h.below⟩
def RelBl (w : World) (n m : Nat) (I : Value) (wr : World) : Prop := ∃ k : Nat, k ≤ n ∧ I = .int .i64 (k : Int) ∧ BlankAt w wr n m k
set_option maxRecDepth 100000 in
set_option maxHeartbeats 1000000 in
theorem blank_any (n m : Nat) (hn : n ≤ 4096) (hm : m ≤ 4096) (w : World) :
    Calls Try.prog 32 #[.int .i64 (n : Int), .int .i64 (m : Int)] w (Made n m (fun _ _ => 0) w) := by
  have hmk := run_make_row' (P := Try.prog) 46 23 (.slice none 0 0) 24 Try.underlying46 infoR rfl .i64 .i64 n (by omega) (by omega)
  go_enter Try.func32, Try.ntmps32
  go_wp2
  clear hmk
  go_loopw [11] (fun I wr => RelBl w n m I wr) (fun I _ => n - (intOf I).toNat)
  case atStart => exact ⟨0, by omega, rfl, blank_start w n m⟩
  case round =>
    obtain ⟨k, hk, rfl, hB⟩ := hrel
    have HB := Lib.hid hB; clear hB
    by_cases hlt : k < n
    · have hmk := run_make_row' (P := Try.prog) 23 5 (.int .u8 0) 1 Try.underlying23 info8 rfl .i64 .i64 m (by omega) (by omega)
      have hc : ∀ o, (wr.alloc o).cell? ⟨w.heap.size, k, none⟩ = some (.slice none 0 0) := fun o => by
        have := (HB.out.top.alloc o).cell hlt; rwa [if_neg (by omega)] at this
      have hf : ∀ o, (wr.alloc o).frozen? ⟨w.heap.size, k, none⟩ = false := fun o => (HB.out.top.alloc o).frozen k
      have k0 : (k : Int) < (n : Int) := by omega
      go_wp2
      go_roundw
      case rel => exact ⟨k + 1, by omega, by go_num, blank_step HB.out⟩
      case measure => simp [intOf]; omega
    · obtain rfl : k = n := by omega
      go_wp2
      go_ret
      exact blank_done HB.out
end Go.Proofs.Ytkgfkchdbbeljaa.Mx

/-
  Of any seat: what the bound of an 'Upto' statement gives of texts that come in.
-/
import Derived.Test.YtajdlaihdebmmaaOvStrs
namespace Go.Proofs.Ytajdlaihdebmmaa.Ov
open Go.ChangeShapes Go.WideShapes Go.ChangeAt Go.RowKit

theorem bulk_of {H : Type} {l : List (DataW H)} {d : DataW H} (hk : Rows.uptoSmall H l = true) (h : d ∈ l) : Rows.uptoBulk d ≤ 1048576 := by
  have hb : Rows.uptoBulkAll l ≤ 1048576 := of_decide_eq_true hk
  refine Nat.le_trans ?_ hb
  clear hb hk
  induction l with
  | nil => cases h
  | cons x r ih =>
    have e : Rows.uptoBulkAll (x :: r) = Rows.uptoBulk x + Rows.uptoBulkAll r := rfl
    rw [e]
    rcases List.mem_cons.1 h with rfl | h
    · exact Nat.le_add_right _ _
    · exact Nat.le_trans (ih h) (Nat.le_add_left _ _)
theorem text_small {H : Type} {s : ByteArray} (h : Rows.uptoBulk (DataW.lit (H := H) (.string s.data.toList)) ≤ 1048576) : s.size ≤ 1048576 := by
  have e : Rows.uptoBulk (DataW.lit (H := H) (.string s.data.toList)) = s.data.toList.length + 1 := rfl
  rw [e] at h
  have : s.data.toList.length = s.size := by simp
  omega
theorem bulk_all {H : Type} (f : Nat → ByteArray) (n k : Nat) : Rows.uptoBulkAll ((List.range' k n).map fun i => DataW.lit (H := H) (.string (f i).data.toList)) = ((List.range' k n).map fun i => (f i).size + 1).sum := by
  induction n generalizing k with
  | zero => rfl
  | succ n ih =>
    rw [List.range'_succ, List.map_cons, List.map_cons, List.sum_cons, ← ih (k + 1)]
    show (f k).data.toList.length + 1 + _ = _
    simp
/-- The bytes of n texts, and one for each. -/
def total (t : Nat → ByteArray) : Nat → Nat
  | 0 => 0
  | n + 1 => total t n + ((t n).size + 1)
theorem total_range (f : Nat → ByteArray) (n : Nat) : ((List.range n).map fun i => (f i).size + 1).sum = total f n := by
  induction n with
  | zero => rfl
  | succ n ih => rw [List.range_succ, List.map_append, List.sum_append, ih]; simp [total]
theorem total_le {t : Nat → ByteArray} {n i : Nat} (h : i < n) : (t i).size + 1 ≤ total t n := by
  induction n with
  | zero => omega
  | succ n ih =>
    show _ ≤ total t n + ((t n).size + 1)
    by_cases e : i = n
    · subst e; omega
    · have := ih (by omega); omega
theorem total_len (t : Nat → ByteArray) (n : Nat) : n ≤ total t n := by
  induction n with
  | zero => exact Nat.le_refl _
  | succ n ih => show _ ≤ total t n + ((t n).size + 1); omega
def StrInS (w : World) (p : Option Addr) (n c : Nat) (t : Nat → ByteArray) : Prop := StrIn w p n c t ∧ total t n ≤ 1048576
theorem strs_of_s {H : Type} {enc : TypeId × Value → H} {W : World} {p : Option Addr} {n c : Nat} {d : DataW H} {ps : List MemPlace} (h : DataW.Trod enc Try.prog W 0 (fun _ => true) true 22 (.slice p n c) d ps) (hb : Rows.uptoBulk d ≤ 1048576) : ∃ t : Nat → ByteArray, StrInS W p n c t := by
  obtain ⟨fuel, hf⟩ := h
  rcases Go.Deep.open_strs Try.underlying22 Try.underlying9 (by kernel_rfl) hf with ⟨hcs, _⟩ | ⟨a, len, cap, m, Sx, hcs, _, hlc, hcm, hm, hx, hall⟩
  · simp [Value.cells] at hcs
    obtain ⟨rfl, rfl, rfl⟩ := hcs
    exact ⟨fun _ => ⟨#[]⟩, ⟨fun h => absurd h (Nat.lt_irrefl 0), Nat.zero_le _, Nat.le_refl _⟩, Nat.zero_le _⟩
  · simp [Value.cells] at hcs
    obtain ⟨rfl, rfl, rfl⟩ := hcs
    simp at hm
    subst hm
    obtain ⟨rfl, _⟩ := Prod.mk.inj hx
    refine ⟨Sx, ⟨fun hn => ?_, Nat.le_trans hlc hcm, hlc⟩, ?_⟩
    · have h0 := (hall 0 (by omega)).1
      rw [add0_] at h0
      have ha := at_plain h0
      refine ⟨a.block, a.off, congrArg some ha, fun i hi => ?_⟩
      have := (hall i (by omega)).1
      rw [ha, Go.WideShapes.add_plain] at this
      exact this
    · refine Nat.le_trans ?_ hb
      rw [← total_range, List.range_eq_range', ← bulk_all (H := H)]
      show _ ≤ Rows.uptoBulkAll _ + Rows.uptoBulkAll _ + 1
      omega
end Go.Proofs.Ytajdlaihdebmmaa.Ov

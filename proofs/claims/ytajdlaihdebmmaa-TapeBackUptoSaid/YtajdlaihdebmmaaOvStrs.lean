/-
  Of any seat: n texts behind a pointer, and a list of texts that comes in.
-/
import Derived.Test.YtajdlaihdebmmaaOvBase
import Derived.Deep.Strs
namespace Go.Proofs.Ytajdlaihdebmmaa.Ov
open Go.ChangeShapes Go.WideShapes Go.ChangeAt Go.RowKit

/-- n texts behind a pointer. -/
def Strs (w : World) (p : Option Addr) (n : Nat) (t : Nat → ByteArray) : Prop :=
  0 < n → ∃ B O, p = some ⟨B, O, none⟩ ∧ ∀ i, i < n → w.cell? ⟨B, O + i, none⟩ = some (.string (t i))
section
variable {w w' : World} {p : Option Addr} {n : Nat} {t t' : Nat → ByteArray}
theorem Strs.below {B : Nat} (h : Strs w p n t) (hB : ∀ b, b < w.heap.size → b < B) (k : Below B w w') : Strs w' p n t := fun hn => by
  obtain ⟨b, O, e, hc⟩ := h hn
  exact ⟨b, O, e, fun i hi => by rw [k.cell (p := ⟨b, O + i, none⟩) (hB _ (block_lt_of_cell (hc i hi)))]; exact hc i hi⟩
theorem Strs.old (h : Strs w p n t) (k : Below w.heap.size w w') : Strs w' p n t := h.below (fun _ hb => hb) k
theorem Strs.drewN (h : Strs w p n t) (m : Nat) : Strs (w.drewN m) p n t := h
theorem Strs.at_ {B O : Nat} (h : Strs w (some ⟨B, O, none⟩) n t) {i : Nat} (hi : i < n) : w.cell? ⟨B, O + i, none⟩ = some (.string (t i)) := by
  obtain ⟨B', O', e, hc⟩ := h (by omega)
  simp only [Option.some.injEq, Addr.mk.injEq, and_true] at e
  obtain ⟨rfl, rfl⟩ := e
  exact hc i hi
theorem Strs.at0 {B O : Nat} (h : Strs w (some ⟨B, O, none⟩) n t) (hn : 0 < n) : w.cell? ⟨B, O, none⟩ = some (.string (t 0)) := by simpa using h.at_ hn
end
theorem at_plain {w : World} {a : Addr} {v : Value} (h : w.cell? a = some v) : a = ⟨a.block, a.off, none⟩ := by
  obtain ⟨b, off, spot⟩ := a
  have hspot : spot = none := World.cell?_spot h
  subst hspot; rfl
theorem add0_ (a : Addr) : a.add 0 = a := by simp [Addr.add]
def StrIn (w : World) (p : Option Addr) (n c : Nat) (t : Nat → ByteArray) : Prop := Strs w p n t ∧ n ≤ maxLen ∧ n ≤ c
theorem strs_of {H : Type} {enc : TypeId × Value → H} {W : World} {p : Option Addr} {n c : Nat} {d : DataW H} {ps : List MemPlace} (h : DataW.Trod enc Try.prog W 0 (fun _ => true) true 22 (.slice p n c) d ps) : ∃ t : Nat → ByteArray, StrIn W p n c t := by
  obtain ⟨fuel, hf⟩ := h
  rcases Go.Deep.open_strs Try.underlying22 Try.underlying9 (by kernel_rfl) hf with ⟨hcs, _⟩ | ⟨a, len, cap, m, Sx, hcs, _, hlc, hcm, hm, _, hall⟩
  · simp [Value.cells] at hcs
    obtain ⟨rfl, rfl, rfl⟩ := hcs
    exact ⟨fun _ => ⟨#[]⟩, fun h => absurd h (Nat.lt_irrefl 0), Nat.zero_le _, Nat.le_refl _⟩
  · simp [Value.cells] at hcs
    obtain ⟨rfl, rfl, rfl⟩ := hcs
    simp at hm
    subst hm
    refine ⟨Sx, fun hn => ?_, Nat.le_trans hlc hcm, hlc⟩
    have h0 := (hall 0 (by omega)).1
    rw [add0_] at h0
    have ha := at_plain h0
    refine ⟨a.block, a.off, congrArg some ha, fun i hi => ?_⟩
    have := (hall i (by omega)).1
    rw [ha, Go.WideShapes.add_plain] at this
    exact this
end Go.Proofs.Ytajdlaihdebmmaa.Ov

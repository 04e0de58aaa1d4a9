/-
  Texts and pieces that come in: what a law's walk is told of an argument that is a list of texts, or of pieces.
-/
import Derived.Test.YtkgfkchdbbeljaaCdPicked
import Derived.Deep.Strs
import Derived.Deep.SlicePairs
namespace Go.Proofs.Ytkgfkchdbbeljaa.Cd
open Go.ChangeShapes Go.WideShapes Go.ChangeAt Go.RowKit Go.Proofs.Ytkgfkchdbbeljaa.Gf Go.Proofs.Ytkgfkchdbbeljaa.Mx

theorem at_plain {w : World} {a : Addr} {v : Value} (h : w.cell? a = some v) : a = ⟨a.block, a.off, none⟩ := by
  obtain ⟨b, off, spot⟩ := a
  have hspot : spot = none := World.cell?_spot h
  subst hspot; rfl
theorem add0_ (a : Addr) : a.add 0 = a := by simp [Addr.add]
def StrIn (w : World) (p : Option Addr) (n c : Nat) (t : Nat → ByteArray) : Prop := Strs w p n t ∧ n ≤ maxLen ∧ n ≤ c
def PcIn (w : World) (p : Option Addr) (n c : Nat) (z : (Nat → Int) × (Nat → ByteArray)) : Prop := Pcs w p n z.1 z.2 ∧ n ≤ maxLen ∧ n ≤ c
theorem strs_of {H : Type} {enc : TypeId × Value → H} {W : World} {p : Option Addr} {n c : Nat} {d : DataW H} {ps : List MemPlace} (h : DataW.Trod enc Try.prog W 0 (fun _ => true) true 22 (.slice p n c) d ps) : ∃ t : Nat → ByteArray, StrIn W p n c t := by
  obtain ⟨fuel, hf⟩ := h
  rcases Go.Deep.open_strs Try.underlying22 Try.underlying9 (by kernel_rfl) hf with ⟨hcs, _⟩ | ⟨a, len, cap, m, Sx, hcs, _, hlc, hcm, hm, _, hall⟩
  · simp [Value.cells] at hcs
    obtain ⟨rfl, rfl, rfl⟩ := hcs
    exact ⟨fun _ => ⟨#[]⟩, fun h => absurd h (Nat.lt_irrefl 0), Nat.zero_le _, Nat.le_refl _⟩
  · simp [Value.cells] at hcs
    obtain ⟨rfl, rfl, rfl⟩ := hcs
    simp at hm
    subst hm
    refine ⟨Sx, fun hn => ?_, Nat.le_trans hlc hcm, hlc⟩
    have h0 := (hall 0 (by omega)).1
    rw [add0_] at h0
    have ha := at_plain h0
    refine ⟨a.block, a.off, congrArg some ha, fun i hi => ?_⟩
    have := (hall i (by omega)).1
    rw [ha, Go.WideShapes.add_plain] at this
    exact this
theorem pcs_of {H : Type} {enc : TypeId × Value → H} {W : World} {p : Option Addr} {n c : Nat} {d : DataW H} {ps : List MemPlace} (h : DataW.Trod enc Try.prog W 0 (fun _ => true) true 32 (.slice p n c) d ps) : ∃ z : (Nat → Int) × (Nat → ByteArray), PcIn W p n c z := by
  obtain ⟨fuel, hf⟩ := h
  rcases Go.Deep.open_slice_pairs Try.underlying32 Try.underlying41 (by kernel_rfl) rfl rfl (by kernel_rfl) (by kernel_rfl) hf with ⟨hcs, _⟩ | ⟨a, len, cap, m, k, V0, V1, D0, D1, P0, P1, hcs, _, hlc, hcm, hm, _, hall⟩
  · simp [Value.cells] at hcs
    obtain ⟨rfl, rfl, rfl⟩ := hcs
    exact ⟨(fun _ => 0, fun _ => ⟨#[]⟩), fun h => absurd h (Nat.lt_irrefl 0), Nat.zero_le _, Nat.le_refl _⟩
  · simp [Value.cells] at hcs
    obtain ⟨rfl, rfl, rfl⟩ := hcs
    simp at hm
    subst hm
    have hz : ∀ i, i < m → ∃ q : Int × ByteArray, V0 i = .int .i64 q.1 ∧ V1 i = .string q.2 := fun i hi => by
      obtain ⟨_, _, h0, h1⟩ := hall i hi
      obtain ⟨a0, e0, _⟩ := DataW.trod_int Try.underlying3 h0
      obtain ⟨s1, e1, _⟩ := DataW.trod_string Try.underlying9 h1
      simp at e0 e1
      exact ⟨(a0, s1), e0, e1⟩
    obtain ⟨q, hq⟩ := Go.Deep.choose_lt hz
    refine ⟨(fun i => (q i).1, fun i => (q i).2), fun hn => ?_, Nat.le_trans hlc hcm, hlc⟩
    have h0 := (hall 0 (by omega)).1
    rw [Nat.zero_mul, add0_] at h0
    have ha := at_plain h0
    refine ⟨a.block, a.off, congrArg some ha, fun i hi => ?_⟩
    obtain ⟨c0, c1, _, _⟩ := hall i (by omega)
    rw [ha, Go.WideShapes.add_plain] at c0 c1
    rw [(hq i (by omega)).1] at c0
    rw [(hq i (by omega)).2] at c1
    exact ⟨c0, by rw [← Nat.add_assoc] at c1; exact c1⟩
def BytIn (w : World) (p : Option Addr) (n c : Nat) (f : Nat → K) : Prop := Byts w p n f ∧ n ≤ maxLen ∧ n ≤ c
theorem byts_of {H : Type} {enc : TypeId × Value → H} {W : World} {p : Option Addr} {n c : Nat} {d : DataW H} {ps : List MemPlace} (h : DataW.Trod enc Try.prog W 0 (fun _ => true) true 23 (.slice p n c) d ps) : ∃ f : Nat → K, BytIn W p n c f := by
  obtain ⟨fuel, hf⟩ := h
  rcases open_ints Try.underlying23 Try.underlying5 (by kernel_rfl) hf with ⟨hcs, _⟩ | ⟨x, l, c', zs, hcs, _, hl, hm, hz, _, hcell, hwz⟩
  · simp [Value.cells] at hcs
    obtain ⟨rfl, rfl, rfl⟩ := hcs
    exact ⟨fun _ => 0, fun h => absurd h (Nat.lt_irrefl 0), Nat.zero_le _, Nat.le_refl _⟩
  · simp [Value.cells] at hcs
    obtain ⟨rfl, rfl, rfl⟩ := hcs
    simp at hz
    refine ⟨fun i => kb (zs.getD i 0).toNat, fun hn => ?_, Nat.le_trans hl hm, hl⟩
    have h0 := hcell 0 (by omega)
    rw [add0_] at h0
    have ha := at_plain h0
    refine ⟨x.block, x.off, congrArg some ha, fun i hi => ?_⟩
    have hc := hcell i (by omega)
    rw [ha, Go.WideShapes.add_plain] at hc
    rw [hc]
    have hm : zs.getD i 0 ∈ zs := by
      have e : zs.getD i 0 = zs[i]'(by omega) := by simp [List.getD, show i < zs.length from by omega]
      rw [e]; exact List.getElem_mem _
    have hb := u8_bd (hwz _ hm)
    have e2 : ((kb (zs.getD i 0).toNat).n : Int) = zs.getD i 0 := by
      show ((((zs.getD i 0)).toNat % 256 : Nat) : Int) = _
      omega
    rw [e2]
end Go.Proofs.Ytkgfkchdbbeljaa.Cd

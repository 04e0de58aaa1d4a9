/-
  Rows that come in: what a law's walk is told of an argument that is a list of lists of bytes.
-/
import Derived.Test.YtnobpdgicglieaaMxAwake
import Derived.Deep.Matrix
namespace Go.Proofs.Ytnobpdgicglieaa.Mx
open Go.ChangeShapes Go.WideShapes Go.ChangeAt Go.RowKit Go.Proofs.Ytnobpdgicglieaa.Gf

/-- Where the rows of an argument lie, how long they are, and what they hold. -/
structure MatArg where
  A : Nat → Option Addr
  L : Nat → Nat
  C : Nat → Nat
  b : Nat → Nat
  o : Nat → Nat
  x : Nat → Nat → K
structure MatArg.In (z : MatArg) (w : World) (p : Option Addr) (n : Nat) : Prop where
  rag : Rag w p n z.A z.L z.C
  len : n ≤ maxLen
  lens : ∀ i, i < n → z.L i ≤ maxLen
  row : ∀ i, i < n → 0 < z.L i → z.A i = some ⟨z.b i, z.o i, none⟩ ∧ ∀ j, j < z.L i → w.cell? ⟨z.b i, z.o i + j, none⟩ = some (.int .u8 ((z.x i j).n : Int))
theorem at_plain {w : World} {a : Addr} {v : Value} (h : w.cell? a = some v) : a = ⟨a.block, a.off, none⟩ := by
  obtain ⟨b, off, spot⟩ := a
  have hspot : spot = none := World.cell?_spot h
  subst hspot; rfl
theorem add0_ (a : Addr) : a.add 0 = a := by simp [Addr.add]
theorem arg_of {H : Type} {enc : TypeId × Value → H} {W : World} {p : Option Addr} {n c : Nat} {d : DataW H} {ps : List MemPlace} (h : DataW.Trod enc Try.prog W 0 (fun _ => true) true 22 (.slice p n c) d ps) : ∃ z : MatArg, z.In W p n := by
  obtain ⟨fuel, hf⟩ := h
  rcases Go.Deep.open_int_rows Try.underlying22 Try.underlying37 Try.underlying5 (by kernel_rfl) (by kernel_rfl) hf with ⟨hcs, _⟩ | ⟨a, len, cap, A, L, C, Z, hcs, _, hlc, hcm, _, hall⟩
  · simp [Value.cells] at hcs
    obtain ⟨rfl, rfl, rfl⟩ := hcs
    exact ⟨⟨fun _ => none, fun _ => 0, fun _ => 0, fun _ => 0, fun _ => 0, fun _ _ => 0⟩, ⟨fun h => absurd h (Nat.lt_irrefl 0), Nat.zero_le _, fun i hi => absurd hi (Nat.not_lt_zero i), fun i hi => absurd hi (Nat.not_lt_zero i)⟩⟩
  · simp [Value.cells] at hcs
    obtain ⟨rfl, rfl, rfl⟩ := hcs
    refine ⟨⟨A, L, C, fun i => ((A i).getD ⟨0, 0, none⟩).block, fun i => ((A i).getD ⟨0, 0, none⟩).off, fun i j => kb ((Z i).getD j 0).toNat⟩, ⟨fun hn => ?_, Nat.le_trans hlc hcm, fun i hi => ?_, fun i hi hL => ?_⟩⟩
    · have h0 := (hall 0 (by omega)).1
      rw [add0_] at h0
      have ha := at_plain h0
      refine ⟨a.block, a.off, congrArg some ha, fun i hi => ?_⟩
      have := (hall i (by omega)).1
      rw [ha, Go.WideShapes.add_plain] at this
      exact this
    · have := hall i (by omega); exact Nat.le_trans this.2.1 this.2.2.1
    · obtain ⟨_, hLC, _, hz, hwf, hnone, hsome⟩ := hall i (by omega)
      have hL' : 0 < L i := hL
      cases hA : A i with
      | none => have := hnone hA; omega
      | some a' =>
        obtain ⟨_, hcell⟩ := hsome a' hA
        have h0 := hcell 0 (by omega)
        rw [add0_] at h0
        have ha := at_plain h0
        refine ⟨?_, fun j hj => ?_⟩
        · show A i = some ⟨((A i).getD ⟨0, 0, none⟩).block, ((A i).getD ⟨0, 0, none⟩).off, none⟩
          rw [hA]; exact congrArg some ha
        · show W.cell? ⟨((A i).getD ⟨0, 0, none⟩).block, ((A i).getD ⟨0, 0, none⟩).off + j, none⟩ = some (.int .u8 ((kb ((Z i).getD j 0).toNat).n : Int))
          rw [hA]
          have hj' : j < C i := Nat.lt_of_lt_of_le hj hLC
          have hc := hcell j hj'
          rw [ha, Go.WideShapes.add_plain] at hc
          show W.cell? ⟨a'.block, a'.off + j, none⟩ = _
          rw [hc]
          have hm : (Z i).getD j 0 ∈ Z i := by
            have e : (Z i).getD j 0 = (Z i)[j]'(by omega) := by simp [List.getD, show j < (Z i).length from by omega]
            rw [e]; exact List.getElem_mem _
          have hb := u8_bd (hwf _ hm)
          have e2 : ((kb ((Z i).getD j 0).toNat).n : Int) = (Z i).getD j 0 := by
            show ((((Z i).getD j 0).toNat % 256 : Nat) : Int) = _
            omega
          rw [e2]
section
variable {z : MatArg} {w w' : World} {p : Option Addr} {n : Nat}
theorem MatArg.In.below (h : z.In w p n) (k : Below w.heap.size w w') : z.In w' p n :=
  ⟨h.rag.below k, h.len, h.lens, fun i hi hL => ⟨(h.row i hi hL).1, fun j hj => by rw [k.cell (p := ⟨z.b i, z.o i + j, none⟩) (block_lt_of_cell ((h.row i hi hL).2 j hj))]; exact (h.row i hi hL).2 j hj⟩⟩
theorem MatArg.In.mat (h : z.In w p n) (hR : RightP n z.L) : ∃ B O, p = some ⟨B, O, none⟩ ∧ Mat w B O n (z.L 0) z.b z.o z.C z.x := by
  obtain ⟨B, O, e, hc⟩ := h.rag (by have := hR.1; omega)
  refine ⟨B, O, e, ⟨fun i hi => ?_, fun i hi j hj => ?_⟩⟩
  · have hl := hR.2.2.2.2 i hi
    have := hc i hi
    rw [(h.row i hi (by have := hR.2.2.1; omega)).1, hl] at this
    exact this
  · have hl := hR.2.2.2.2 i hi
    exact (h.row i hi (by have := hR.2.2.1; omega)).2 j (by omega)
theorem MatArg.In.few (_ : z.In w p n) (hf : FewP n z.L) : n ≤ 4294967296 ∧ ∀ i, i < n → z.L i ≤ 4294967296 :=
  ⟨by have := hf.1; omega, fun i hi => by have := hf.2 i hi; omega⟩
end
end Go.Proofs.Ytnobpdgicglieaa.Mx

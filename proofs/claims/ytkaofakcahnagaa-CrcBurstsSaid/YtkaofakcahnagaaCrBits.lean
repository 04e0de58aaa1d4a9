/-
  Bits of a text changed one after another, in memory.
-/
import Derived.Test.YtkaofakcahnagaaCrLaws
import Derived.Lib.ConvBytes
import Derived.StillTailTactics
import Derived.BigRegion
namespace Go.Proofs.Ytkaofakcahnagaa.Cr
open Go.ChangeShapes Go.WideShapes Go.ChangeAt Go.RowKit Go.Proofs.Ytkaofakcahnagaa.Ov

/-- The bytes l lie in block g, from its beginning on. -/
structure RowB (w : World) (g : Nat) (l : List UInt8) : Prop where
  cell : ∀ j (hj : j < l.length), w.cell? ⟨g, j, none⟩ = some (.int .u8 (l[j].toNat : Int))
  thaw : ∀ j, j < l.length → w.frozen? ⟨g, j, none⟩ = false
theorem RowB.set {w : World} {g : Nat} {l : List UInt8} (h : RowB w g l) (p : Nat) (hp : p < l.length) (v : UInt8) : RowB (w.setCell ⟨g, p, none⟩ (.int .u8 (v.toNat : Int))) g (l.set p v) := by
  refine ⟨fun j hj => ?_, fun j hj => ?_⟩
  · have hj' : j < l.length := by simpa using hj
    by_cases e : j = p
    · subst e
      rw [World.cell?_setCell_same _ _ _ (h.cell j hj')]; simp
    · rw [World.cell?_setCell_other _ _ _ _ (by intro q; injection q with _ q2; exact e q2.symm), h.cell j hj', List.getElem_set_ne (fun q => e q.symm)]
  · rw [World.frozen?_setCell]; exact h.thaw j (by simpa using hj)
theorem RowB.drewN {w : World} {g : Nat} {l : List UInt8} (h : RowB w g l) (n : Nat) : RowB (w.drewN n) g l := ⟨h.cell, h.thaw⟩
/-- string(b), whatever was made since. -/
theorem RowB.text {w : World} {g m c : Nat} {l : List UInt8} (h : RowB w g l) (hm : m = l.length) (q : Over w) : (convert 25 9 (.slice (some ⟨g, 0, none⟩) m c)).run Try.prog q.val = .ok (.string (tx l)) q.val :=
  run_text hm fun j hj => over_cell q (by rw [Nat.zero_add]; exact h.cell j hj)
/-- []byte(s). -/
theorem bytes_made (s : ByteArray) (w : World) : ∃ cap w', (convert 9 25 (.string s)).run Try.prog w = .ok (.slice (some ⟨w.heap.size, 0, none⟩) s.size cap) w' ∧ RowB w' w.heap.size s.data.toList ∧ Below w.heap.size w w' := by
  refine ⟨_, _, Lib.run_convert_string_bytes w 9 25 5 s Try.underlying9 Try.underlying25 Try.underlying5, ⟨fun j hj => ?_, fun j hj => ?_⟩,
    ⟨rfl, rfl, rfl, by rw [Lib.bytesWorld_size]; omega, Lib.bytesWorld_at_old w _ s⟩⟩
  · rw [Lib.bytesWorld_cell w _ s j (by rwa [size_list] at hj)]
    congr 3
    have e : s.data[j]? = some s.data[j] := Array.getElem?_eq_getElem (by simpa using hj)
    simp [List.getD, e]
  · have hz : j < (Lib.bytesCells w 5 s).size := by
      rw [size_list] at hj
      simp [Lib.bytesCells]; omega
    simp [World.frozen?, Lib.bytesWorld_at_new]; omega
/-- A bit of a change, as the law asks it. -/
theorem bit_of (c k : Nat) (hc : c < 4294967296) : bits .and .u32 ((c : Int) / 2 ^ k) 1 = ((c / 2 ^ k % 2 : Nat) : Int) := by
  have h : c / 2 ^ k < 4294967296 := Nat.lt_of_le_of_lt (Nat.div_le_self _ _) hc
  have := bits_and1_u32 (c / 2 ^ k) h
  rw [← this]
  congr 1
/-- A bit turned. -/
theorem turn_bit {l m : List UInt8} {c f M k : Nat} (e : bv l = bv m ^^^ chg c M k * 2 ^ f) (hb : c / 2 ^ k % 2 = 1) (hk : k < M) (hq : (f + k) / 8 < l.length) :
    bv (l.set ((f + k) / 8) (l[(f + k) / 8] ^^^ UInt8.ofNat (2 ^ ((f + k) % 8)))) = bv m ^^^ chg c M (k + 1) * 2 ^ f := by
  rw [bv_set _ _ _ hq, e, chg, if_pos ⟨hb, hk⟩, xor_mul, Nat.xor_assoc]
  congr 2
  have h8 : 2 ^ ((f + k) % 8) < 256 := by
    show 2 ^ ((f + k) % 8) < 2 ^ 8
    exact Nat.pow_lt_pow_right (show 1 < 2 by decide) (Nat.mod_lt (f + k) (show 8 > 0 by decide))
  rw [UInt8.toNat_ofNat', Nat.mod_eq_of_lt (by simpa using h8), ← Nat.pow_add, ← Nat.pow_add]
  congr 1; omega
end Go.Proofs.Ytkaofakcahnagaa.Cr

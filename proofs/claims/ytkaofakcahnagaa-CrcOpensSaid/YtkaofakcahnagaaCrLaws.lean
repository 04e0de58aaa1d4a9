/-
  What the laws of layer 4 take: opening in one contract each, parts of texts, a table's place by value.
-/
import Derived.Test.YtkaofakcahnagaaCrRef
import Derived.Test.YtkaofakcahnagaaCrAwake
namespace Go.Proofs.Ytkaofakcahnagaa.Cr
open Go.ChangeShapes Go.WideShapes Go.ChangeAt Go.RowKit Go.Proofs.Ytkaofakcahnagaa.Ov

/-- What opening answers. -/
def opv (l : List UInt8) : List UInt8 × Int :=
  if l.length < 4 then ([], 2) else if l.drop (l.length - 4) = sb (sm (l.take (l.length - 4))) then (l.take (l.length - 4), 0) else ([], 7)
theorem opv_sl (l : List UInt8) : opv (sl l) = (l, 0) := by
  have e : (sl l).length - 4 = l.length := by simp [sl, sb_length]
  have h1 : (sl l).take l.length = l := by simp [sl]
  have h2 : (sl l).drop l.length = sb (sm l) := by simp [sl]
  unfold opv
  rw [if_neg (by simp [sl, sb_length]), e, h1, h2, if_pos rfl]
theorem opv_bad {a b : List UInt8} (h : sm a ≠ sm b) : (opv (a ++ sb (sm b))).2 = 7 := by
  have e : (a ++ sb (sm b)).length - 4 = a.length := by simp [sb_length]
  unfold opv
  rw [if_neg (by simp [sb_length]), e, List.take_left' rfl, List.drop_left' rfl, if_neg (fun q => h (sb_inj (sm_lt _) (sm_lt _) q).symm)]
theorem size_list (t : ByteArray) : t.data.toList.length = t.size := by simp
theorem tx_nil : (⟨#[]⟩ : ByteArray) = tx [] := rfl
theorem open_any (t : ByteArray) (w : World) (hm : t.size ≤ 1000000) :
    Calls Try.prog 9 #[.string t] w fun e w' => e = .returned (.tuple #[.string (tx (opv t.data.toList).1), .int .i64 (opv t.data.toList).2]) ∧ Below w.heap.size w w' := by
  unfold opv
  rw [size_list]
  by_cases h : t.size < 4
  · rw [if_pos h]; exact open_short t w h
  · rw [if_neg h]
    by_cases e : t.data.toList.drop (t.size - 4) = sb (sm (t.data.toList.take (t.size - 4)))
    · rw [if_pos e]; exact open_yes t w (by omega) hm e
    · rw [if_neg e]; exact open_bad t w (by omega) hm e
theorem ropen_any (t : ByteArray) (w : World) (hm : t.size ≤ 1000000) :
    Calls Try.prog 16 #[.string t] w fun e w' => e = .returned (.tuple #[.string (tx (opv t.data.toList).1), .int .i64 (opv t.data.toList).2]) ∧ Below w.heap.size w w' := by
  unfold opv
  rw [size_list]
  by_cases h : t.size < 4
  · rw [if_pos h]; exact ropen_short t w h
  · rw [if_neg h]
    by_cases e : t.data.toList.drop (t.size - 4) = sb (sm (t.data.toList.take (t.size - 4)))
    · rw [if_pos e]; exact ropen_yes t w (by omega) hm e
    · rw [if_neg e]; exact ropen_bad t w (by omega) hm e
theorem sl_size (l : List UInt8) : (tx (sl l)).size = l.length + 4 := by simp [tx_size, sl, sb_length]
/-- What was sealed is opened. -/
theorem open_sealed (t : ByteArray) (w : World) (hm : t.size ≤ 10000) :
    Calls Try.prog 9 #[.string (tx (sl t.data.toList))] w fun e w' => e = .returned (.tuple #[.string t, .int .i64 0]) ∧ Below w.heap.size w w' := by
  have h := open_any (tx (sl t.data.toList)) w (by rw [sl_size, size_list]; omega)
  rw [tx_list, opv_sl, tx_of] at h
  exact h
/-- Sealed twice. -/
theorem seal_twice (t : ByteArray) (w : World) (hm : t.size ≤ 10000) :
    Calls Try.prog 10 #[.string (tx (sl t.data.toList))] w fun e w' => e = .returned (.string (tx (sl (tx (sl t.data.toList)).data.toList))) ∧ Below w.heap.size w w' :=
  seal_any _ w (by rw [sl_size, size_list]; omega)
theorem sum_ext (t : ByteArray) (n : Nat) (w : World) (ht : t.size ≤ 1000000) :
    Calls Try.prog 11 #[.string (t.extract 0 n)] w fun e w' => e = .returned (.int .u32 (sm (t.data.toList.take n) : Nat)) ∧ Below w.heap.size w w' := by
  rw [ext_take]
  have h := sum_any (tx (t.data.toList.take n)) w (by rw [tx_size]; have := List.length_take_le' n t.data.toList; simp at this ⊢; omega)
  rw [tx_list] at h
  exact h
theorem more_ext (t : ByteArray) (n : Nat) (w : World) (ht : t.size ≤ 1000000) :
    Calls Try.prog 13 #[.int .u32 (sm (t.data.toList.take n) : Nat), .string (t.extract n t.size)] w fun e w' => e = .returned (.int .u32 (sm t.data.toList : Nat)) ∧ Below w.heap.size w w' := by
  rw [ext_drop]
  have h := more_any (sm (t.data.toList.take n)) (tx (t.data.toList.drop n)) w (sm_lt _) (by rw [tx_size]; simp; omega)
  rw [tx_list, mo_sm, List.take_append_drop] at h
  exact h
theorem more_sum (s t : ByteArray) (w : World) (ht : t.size ≤ 1000000) :
    Calls Try.prog 13 #[.int .u32 (sm s.data.toList : Nat), .string t] w fun e w' => e = .returned (.int .u32 (sm (s ++ t).data.toList : Nat)) ∧ Below w.heap.size w w' := by
  have h := more_any (sm s.data.toList) t w (sm_lt _) ht
  rw [mo_sm, ← list_append] at h
  exact h
/-- A place of the table, by value. -/
theorem index_TA (b : Nat) (hb : b < 256) (w : World) : (Instr.index 35 (.agg (TA (hs 8))) (.int .u8 (b : Int))).run Try.prog w = .ok (.int .u32 (hs 8 b : Nat)) w := by
  have hz : ∀ w, (Go.sizeOf 23).run Try.prog w = .ok 1 w := fun w => by kernel_rfl
  have ha : ∀ w, (Go.isAgg 23).run Try.prog w = .ok false w := fun w => by kernel_rfl
  have h1 : (0 : Int) ≤ (b : Int) ∧ (b : Int) < ((256 : Nat) : Int) := by omega
  have hg := TA_get (hs 8) b hb
  simp [Instr.index, run_underlying Try.underlying35, asIntOf, hb, part, hz, ha, hg, Sem.run_bind, Result.andThen]
theorem u8_bd {n : Int} (h : (Lit.int .u8 n).wf = true) : ∃ k : Nat, n = (k : Int) ∧ k < 256 := by
  simp [Lit.wf, IntKind.min, IntKind.max, IntKind.bits, IntKind.signed] at h; exact ⟨n.toNat, by omega, by omega⟩
theorem u16_bd {n : Int} (h : (Lit.int .u16 n).wf = true) : ∃ k : Nat, n = (k : Int) ∧ k < 65536 := by
  simp [Lit.wf, IntKind.min, IntKind.max, IntKind.bits, IntKind.signed] at h; exact ⟨n.toNat, by omega, by omega⟩
theorem u32_bd {n : Int} (h : (Lit.int .u32 n).wf = true) : ∃ k : Nat, n = (k : Int) ∧ k < 4294967296 := by
  simp [Lit.wf, IntKind.min, IntKind.max, IntKind.bits, IntKind.signed] at h; exact ⟨n.toNat, by omega, by omega⟩
theorem eq_self (a : ByteArray) : (a.toList == a.toList) = true := by simp
end Go.Proofs.Ytkaofakcahnagaa.Cr

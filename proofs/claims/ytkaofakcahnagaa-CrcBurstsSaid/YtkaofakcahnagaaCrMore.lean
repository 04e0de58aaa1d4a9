/-
  What crc's More and Sum answer.
-/
import Derived.Test.YtkaofakcahnagaaCrTable
namespace Go.Proofs.Ytkaofakcahnagaa.Cr
open Go.ChangeShapes Go.WideShapes Go.ChangeAt Go.RowKit Go.Proofs.Ytkaofakcahnagaa.Ov

/-- The world with the table in its last block. -/
def MW (w : World) : World := w.alloc (.cells (TA (hs 8)) 35)
theorem MW_at (w : World) (i : Nat) (h : i < 256) : (MW w).cell? ⟨w.heap.size, i, none⟩ = some (.int .u32 (hs 8 i : Int)) := by
  unfold MW
  rw [World.cell?_alloc_at _ _ _ _ rfl]; exact TA_get _ i h
theorem MW_store (w : World) : (storeCells ⟨w.heap.size, 0, none⟩ (TA (hs 8)).toList).run Try.prog (w.alloc (.cells (TA fun _ => 0) 35)) = .ok () (MW w) :=
  run_storeCells_new w 35 _ _ (TA_info _) (by rw [TA_size, TA_size]) (TA_one _)
theorem MW_below {w w1 : World} (h : Below w.heap.size w w1) : Below w.heap.size w (MW w1) := h.alloc h.size _
/-- A byte, by the table, as the program does it. -/
theorem st_bits (n : Nat) (b : UInt8) (hn : n < 4294967296) : bits .xor .u32 ((n / 256 : Nat) : Int) ((hs 8 (n % 256 ^^^ b.toNat) : Nat) : Int) = (st n b : Nat) := by
  have h8 : n % 256 ^^^ b.toNat < 256 := Nat.xor_lt_two_pow (n := 8) (by omega) b.toNat_lt
  rw [bits_xor_u32 _ _ (by omega) (hs_lt 8 (by omega)), st_tab]
theorem nt_bits {s : Nat} (h : s < 4294967296) : bits .xor .u32 IntKind.u32.max (s : Int) = (nt s : Nat) := bits_xor_u32 4294967295 s (by omega) h
def RelM (s : Nat) (t : ByteArray) (N I : Value) : Prop := ∃ k : Nat, k ≤ t.size ∧ N = .int .u32 (run (nt s) (t.data.toList.take k) : Nat) ∧ I = .int .i64 (k : Int)
set_option maxRecDepth 100000 in
set_option maxHeartbeats 1000000 in
theorem more_any (s : Nat) (t : ByteArray) (w : World) (hs' : s < 4294967296) (ht : t.size ≤ 1000000) :
    Calls Try.prog 13 #[.int .u32 (s : Int), .string t] w fun e w' => e = .returned (.int .u32 (mo s t.data.toList : Nat)) ∧ Below w.heap.size w w' := by
  have hz := zeroT
  have HN := Lib.hid (nt_bits hs')
  go_enter Try.func13, Try.ntmps13
  go_wp2_with (fail)
  refine (table_any _).mono ?_
  rintro e w1 ⟨rfl, hb⟩
  have HB := Lib.hid (MW_below hb); clear hb
  have HC := Lib.hid (MW_at w1)
  have hst := MW_store w1
  go_wp2_with (fail)

  clear hst hz
  generalize MW w1 = wm at *
  go_loop [6, 13] (fun N I => RelM s t N I) (fun _ I => t.size - (intOf I).toNat)
  case atStart => exact ⟨0, by omega, by rw [HN.out]; rfl, rfl⟩
  case round =>
    obtain ⟨k, hk, rfl, rfl⟩ := hrel
    have hl := run_lt (t.data.toList.take k) (nt_lt hs')
    by_cases hlt : k < t.size
    · have HR : Hid (run (nt s) (t.data.toList.take (k + 1)) = st (run (nt s) (t.data.toList.take k)) t[k]) := by
        show _ = _
        rw [take_snoc t k hlt, run_snoc]
      generalize run (nt s) (t.data.toList.take k) = n at *
      have e2 := bits_xor_u8 (n % 256) t[k].toNat (by omega) (UInt8.toNat_lt _)
      have h8 : n % 256 ^^^ t[k].toNat < 256 := Nat.xor_lt_two_pow (n := 8) (by omega) (UInt8.toNat_lt _)
      have hc := HC.out (n % 256 ^^^ t[k].toNat) h8
      have HX := Lib.hid (st_bits n t[k] hl)
      generalize n % 256 ^^^ t[k].toNat = x at e2 h8 hc HX
      have e3 : bits .xor .u8 ((n : Int) % 256) (t[k].toNat : Int) = (x : Int) := e2
      clear e2
      have k0 : (k : Int) < (t.size : Int) := by omega
      go_wp2_with (fail)
      go_round
      case rel => exact ⟨k + 1, by omega, by rw [HR.out, ← HX.out]; rfl, by go_num⟩
      case measure => simp [intOf]; omega
    · obtain rfl : k = t.size := by omega
      rw [take_all] at hl ⊢
      have HN2 := Lib.hid (nt_bits hl)
      have hge : ¬ (t.size : Int) < (t.size : Int) := by omega
      go_wp2_with (fail)
      go_ret
      exact ⟨ret_int HN2.out, HB.out⟩
set_option maxHeartbeats 1000000 in
theorem sum_any (t : ByteArray) (w : World) (ht : t.size ≤ 1000000) :
    Calls Try.prog 11 #[.string t] w fun e w' => e = .returned (.int .u32 (sm t.data.toList : Nat)) ∧ Below w.heap.size w w' := by
  go_enter Try.func11, Try.ntmps11
  go_wp2_with (fail)
  refine (more_any 0 t _ (by omega) ht).mono ?_
  rintro e w1 ⟨rfl, hb⟩
  have HB := Lib.hid hb; clear hb
  go_wp2_with (fail)
  go_ret
  exact ⟨rfl, HB.out⟩
end Go.Proofs.Ytkaofakcahnagaa.Cr

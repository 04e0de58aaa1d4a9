/-
  What tape's Num, Whole and Text (the bytes) answer.
-/
import Derived.Test.YtgakcpcpfkoaiaaTpMath
import Derived.Test.YtgakcpcpfkoaiaaOvOwn
namespace Go.Proofs.Ytgakcpcpfkoaiaa.Tp
open Go.ChangeShapes Go.WideShapes Go.ChangeAt Go.RowKit Go.Proofs.Ytgakcpcpfkoaiaa.Ov

/-- Num's loop: the bytes l are laid, x is left. -/
def RelN (n : Nat) (w : World) (N L : Value) (wr : World) : Prop :=
  ∃ (x : Nat) (l : List UInt8), N = .int .i64 (x : Int) ∧ x ≤ 9007199254740991 ∧ l ++ nb x = nb n ∧ wr.ownsRow w.heap.size 5 1 L l.length (vals l) ∧ Below w.heap.size w wr
theorem mk8 (w : World) : (Instr.makeSlice 48 (.int .i64 0) (.int .i64 8)).run Try.prog w = .ok (.slice (some ⟨w.heap.size, 0, none⟩) 0 8) (w.alloc (.cells (madeCells #[.int .u8 0] 8) 5)) := by
  obtain ⟨i0, hi, hz0, hz1, hz2⟩ := info_parts info8
  have h := run_make (P := Try.prog) w 48 5 i0 (.int .u8 0) Try.underlying48 hi hz0 .i64 .i64 0 8 (by omega) (by omega) (by rw [hz2]; omega) (by omega)
  simpa [hz1, Value.cells] using h
set_option maxRecDepth 100000 in
set_option maxHeartbeats 1000000 in
theorem num_yes (n : Nat) (w : World) (hn : n ≤ 9007199254740991) :
    Calls Try.prog 20 #[.int .i64 (n : Int)] w fun e w' => e = .returned (.string (tx (nb n))) ∧ Below w.heap.size w w' := by
  obtain ⟨i0, hi0, hz0, hz1, hz2⟩ := info_parts info8
  have HI := Lib.hid hi0; have HZ0 := Lib.hid hz0; have HZ1 := Lib.hid hz1; have HZ2 := Lib.hid hz2
  clear hi0 hz0 hz1 hz2
  have hmk := mk8
  have HL := Lib.hid (nb_len8 hn)
  go_enter Try.func20, Try.ntmps20
  go_wp2_with (fail)
  clear hmk
  go_loopw [0, 3] (fun N L wr => RelN n w N L wr) (fun N _ _ => (intOf N).toNat)
  case atStart => exact ⟨n, [], rfl, hn, rfl, World.ownsRow_made _ _ 8 (Nat.le_refl _) (by unfold maxLen; omega) (by rw [size_madeCells]), (Below.refl _ _).alloc (Nat.le_refl _) _⟩
  case round =>
    obtain ⟨x, l, rfl, hx, hl, ho, hb⟩ := hrel
    have HE := Lib.hid hl; have HO := Lib.hid ho; have HB := Lib.hid hb
    clear hl ho hb
    have hll : l.length < 8 := by
      have h1 := congrArg List.length HE.out
      rw [List.length_append] at h1
      have h2 := List.length_pos_iff.2 (nb_ne x)
      have h3 := HL.out
      omega
    by_cases hlt : x < 128
    · go_wp2_with (at_builtin; refine wpList_append_own _ rfl _ _ 48 rfl w.heap.size 5 i0 (.int .u8 0) 1 1 Try.underlying48 HI.out HZ0.out HZ1.out HZ2.out rfl (by decide) _ _ _ rfl (HO.out.alloc _) ⟨wr.heap.size, 0, none⟩ 1 1 [.int .u8 ((x : Int))] rfl rfl (one_news wr _ _) (one_one rfl) ?c3 ?c4 ?c5 ?_)
      case c3 => unfold maxLen; omega
      case c4 => omega
      case c5 => exact one_base HB.out.size _
      intro v' w1 hown' hgrow _
      have HN : Hid (w1.ownsRow w.heap.size 5 1 v' (l ++ [UInt8.ofNat x]).length (vals (l ++ [UInt8.ofNat x]))) := by
        show World.ownsRow _ _ _ _ _ _ _
        rw [vals_snoc, List.length_append, u8_nat (by omega)]; exact hown'
      have HB1 : Hid (Below w.heap.size w w1) := (HB.out.alloc HB.out.size _).grown hgrow (one_base HB.out.size _) (fun g e => (HO.out.lt g e).1)
      clear hown' hgrow
      have hcv := run_own_text rfl HN.out ⟨w1, Below.refl _ _⟩
      go_wp2
      go_ret
      refine ⟨ret_str ?_, HB1.out⟩
      rw [← HE.out, nb_lt hlt]
    · have hlt' : 128 ≤ x := by omega
      go_wp2_with (at_builtin; refine wpList_append_own _ rfl _ _ 48 rfl w.heap.size 5 i0 (.int .u8 0) 1 1 Try.underlying48 HI.out HZ0.out HZ1.out HZ2.out rfl (by decide) _ _ _ rfl (HO.out.alloc _) ⟨wr.heap.size, 0, none⟩ 1 1 [.int .u8 (((x % 128 + 128 : Nat) : Int))] rfl rfl (one_news wr _ _) (one_one rfl) ?c3 ?c4 ?c5 ?_)
      case c3 => unfold maxLen; omega
      case c4 => omega
      case c5 => exact one_base HB.out.size _
      intro v' w1 hown' hgrow _
      have HN : Hid (w1.ownsRow w.heap.size 5 1 v' (l ++ [UInt8.ofNat (x % 128 + 128)]).length (vals (l ++ [UInt8.ofNat (x % 128 + 128)]))) := by
        show World.ownsRow _ _ _ _ _ _ _
        rw [vals_snoc, List.length_append, u8_nat (by omega)]; exact hown'
      have HB1 : Hid (Below w.heap.size w w1) := (HB.out.alloc HB.out.size _).grown hgrow (one_base HB.out.size _) (fun g e => (HO.out.lt g e).1)
      clear hown' hgrow
      go_wp2
      go_roundw
      case rel => exact ⟨x / 128, _, by go_num, by omega, by rw [← HE.out, nb_ge hlt, List.append_assoc]; rfl, HN.out, HB1.out⟩
      case measure => simp [intOf]; omega
/-- The bytes of any number: nothing of one that may not be. -/
def nv (n : Int) : List UInt8 := if n < 0 ∨ 9007199254740991 < n then [] else nb n.toNat
def wv (n : Int) : List UInt8 := if n < -4503599627370496 ∨ 4503599627370495 < n then [] else nb (wn n)
theorem nv_nat {n : Nat} (h : n ≤ 9007199254740991) : nv (n : Int) = nb n := by
  unfold nv; rw [if_neg (by omega)]; rfl
theorem nv_none {n : Int} : nv n = [] ↔ (n < 0 ∨ 9007199254740991 < n) := by
  unfold nv
  by_cases h : n < 0 ∨ 9007199254740991 < n
  · rw [if_pos h]; simp [h]
  · rw [if_neg h]; simp [h, nb_ne]
set_option maxHeartbeats 400000 in
theorem num_none (n : Int) (w : World) (hn : n < 0 ∨ 9007199254740991 < n) :
    Calls Try.prog 20 #[.int .i64 n] w fun e w' => e = .returned (.string ⟨#[]⟩) ∧ Below w.heap.size w w' := by
  rcases hn with h | h
  · go_enter Try.func20, Try.ntmps20
    go_wp2_with (fail)
    go_ret
    exact ⟨rfl, Below.refl _ _⟩
  · have h0 : ¬ n < 0 := by omega
    go_enter Try.func20, Try.ntmps20
    go_wp2_with (fail)
    go_ret
    exact ⟨rfl, Below.refl _ _⟩
theorem num_any (n : Int) (w : World) :
    Calls Try.prog 20 #[.int .i64 n] w fun e w' => e = .returned (.string (tx (nv n))) ∧ Below w.heap.size w w' := by
  by_cases h : n < 0 ∨ 9007199254740991 < n
  · rw [nv_none.2 h]; exact num_none n w h
  · obtain ⟨m, rfl⟩ : ∃ m : Nat, n = (m : Int) := ⟨n.toNat, by omega⟩
    rw [nv_nat (by omega)]
    exact num_yes m w (by omega)
set_option maxHeartbeats 1000000 in
theorem whole_any (n : Int) (w : World) :
    Calls Try.prog 41 #[.int .i64 n] w fun e w' => e = .returned (.string (tx (wv n))) ∧ Below w.heap.size w w' := by

  by_cases h : n < -4503599627370496 ∨ 4503599627370495 < n
  · have HE : Hid (wv n = []) := if_pos h
    rcases h with h | h
    · go_enter Try.func41, Try.ntmps41
      go_wp2_with (fail)
      go_ret
      exact ⟨by rw [HE.out]; rfl, Below.refl _ _⟩
    · have h0 : ¬ n < -4503599627370496 := by omega
      go_enter Try.func41, Try.ntmps41
      go_wp2_with (fail)
      go_ret
      exact ⟨by rw [HE.out]; rfl, Below.refl _ _⟩
  · have h1 : ¬ n < -4503599627370496 := by omega
    have h2 : ¬ 4503599627370495 < n := by omega
    have HE : Hid (wv n = nb (wn n)) := if_neg h
    have HW := Lib.hid (wn_le (n := n) (by omega) (by omega))
    clear h
    by_cases h3 : n < 0
    · have HN : Hid (-2 * n - 1 = (wn n : Int)) := by show _ = _; unfold wn; rw [if_pos h3]; omega
      go_enter Try.func41, Try.ntmps41
      go_wp2_with (fail)
      rw [HN.out]
      refine (num_yes _ _ HW.out).mono ?_
      rintro e w1 ⟨rfl, hb⟩
      have HB := Lib.hid hb; clear hb
      go_wp2_with (fail)
      go_ret
      exact ⟨by rw [HE.out]; rfl, HB.out⟩
    · have HN : Hid (2 * n = (wn n : Int)) := by show _ = _; unfold wn; rw [if_neg h3]; omega
      go_enter Try.func41, Try.ntmps41
      go_wp2_with (fail)
      rw [HN.out]
      refine (num_yes _ _ HW.out).mono ?_
      rintro e w1 ⟨rfl, hb⟩
      have HB := Lib.hid hb; clear hb
      go_wp2_with (fail)
      go_ret
      exact ⟨by rw [HE.out]; rfl, HB.out⟩
set_option maxHeartbeats 1000000 in
theorem text_any (t : ByteArray) (w : World) (ht : t.size ≤ 281474976710656) :
    Calls Try.prog 21 #[.string t] w fun e w' => e = .returned (.string (tx (nb t.size ++ t.data.toList))) ∧ Below w.heap.size w w' := by
  have HE : Hid (tx (nb t.size) ++ t = tx (nb t.size ++ t.data.toList)) := tx_ext (by rw [list_append, tx_list])
  have hz : (tx (nb t.size)).size ≤ 8 := by rw [tx_size]; exact nb_len8 (by omega)
  go_enter Try.func21, Try.ntmps21
  go_wp2_with (fail)
  refine (num_yes _ _ (by omega)).mono ?_
  rintro e w1 ⟨rfl, hb⟩
  have HB := Lib.hid hb; clear hb
  generalize tx (nb t.size) = u at *
  have hz' : ¬ u.size + t.size > 9223372036854775807 := by omega
  go_wp2_with (fail)
  go_ret
  exact ⟨ret_str HE.out, HB.out⟩
end Go.Proofs.Ytgakcpcpfkoaiaa.Tp

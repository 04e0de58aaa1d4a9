/-
  What tape's Texts answers.
-/
import Derived.Test.YtajdlaihdebmmaaTpNum
import Derived.Test.YtajdlaihdebmmaaOvBld
import Derived.Test.YtajdlaihdebmmaaOvStrs
namespace Go.Proofs.Ytajdlaihdebmmaa.Tp
open Go.ChangeShapes Go.WideShapes Go.ChangeAt Go.RowKit Go.Proofs.Ytajdlaihdebmmaa.Ov

/-- A text's bytes, and those of the first n texts. -/
def tb (s : ByteArray) : List UInt8 := nb s.size ++ s.data.toList
def tbs (t : Nat → ByteArray) : Nat → List UInt8
  | 0 => []
  | n + 1 => tbs t n ++ tb (t n)
theorem tb_len {s : ByteArray} (h : s.size ≤ 67108864) : (tb s).length ≤ 67108872 := by
  unfold tb
  have := nb_len8 (n := s.size) (by omega)
  have e : s.data.toList.length = s.size := by simp
  rw [List.length_append, e]; omega
theorem tbs_len {t : Nat → ByteArray} (n : Nat) (h : ∀ i, i < n → (t i).size ≤ 67108864) : (tbs t n).length ≤ n * 67108872 := by
  induction n with
  | zero => exact Nat.zero_le _
  | succ n ih =>
    have h1 := ih fun i hi => h i (by omega)
    have h2 := tb_len (h n (by omega))
    show (tbs t n ++ tb (t n)).length ≤ _
    rw [List.length_append]; omega
set_option maxHeartbeats 1000000 in
theorem texts_any (p : Option Addr) (n c : Nat) (t : Nat → ByteArray) (w : World) (hn : n ≤ 1048576) (hS : Strs w p n t) (ht : ∀ i, i < n → (t i).size ≤ 67108864) :
    Calls Try.prog 13 #[.slice p n c] w fun e w' => e = .returned (.string (tx (nb n ++ tbs t n))) ∧ Below w.heap.size w w' := by
  have HS := Lib.hid hS; clear hS
  have HL := Lib.hid (fun k => tbs_len (t := t) k)
  have HZ := Lib.hid ht; clear ht
  have hl8 := nb_len8 (n := n) (by omega)
  have hns : (tx (nb n)).size ≤ 8 := by rw [tx_size]; exact hl8
  have HNL : Hid ((tx (nb n)).data.toList = nb n) := tx_list _
  go_enter Try.func13, Try.ntmps13
  go_wp2_with (fail)
  refine (num_yes n _ (by omega)).mono ?_
  rintro e w1 ⟨rfl, hb⟩
  have HD : Hid (Bld w.heap.size w.heap.size [] w1) := (Bld.fresh w).old hb
  have HB1 : Hid (Below w.heap.size w w1) := ((Below.refl _ _).alloc (Nat.le_refl _) _).trans (hb.mono (by simp))
  clear hb
  generalize hN : tx (nb n) = N at *
  have HN := Lib.hid hN; clear hN
  go_wp2_with (fail)
  refine (write_any _ _ _ _ _ HD.out (by simp; omega) HB1.out.size).mono ?_
  rintro e w2 ⟨rfl, hd, hb⟩
  have HD2 : Hid (Bld w.heap.size w.heap.size (nb n ++ tbs t 0) w2) := by
    refine hd.cast ?_
    rw [HNL.out]; simp [tbs]
  have HB2 : Hid (Below w.heap.size w w2) := HB1.out.trans hb
  clear hd hb
  go_wp2_with (fail)
  go_loopw [5, 12] (fun _ i wr => ∃ k : Nat, k ≤ n ∧ i = .int .i64 (k : Int) ∧ Bld w.heap.size w.heap.size (nb n ++ tbs t k) wr ∧ Below w.heap.size w wr) (fun _ i _ => n - (intOf i).toNat)
  case atStart => exact ⟨0, by omega, rfl, HD2.out, HB2.out⟩
  case round =>
    obtain ⟨k, hk, rfl, hd, hb⟩ := hrel
    have HDk := Lib.hid hd; have HBk := Lib.hid hb; clear hd hb
    by_cases hlt : k < n
    · obtain ⟨P, O, hp, hc⟩ := HS.out (by omega)
      have ck : wr.cell? ⟨P, O + k, none⟩ = some (.string (t k)) := by rw [HBk.out.cell (p := ⟨P, O + k, none⟩) (block_lt_of_cell (hc k hlt))]; exact hc k hlt
      clear hc
      subst hp
      have hsz := HZ.out k hlt
      have hlk := HL.out k (fun i hi => HZ.out i (by omega))
      have h8 := nb_len8 (n := (t k).size) (by omega)
      go_wp2_with (fail)
      refine (num_yes (t k).size _ (by omega)).mono ?_
      rintro e w3 ⟨rfl, hb⟩
      have HD3 : Hid (Bld w.heap.size w.heap.size (nb n ++ tbs t k) w3) := HDk.out.old hb
      have HB3 : Hid (Below w.heap.size w w3) := Below.trans HBk.out (hb.mono HBk.out.size)
      clear hb
      go_wp2_with (fail)
      refine (write_any _ _ _ _ _ HD3.out (by rw [tx_size, List.length_append]; omega) HB3.out.size).mono ?_
      rintro e w4 ⟨rfl, hd, hb⟩
      have HD4 := Lib.hid hd
      have HB4 : Hid (Below w.heap.size w w4) := HB3.out.trans hb
      clear hd hb
      go_wp2_with (fail)
      refine (write_any _ _ _ _ _ HD4.out (by rw [List.length_append, List.length_append, tx_list]; omega) HB4.out.size).mono ?_
      rintro e w5 ⟨rfl, hd, hb⟩
      have HD5 : Hid (Bld w.heap.size w.heap.size (nb n ++ tbs t (k + 1)) w5) := by
        refine hd.cast ?_
        rw [tx_list]
        show _ = nb n ++ (tbs t k ++ (nb (t k).size ++ (t k).data.toList))
        simp only [List.append_assoc]
      have HB5 : Hid (Below w.heap.size w w5) := HB4.out.trans hb
      clear hd hb
      go_wp2_with (fail)
      go_roundw
      case rel => exact ⟨k + 1, by omega, by go_num, HD5.out, HB5.out⟩
      case measure => simp [intOf]; omega
    · obtain rfl : k = n := by omega
      go_wp2_with (fail)
      refine (string_any _ _ _ _ HDk.out HBk.out.size).mono ?_
      rintro e w3 ⟨rfl, hb⟩
      have HB3 : Hid (Below w.heap.size w w3) := HBk.out.trans hb
      clear hb
      go_wp2_with (fail)
      go_ret
      exact ⟨rfl, HB3.out⟩
end Go.Proofs.Ytajdlaihdebmmaa.Tp

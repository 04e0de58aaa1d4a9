/-
  How a text is written between quotes.
-/
import Derived.Test.YtpickeicchmhnaaDoorVaSmall
import Derived.Test.YtpickeicchmhnaaDoorOvBld
namespace Go.Proofs.YtpickeicchmhnaaDoor.Va
open Go.ChangeShapes Go.WideShapes Go.ChangeAt Go.RowKit Go.Proofs.YtpickeicchmhnaaDoor.Ov

/-- The digits of sixteen. -/
def six : ByteArray := ⟨#[48, 49, 50, 51, 52, 53, 54, 55, 56, 57, 97, 98, 99, 100, 101, 102]⟩
theorem six_at : ∀ i : Fin 16, six.data[i.val]? = some (hx i.val) := by decide
theorem run_six {z : Int} (n : Nat) (h : n < 16) (hz : z = (n : Int)) (w : World) : (Instr.index 9 (.string ⟨#[48, 49, 50, 51, 52, 53, 54, 55, 56, 57, 97, 98, 99, 100, 101, 102]⟩) (.int .u8 z)).run Tryd.prog w = .ok (.int .u8 ((hx n).toNat : Int)) w := by
  subst hz
  have hs : (n : Int) < ((six.size : Nat) : Int) := by show (n : Int) < 16; omega
  refine (run_index_string w 9 six .u8 (n : Int) Tryd.underlying9).trans ?_
  rw [dif_pos ⟨by omega, hs⟩]
  have e : six[((n : Int)).toNat]'(by omega) = hx n := by
    have := six_at ⟨n, h⟩
    rw [Array.getElem?_eq_some_iff] at this
    obtain ⟨hlt, he⟩ := this
    rw [← he]
    simp only [Int.toNat_natCast]
    rfl
  rw [e]
theorem esc_take (s : ByteArray) (k : Nat) (h : k < s.size) : esc (s.data.toList.take (k + 1)) = esc (s.data.toList.take k) ++ e1 s[k] := by
  rw [take_snoc s k h, esc_append]; unfold esc; simp
set_option maxRecDepth 100000 in
set_option maxHeartbeats 1000000 in
theorem writeText_any (s : ByteArray) (w : World) (hs : s.size ≤ 4096) :
    Calls Tryd.prog 29 #[.string s] w (Gives (.string (tx (34 :: (esc s.data.toList ++ [34])))) w) := by
  go_enter Tryd.func29, Tryd.ntmps29
  go_wp2_with (fail)
  have D0 := Lib.hid (Bld.fresh w)
  have HB0 := Lib.hid (box1 w (.cells #[.pointer none, .slice none 0 0] 64))
  generalize w.alloc (.cells #[.pointer none, .slice none 0 0] 64) = w0 at *
  refine (byte_any w.heap.size w.heap.size [] 34 _ D0.out (by simp) HB0.out.size).mono ?_
  rintro e w1 ⟨rfl, hd, hb⟩
  have D1 := Lib.hid hd
  have HB1 := Lib.hid (HB0.out.trans hb)
  clear hd hb D0 HB0
  go_wp2_with (fail)
  go_loopw [8] (fun i wr => ∃ k : Nat, k ≤ s.size ∧ i = .int .i64 (k : Int) ∧ Bld w.heap.size w.heap.size (34 :: esc (s.data.toList.take k)) wr ∧ Below w.heap.size w wr) (fun i _ => s.size - (intOf i).toNat)
  case atStart => exact ⟨0, Nat.zero_le _, rfl, D1.out, HB1.out⟩
  case round =>
    obtain ⟨k, hk, rfl, hd, hb⟩ := hrel
    have D1 := Lib.hid hd; have HB1 := Lib.hid hb; clear hd hb
    have hlen : (esc (s.data.toList.take k)).length ≤ 12288 := by
      have h1 := esc_le (s.data.toList.take k)
      have h2 : (s.data.toList.take k).length ≤ k := List.length_take_le _ _
      omega
    by_cases hlt : k < s.size
    · have HS := Lib.hid (esc_take s k hlt)
      obtain ⟨c, hc⟩ : ∃ c : UInt8, s[k] = c := ⟨_, rfl⟩
      rw [hc] at HS
      have HP := Lib.hid (plain_any c)
      have hcl := c.toNat_lt
      by_cases hp : pl c = true
      · have HE : Hid (e1 c = [c]) := if_pos hp
        rw [hp] at HP; clear hp
        generalize esc (s.data.toList.take k) = l at *
        go_wp2_with (fail)
        refine (HP.out _).mono ?_
        rintro e w' ⟨rfl, rfl⟩
        go_wp2_with (fail)
        refine (byte_any w.heap.size w.heap.size _ c _ D1.out (by simp; omega) HB1.out.size).mono ?_
        rintro e w2 ⟨rfl, hd, hb⟩
        have D2 := Lib.hid hd
        have HB2 := Lib.hid (HB1.out.trans hb)
        clear hd hb D1 HB1
        go_wp2_with (fail)
        go_roundw
        case rel => exact ⟨k + 1, by omega, by go_num, D2.out.cast (by rw [HS.out, HE.out]; rfl), HB2.out⟩
        case measure => simp [intOf]; omega
      · have hp' : pl c = false := by simpa using hp
        have HE : Hid (e1 c = [92, hx (c.toNat / 16), hx (c.toNat % 16)]) := if_neg hp
        rw [hp'] at HP; clear hp hp'
        have hx1 := run_six (z := (c.toNat : Int) / 16) (c.toNat / 16) (by omega) (by omega)
        have hx2 := run_six (z := (c.toNat : Int) % 16) (c.toNat % 16) (by omega) (by omega)
        generalize esc (s.data.toList.take k) = l at *
        go_wp2_with (fail)
        refine (HP.out _).mono ?_
        rintro e w' ⟨rfl, rfl⟩
        go_wp2_with (fail)
        refine (byte_any w.heap.size w.heap.size _ 92 _ D1.out (by simp; omega) HB1.out.size).mono ?_
        rintro e w2 ⟨rfl, hd, hb⟩
        have D2 := Lib.hid hd
        have HB2 := Lib.hid (HB1.out.trans hb)
        clear hd hb D1 HB1
        go_wp2_with (fail)
        refine (byte_any w.heap.size w.heap.size _ (hx (c.toNat / 16)) _ D2.out (by simp; omega) HB2.out.size).mono ?_
        rintro e w3 ⟨rfl, hd, hb⟩
        have D3 := Lib.hid hd
        have HB3 := Lib.hid (HB2.out.trans hb)
        clear hd hb D2 HB2
        go_wp2_with (fail)
        refine (byte_any w.heap.size w.heap.size _ (hx (c.toNat % 16)) _ D3.out (by simp; omega) HB3.out.size).mono ?_
        rintro e w4 ⟨rfl, hd, hb⟩
        have D4 := Lib.hid hd
        have HB4 := Lib.hid (HB3.out.trans hb)
        clear hd hb D3 HB3
        go_wp2_with (fail)
        go_roundw
        case rel => exact ⟨k + 1, by omega, by go_num, D4.out.cast (by rw [HS.out, HE.out]; simp), HB4.out⟩
        case measure => simp [intOf]; omega
    · have HT : Hid (s.data.toList.take k = s.data.toList) := List.take_of_length_le (by simp; omega)
      rw [HT.out] at D1 hlen
      generalize esc s.data.toList = l at *
      go_wp2_with (fail)
      refine (byte_any w.heap.size w.heap.size _ 34 _ D1.out (by simp; omega) HB1.out.size).mono ?_
      rintro e w2 ⟨rfl, hd, hb⟩
      have D2 := Lib.hid hd
      have HB2 := Lib.hid (HB1.out.trans hb)
      clear hd hb D1 HB1
      go_wp2_with (fail)
      refine (string_any _ _ _ _ D2.out HB2.out.size).mono ?_
      rintro e w3 ⟨rfl, hb⟩
      have HB3 := Lib.hid (HB2.out.trans hb)
      clear hb
      go_wp2_with (fail)
      go_ret
      exact ⟨rfl, HB3.out⟩
end Go.Proofs.YtpickeicchmhnaaDoor.Va

/-
  A tape on which something was laid: what was laid is read.
-/
import Derived.Test.YtpickeicchmhnaaDoorTpTape
namespace Go.Proofs.YtpickeicchmhnaaDoor.Tp
open Go.ChangeShapes Go.WideShapes Go.ChangeAt Go.RowKit Go.Proofs.YtpickeicchmhnaaDoor.Ov

theorem cc_laid (x : Nat) (t : List UInt8) (most : Int) (h : x ≤ 9007199254740991) (hm : (x : Int) ≤ most) : cc most (nb x ++ t) = (x, t, 0) := cc_ok (cn_laid x t h) (by omega)
theorem num_laid (b n : Nat) (t : List UInt8) (w : World) (h : IsT w b (nb n ++ t)) (hn : n ≤ 9007199254740991) (hl : (nb n ++ t).length ≤ 281474976710656) :
    Calls Tryd.prog 49 #[.pointer (some ⟨b, 0, none⟩)] w (LeftT b (.tuple #[.int .i64 (n : Int), .int .i64 0]) t w) := num_ok b _ w h hl (cn_laid n t hn)
theorem whole_laid (b : Nat) (m : Int) (t : List UInt8) (w : World) (h : IsT w b (nb (wn m) ++ t)) (h1 : -4503599627370496 ≤ m) (h2 : m ≤ 4503599627370495) (hl : (nb (wn m) ++ t).length ≤ 281474976710656) :
    Calls Tryd.prog 64 #[.pointer (some ⟨b, 0, none⟩)] w (LeftT b (.tuple #[.int .i64 m, .int .i64 0]) t w) := by
  have := whole_ok b _ w h hl (cn_laid (wn m) t (wn_le h1 h2))
  rwa [sg_wn] at this
theorem count_laid (b n : Nat) (t : List UInt8) (most : Int) (w : World) (h : IsT w b (nb n ++ t)) (hn : n ≤ 9007199254740991) (hm : (n : Int) ≤ most) (hl : (nb n ++ t).length ≤ 281474976710656) :
    Calls Tryd.prog 63 #[.pointer (some ⟨b, 0, none⟩), .int .i64 most] w (LeftT b (.tuple #[.int .i64 (n : Int), .int .i64 0]) t w) := count_ok b _ most w h hl (cc_laid n t most hn hm)
theorem text_laid (b : Nat) (s : ByteArray) (t : List UInt8) (most : Int) (w : World) (h : IsT w b (nb s.size ++ (s.data.toList ++ t))) (hn : s.size ≤ 9007199254740991) (hm : (s.size : Int) ≤ most) (hl : (nb s.size ++ (s.data.toList ++ t)).length ≤ 281474976710656) :
    Calls Tryd.prog 51 #[.pointer (some ⟨b, 0, none⟩), .int .i64 most] w (LeftT b (.tuple #[.string s, .int .i64 0]) t w) := by
  have e : s.size = s.data.toList.length := by simp
  have := text_ok b _ most w h hl (cc_laid s.size (s.data.toList ++ t) most hn hm) (by rw [List.length_append, ← e]; omega)
  rwa [e, List.take_left, List.drop_left, tx_of] at this
theorem left_at (b : Nat) (l : List UInt8) (z : Nat) (w : World) (h : IsT w b l) (hz : l.length = z) :
    Calls Tryd.prog 14 #[.pointer (some ⟨b, 0, none⟩)] w fun e w' => e = .returned (.int .i64 (z : Int)) ∧ w = w' := by
  subst hz; exact left_any b l w h
end Go.Proofs.YtpickeicchmhnaaDoor.Tp

/-
  What cutDigits answers.
-/
import Derived.Test.YtgakcpcpfkoaiaaVaSmall
import Derived.Test.YtgakcpcpfkoaiaaOvJump
namespace Go.Proofs.Ytgakcpcpfkoaiaa.Va
open Go.ChangeShapes Go.WideShapes Go.ChangeAt Go.RowKit Go.Proofs.Ytgakcpcpfkoaiaa.Ov Go.Proofs.Ytgakcpcpfkoaiaa.Tp

def JD (s : ByteArray) (w : World) (a' : Act) (w' : World) : Prop := ∃ (k n : Nat) (u7 u8 u9 u10 u11 u12 u13 u14 u15 u16 u17 u18 u19 u20 u21 u22 u23 u24 u25 u26 u27 u28 u29 u30 u31 u32 u33 u34 u35 u36 u37 u38 u39 u40 u41 u42 : Value),
  k ≤ s.size ∧ k ≤ tw s.data.toList ∧ n = sat (s.data.toList.take k) ∧ w' = w ∧
  a' = { tmps := #[.string s, undef, .int .i64 0, .int .i64 0, .int .i64 0, .int .i64 (n : Int), .int .i64 (k : Int), u7, u8, u9, u10, u11, u12, u13, u14, u15, u16, u17, u18, u19, u20, u21, u22, u23, u24, u25, u26, u27, u28, u29, u30, u31, u32, u33, u34, u35, u36, u37, u38, u39, u40, u41, u42], defers := [] }
def muD (s : ByteArray) (a : Act) (_ : World) : Nat := s.size - (intOf (a.tmps.getD 6 undef)).toNat
def cdv (r : Nat × Nat × Nat) : Value := .tuple #[.int .i64 (r.1 : Int), .int .i64 (r.2.1 : Int), .int .i64 (r.2.2 : Int)]
theorem sat_le (l : List UInt8) : sat l ≤ 9007199254740993 := by rw [sat_dv]; omega
theorem sat_take {s : ByteArray} {k : Nat} (h : k < s.size) : sat (s.data.toList.take (k + 1)) = min (10 * sat (s.data.toList.take k) + (s[k].toNat - 48)) 9007199254740993 := by
  rw [take_snoc s k h, sat_snoc]
theorem head_at {s : ByteArray} (h : 0 < s.size) : s.data.toList.head? = some s[0] := by
  have hl : 0 < s.data.toList.length := by simpa using h
  rw [List.head?_eq_getElem?, List.getElem?_eq_getElem hl]; rfl
theorem empty_of {s : ByteArray} (h : s.size = 0) : s.toList = [] := by
  rw [ByteArray.toList_eq]; exact List.eq_nil_of_length_eq_zero (by simpa using h)
theorem full_of {s : ByteArray} (h : s.size ≠ 0) : s.toList ≠ [] := by
  rw [ByteArray.toList_eq]; intro e
  have h1 := congrArg List.length e
  have h2 : s.data.toList.length = s.size := by simp
  rw [h2] at h1; exact h h1
/-- The end of cutDigits, behind k digits. -/
theorem cd_end {s : ByteArray} {k : Nat} (hk : tw s.data.toList = k) (hs : s.size ≠ 0) : cd s.data.toList = if k = 0 ∨ (1 < k ∧ (s[0]'(by omega)).toNat = 48) then (0, 0, 6) else (sat (s.data.toList.take k), k, 0) := by
  unfold cd
  rw [if_neg (by rw [← ByteArray.toList_eq]; exact full_of hs), hk, head_at (by omega)]
  have e : (some (s[0]'(by omega)) = some (48 : UInt8)) ↔ (s[0]'(by omega)).toNat = 48 := by
    constructor
    · intro h; rw [Option.some.inj h]; rfl
    · intro h; rw [UInt8.toNat_inj.1 (show (s[0]'(by omega)).toNat = (48 : UInt8).toNat from h)]
  simp only [e]
end Go.Proofs.Ytgakcpcpfkoaiaa.Va

/-
  What each call on a field answers, of bytes as plain numbers; the world behind gf.New.
-/
import Derived.Test.YtkgfkchdbbeljaaGfCalls
namespace Go.Proofs.Ytkgfkchdbbeljaa.Gf
open Go.ChangeShapes Go.WideShapes Go.ChangeAt Go.RowKit

/-- The world behind gf.New, up to draws. -/
def fresh (w : World) : World := w.alloc (.cells (T 255) 77)
theorem fresh_F (w : World) : IsF (fresh w) w.heap.size := IsF.new w
theorem fresh_old {w : World} {b : Nat} (h : IsF w b) (hb : b < w.heap.size) : IsF (fresh w) b := h.alloc hb _
theorem new_fresh (w : World) : Calls Try.prog 23 #[] w fun e w' => e = .returned (.pointer (some ⟨w.heap.size, 0, none⟩)) ∧ w' = fresh w := new_any w
theorem fresh_grown (w : World) : Grown w (fresh w) := (Grown.refl w).alloc _ _
theorem grown_drewN {w w' : World} (h : Grown w w') (n : Nat) : Grown w (w'.drewN n) := h
theorem grown_trans {a b c : World} (h : Grown a b) (k : Grown b c) : Grown a c :=
  ⟨World.keptBut_trans h.1 k.1, fun x => (k.2.1 x).trans (h.2.1 x), Nat.le_trans h.2.2 k.2.2⟩
theorem u8_bd {n : Int} (h : (Lit.int .u8 n).wf = true) : 0 ≤ n ∧ n ≤ 255 := by
  simpa [Lit.wf, IntKind.min, IntKind.max, IntKind.bits, IntKind.signed] using h
theorem u8_nat {n : Int} (h : (Lit.int .u8 n).wf = true) : ∃ k : Nat, n = (k : Int) ∧ k < 256 := by
  have := u8_bd h
  exact ⟨n.toNat, by omega, by omega⟩
theorem mulN (b x y : Nat) (x1 : x < 256) (y1 : y < 256) (w : World) (hF : IsF w b) :
    Calls Try.prog 50 #[.pointer (some ⟨b, 0, none⟩), .int .u8 (x : Int), .int .u8 (y : Int)] w fun e w' => e = .returned (.int .u8 (gm x y : Nat)) ∧ ∃ m, w' = w.drewN m := by
  simpa only [Int.toNat_natCast] using mul_any b x y (by omega) (by omega) (by omega) (by omega) w hF
theorem addN (x y : Nat) (x1 : x < 256) (y1 : y < 256) (w : World) :
    Calls Try.prog 49 #[.int .u8 (x : Int), .int .u8 (y : Int)] w fun e w' => e = .returned (.int .u8 (x ^^^ y : Nat)) ∧ w' = w := by
  simpa only [Int.toNat_natCast] using add_any x y (by omega) (by omega) (by omega) (by omega) w
theorem divN (b x y : Nat) (x1 : x < 256) (y0 : y ≠ 0) (y1 : y < 256) (w : World) (hF : IsF w b) :
    Calls Try.prog 51 #[.pointer (some ⟨b, 0, none⟩), .int .u8 (x : Int), .int .u8 (y : Int)] w fun e w' => e = .returned (.tuple #[.int .u8 (gd x y : Nat), .bool true]) ∧ ∃ m, w' = w.drewN m := by
  simpa only [Int.toNat_natCast] using div_some b x y (by omega) (by omega) (by omega) (by omega) w hF
theorem divZ (b x y : Nat) (y0 : y = 0) (w : World) :
    Calls Try.prog 51 #[.pointer (some ⟨b, 0, none⟩), .int .u8 (x : Int), .int .u8 (y : Int)] w fun e w' => e = .returned (.tuple #[.int .u8 0, .bool false]) ∧ w' = w := by
  subst y0; exact div_zero b x w
theorem powN (b x : Nat) (n : Int) (x1 : x < 256) (w : World) (hF : IsF w b) :
    Calls Try.prog 33 #[.pointer (some ⟨b, 0, none⟩), .int .u8 (x : Int), .int .i64 n] w fun e w' => e = .returned (.int .u8 (gp x n : Nat)) ∧ ∃ m, w' = w.drewN m := by
  simpa only [Int.toNat_natCast] using pow_any b x n (by omega) (by omega) w hF
theorem gd_lt (a b : Nat) : gd a b < 256 := by
  unfold gd; split
  · omega
  · have := pw_bd ((lg a + 255 - lg b) % 255); omega
end Go.Proofs.Ytkgfkchdbbeljaa.Gf

/-
  The document's examples for layer 10.
-/
import Derived.Test.YtimllihegnokeaaJoFold2
namespace Go.Proofs.Ytimllihegnokeaa.Jo
open Go.ChangeShapes Go.WideShapes Go.ChangeAt Go.RowKit Go.Proofs.Ytimllihegnokeaa.Ov Go.Proofs.Ytimllihegnokeaa.Ga Go.Proofs.Ytimllihegnokeaa.Va

theorem made5 (w : World) (t : TypeId) (x0 x1 x2 x3 x4 : Value) : Blk (w.alloc (.cells #[x0, x1, x2, x3, x4] t)) w.heap.size [x0, x1, x2, x3, x4] := Blk.made w t [x0, x1, x2, x3, x4] rfl
theorem below_box {w0 w : World} (h : Below w0.heap.size w0 w) (o : Obj) : Below w0.heap.size w0 (w.alloc o) := h.alloc h.size o
theorem made5' (w : World) (o : Obj) (t : TypeId) (x0 x1 x2 x3 x4 : Value) : Blk ((w.alloc o).alloc (.cells #[x0, x1, x2, x3, x4] t)) (w.heap.size + 1) [x0, x1, x2, x3, x4] := Blk.made _ t [x0, x1, x2, x3, x4] (World.size_alloc _ _)
theorem made5'' (w : World) (o o2 : Obj) (t : TypeId) (x0 x1 x2 x3 x4 : Value) : Blk (((w.alloc o).alloc o2).alloc (.cells #[x0, x1, x2, x3, x4] t)) (w.heap.size + 1 + 1) [x0, x1, x2, x3, x4] := Blk.made _ t [x0, x1, x2, x3, x4] (by rw [World.size_alloc, World.size_alloc])
theorem set5 {w : World} {b : Nat} {x0 x1 x2 x3 x4 : Value} (h : Blk w b [x0, x1, x2, x3, x4]) (a0 a1 a2 a3 a4 : Value) : Blk (((((w.setCell ⟨b, 0, none⟩ a0).setCell ⟨b, 1, none⟩ a1).setCell ⟨b, 2, none⟩ a2).setCell ⟨b, 3, none⟩ a3).setCell ⟨b, 4, none⟩ a4) b [a0, a1, a2, a3, a4] := ((((h.set 0 a0).set 1 a1).set 2 a2).set 3 a3).set 4 a4
theorem oth5 {w : World} {b c : Nat} {ys : List Value} (h : Blk w c ys) (hc : b ≠ c) (a0 a1 a2 a3 a4 : Value) : Blk (((((w.setCell ⟨b, 0, none⟩ a0).setCell ⟨b, 1, none⟩ a1).setCell ⟨b, 2, none⟩ a2).setCell ⟨b, 3, none⟩ a3).setCell ⟨b, 4, none⟩ a4) c ys := ((((h.put hc 0 a0).put hc 1 a1).put hc 2 a2).put hc 3 a3).put hc 4 a4
theorem bel5 {W w : World} {lo b : Nat} (h : Below lo W w) (hlo : lo ≤ b) (a0 a1 a2 a3 a4 : Value) : Below lo W (((((w.setCell ⟨b, 0, none⟩ a0).setCell ⟨b, 1, none⟩ a1).setCell ⟨b, 2, none⟩ a2).setCell ⟨b, 3, none⟩ a3).setCell ⟨b, 4, none⟩ a4) := ((((h.setCell hlo _).setCell hlo _).setCell hlo _).setCell hlo _).setCell hlo _
theorem sum_eg (w : World) : Calls Try.prog 5 #[.string ⟨#[115, 117, 109]⟩, .agg #[.int .i64 0, .int .i64 9007199254740992, .string ⟨#[]⟩, .int .i64 0, .int .i64 0], .agg #[.int .i64 0, .int .i64 0, .string ⟨#[]⟩, .int .i64 0, .int .i64 0]] w
    (Gives (.tuple #[.agg #[.int .i64 0, .int .i64 (-9007199254740992), .string ⟨#[]⟩, .int .i64 0, .int .i64 0], .int .i64 0]) w) := by
  have e : fo wSum ⟨0, 9007199254740992, [], 0, 0⟩ ⟨0, 0, [], 0, 0⟩ = (⟨0, -9007199254740992, [], 0, 0⟩, 0) := by decide +kernel
  have h := fold_any ⟨#[115, 117, 109]⟩ 0 9007199254740992 0 0 0 0 0 0 ⟨#[]⟩ ⟨#[]⟩ w
  change Calls _ _ _ _ (Gives (.tuple #[.agg #[.int .i64 (fo wSum ⟨0, 9007199254740992, [], 0, 0⟩ ⟨0, 0, [], 0, 0⟩).1.k, .int .i64 (fo wSum ⟨0, 9007199254740992, [], 0, 0⟩ ⟨0, 0, [], 0, 0⟩).1.n, .string (tx (fo wSum ⟨0, 9007199254740992, [], 0, 0⟩ ⟨0, 0, [], 0, 0⟩).1.s), .int .i64 (fo wSum ⟨0, 9007199254740992, [], 0, 0⟩ ⟨0, 0, [], 0, 0⟩).1.x, .int .i64 (fo wSum ⟨0, 9007199254740992, [], 0, 0⟩ ⟨0, 0, [], 0, 0⟩).1.y], .int .i64 (fo wSum ⟨0, 9007199254740992, [], 0, 0⟩ ⟨0, 0, [], 0, 0⟩).2]) w) at h
  rw [e] at h
  exact h
theorem gcd_eg (w : World) : Calls Try.prog 5 #[.string ⟨#[103, 99, 100]⟩, .agg #[.int .i64 0, .int .i64 (-4), .string ⟨#[]⟩, .int .i64 0, .int .i64 0], .agg #[.int .i64 0, .int .i64 6, .string ⟨#[]⟩, .int .i64 0, .int .i64 0]] w
    (Gives (.tuple #[.agg #[.int .i64 0, .int .i64 2, .string ⟨#[]⟩, .int .i64 0, .int .i64 0], .int .i64 0]) w) := by
  have e : fo wGcd ⟨0, -4, [], 0, 0⟩ ⟨0, 6, [], 0, 0⟩ = (⟨0, 2, [], 0, 0⟩, 0) := by decide +kernel
  have h := fold_any ⟨#[103, 99, 100]⟩ 0 (-4) 0 0 0 6 0 0 ⟨#[]⟩ ⟨#[]⟩ w
  change Calls _ _ _ _ (Gives (.tuple #[.agg #[.int .i64 (fo wGcd ⟨0, -4, [], 0, 0⟩ ⟨0, 6, [], 0, 0⟩).1.k, .int .i64 (fo wGcd ⟨0, -4, [], 0, 0⟩ ⟨0, 6, [], 0, 0⟩).1.n, .string (tx (fo wGcd ⟨0, -4, [], 0, 0⟩ ⟨0, 6, [], 0, 0⟩).1.s), .int .i64 (fo wGcd ⟨0, -4, [], 0, 0⟩ ⟨0, 6, [], 0, 0⟩).1.x, .int .i64 (fo wGcd ⟨0, -4, [], 0, 0⟩ ⟨0, 6, [], 0, 0⟩).1.y], .int .i64 (fo wGcd ⟨0, -4, [], 0, 0⟩ ⟨0, 6, [], 0, 0⟩).2]) w) at h
  rw [e] at h
  exact h
set_option maxHeartbeats 1000000 in
theorem awake_any (w : World) : Calls Try.prog 4 #[] w (Gives (.bool true) w) := by
  have HB := Lib.hid (Below.refl w.heap.size w)
  go_enter Try.func4, Try.ntmps4
  go_wp2_with (fail)
  refine (sum_eg _).mono ?_
  rintro e w1 ⟨rfl, hb⟩
  replace HB := Lib.hid (Below.next HB.out hb)
  clear hb
  have Ha := Lib.hid (made5 w1 25 (.int .i64 0) (.int .i64 (-9007199254740992)) (.string ⟨#[]⟩) (.int .i64 0) (.int .i64 0))
  replace HB := Lib.hid (below_box HB.out (.cells #[.int .i64 0, .int .i64 (-9007199254740992), .string ⟨#[]⟩, .int .i64 0, .int .i64 0] 25))
  go_wp2_with (fail)
  generalize w1.alloc (.cells #[.int .i64 0, .int .i64 (-9007199254740992), .string ⟨#[]⟩, .int .i64 0, .int .i64 0] 25) = v1 at *
  refine (gcd_eg _).mono ?_
  rintro e w2 ⟨rfl, hb⟩
  replace Ha := Lib.hid (Ha.out.next hb)
  replace HB := Lib.hid (Below.next HB.out hb)
  clear hb
  have Hb := Lib.hid (made5 w2 25 (.int .i64 0) (.int .i64 2) (.string ⟨#[]⟩) (.int .i64 0) (.int .i64 0))
  have lab := Ha.out.lt
  replace Ha := Lib.hid (Ha.out.old (.cells #[.int .i64 0, .int .i64 2, .string ⟨#[]⟩, .int .i64 0, .int .i64 0] 25))
  replace HB := Lib.hid (below_box HB.out (.cells #[.int .i64 0, .int .i64 2, .string ⟨#[]⟩, .int .i64 0, .int .i64 0] 25))
  obtain ⟨ca0, ca1, ca2, ca3, ca4⟩ := five Ha.out
  obtain ⟨cb0, cb1, cb2, cb3, cb4⟩ := five Hb.out
  go_wp2_with (fail)
  clear ca0 ca1 ca2 ca3 ca4 cb0 cb1 cb2 cb3 cb4
  go_ret
  exact ⟨rfl, HB.out⟩
end Go.Proofs.Ytimllihegnokeaa.Jo

/-
  A text of this claim: VaRight.
-/
import Derived.Test.YtamhfjlffacakaaQ1
namespace Go.Proofs.Ytamhfjlffacakaa.Va
open Go.ChangeShapes Go.WideShapes Go.ChangeAt Go.RowKit Ov Ga
def ve (a b : Va) : Bool := decide (a = b)
set_option maxRecDepth 100000 in
set_option maxHeartbeats 1000000 in
theorem eql_val (k n x y k' n' x' y' : Int) (s s' : ByteArray) (w : World) : (binOp .eql 33 (.agg #[.int .i64 k, .int .i64 n, .string s, .int .i64 x, .int .i64 y]) (.agg #[.int .i64 k', .int .i64 n', .string s', .int .i64 x', .int .i64 y'])).run Try.prog w =
 .ok (.bool (ve ⟨k, n, s.data.toList, x, y⟩ ⟨k', n', s'.data.toList, x', y'⟩)) w := by
 have e : ve ⟨k, n, s.data.toList, x, y⟩ ⟨k', n', s'.data.toList, x', y'⟩ = ((k == k') && ((n == n') && ((s.toList == s'.toList) && ((x == x') && (y == y'))))) := by
  rw [ByteArray.toList_eq, ByteArray.toList_eq]; unfold ve
  rw [Bool.eq_iff_iff]; simp
 rw [e]; clear e
 have u := Try.underlying3
 have hS : Try.prog.underlying 33 = some (.struct (Try.prog.fieldsOf 33)) := by kernel_rfl
 have hS2 : Try.prog.underlying 31 = some (.struct (Try.prog.fieldsOf 31)) := by kernel_rfl
 have hp : Try.prog.stoodInHeld 33 = false := by kernel_rfl
 have hp2 : Try.prog.stoodInHeld 31 = false := by kernel_rfl
 have hq := fun d xs ys w => run_equalIn_struct (P := Try.prog) w d 31 xs ys hS2 hp2
 rw [run_eql_struct, show (10000 : Nat) = 9999 + 1 from rfl, run_equalIn_struct w 9999 33 _ _ hS hp]
 clear hS hS2 hp hp2
 simp only [Program.fieldsOf, Try.underlying33, Try.underlying31] at hq ⊢
 go_simp
 clear hq u
 by_cases h1 : k = k' <;> by_cases h2 : n = n' <;> by_cases h3 : s.toList = s'.toList <;> by_cases h4 : x = x' <;> by_cases h5 : y = y' <;> simp [h1, h2, h3, h4, h5]
theorem rt_int (n x y : Int) (s : List UInt8) : rt ⟨0, n, s, x, y⟩ = (ve ⟨0, n, s, x, y⟩ ⟨0, n, [], 0, 0⟩ && (decide (-9007199254740992 ≤ n) && decide (n ≤ 9007199254740992))) := by
 rw [Bool.eq_iff_iff]; unfold rt ve
 simp only [Bool.and_eq_true, decide_eq_true_eq, Va.mk.injEq]
 constructor
 · rintro (⟨_, h1, h2, h3, h4, h5⟩ | ⟨h, _⟩ | ⟨h, _⟩)
   · exact ⟨⟨trivial, trivial, h3, h4, h5⟩, h1, h2⟩
   · omega
   · omega
 · rintro ⟨⟨_, _, h3, h4, h5⟩, h1, h2⟩
   exact .inl ⟨trivial, h1, h2, h3, h4, h5⟩
theorem rt_text (n x y : Int) (s : List UInt8) : rt ⟨1, n, s, x, y⟩ = (ve ⟨1, n, s, x, y⟩ ⟨1, 0, s, 0, 0⟩ && decide (s.length ≤ 4096)) := by
 rw [Bool.eq_iff_iff]; unfold rt ve
 simp only [Bool.and_eq_true, decide_eq_true_eq, Va.mk.injEq]
 constructor
 · rintro (⟨h, _⟩ | ⟨_, h1, h2, h3, h4⟩ | ⟨h, _⟩)
   · omega
   · exact ⟨⟨trivial, h1, trivial, h3, h4⟩, h2⟩
   · omega
 · rintro ⟨⟨_, h1, _, h3, h4⟩, h2⟩
   exact .inr (.inl ⟨trivial, h1, h2, h3, h4⟩)
theorem rt_point (n x y : Int) (s : List UInt8) : rt ⟨2, n, s, x, y⟩ = (ve ⟨2, n, s, x, y⟩ ⟨2, 0, [], x, y⟩ && rb ⟨x, y⟩) := by
 rw [Bool.eq_iff_iff]; unfold rt ve
 simp only [Bool.and_eq_true, decide_eq_true_eq, Va.mk.injEq]
 constructor
 · rintro (⟨h, _⟩ | ⟨h, _⟩ | ⟨_, h1, h2, h3⟩)
   · omega
   · omega
   · exact ⟨⟨trivial, h1, h2, trivial, trivial⟩, h3⟩
 · rintro ⟨⟨_, h1, h2, _, _⟩, h3⟩
   exact .inr (.inr ⟨trivial, h1, h2, h3⟩)
end Go.Proofs.Ytamhfjlffacakaa.Va
namespace Go.Proofs.Ytamhfjlffacakaa.Ov
open Go.ChangeShapes Go.WideShapes Go.ChangeAt Go.RowKit
def vcs (k n : Int) (s : ByteArray) (x y : Int) : List Value := [.int .i64 k, .int .i64 n, .string s, .int .i64 x, .int .i64 y]
section
variable {w : World} {b : Nat} {k n x y : Int} {s : ByteArray}
theorem Blk.v0 (h : Blk w b (vcs k n s x y)) : w.cell? ⟨b, 0, none⟩ = some (.int .i64 k) := h.c 0 _ rfl
theorem Blk.v1 (h : Blk w b (vcs k n s x y)) : w.cell? ⟨b, 1, none⟩ = some (.int .i64 n) := h.c 1 _ rfl
theorem Blk.v2 (h : Blk w b (vcs k n s x y)) : w.cell? ⟨b, 2, none⟩ = some (.string s) := h.c 2 _ rfl
theorem Blk.v3 (h : Blk w b (vcs k n s x y)) : w.cell? ⟨b, 3, none⟩ = some (.int .i64 x) := h.c 3 _ rfl
theorem Blk.v4 (h : Blk w b (vcs k n s x y)) : w.cell? ⟨b, 4, none⟩ = some (.int .i64 y) := h.c 4 _ rfl
end
end Go.Proofs.Ytamhfjlffacakaa.Ov
namespace Go.Proofs.Ytamhfjlffacakaa.Va
open Go.ChangeShapes Go.WideShapes Go.ChangeAt Go.RowKit Ov Ga
set_option maxHeartbeats 1000000 in
theorem right_int (n x y : Int) (s : ByteArray) (w : World) : Calls Try.prog 53 #[.agg #[.int .i64 0, .int .i64 n, .string s, .int .i64 x, .int .i64 y]] w (Gives (.bool (rt ⟨0, n, s.data.toList, x, y⟩)) w) := by
 have hE : ∀ w, (binOp .eql 33 (.agg #[.int .i64 0, .int .i64 n, .string s, .int .i64 x, .int .i64 y]) (.agg #[.int .i64 0, .int .i64 n, .string ⟨#[]⟩, .int .i64 0, .int .i64 0])).run Try.prog w = .ok (.bool (ve ⟨0, n, s.data.toList, x, y⟩ ⟨0, n, [], 0, 0⟩)) w := eql_val _ _ _ _ _ _ _ _ _ _
 have HN := Lib.hid (number_any n)
 rw [rt_int]
 generalize ve ⟨0, n, s.data.toList, x, y⟩ ⟨0, n, [], 0, 0⟩ = q at *
 cases q
 · rw [Bool.false_and]
   go_enter Try.func53, Try.ntmps53
   go_wp2_with (fail)
   have kb := Lib.hid (box1 w (.cells #[.int .i64 0, .int .i64 n, .string s, .int .i64 x, .int .i64 y] 33))
   have D := Blk.made w 33 (vcs 0 n s x y) rfl
   change Blk (w.alloc (.cells #[.int .i64 0, .int .i64 n, .string s, .int .i64 x, .int .i64 y] 33)) w.heap.size _ at D
   generalize w.alloc (.cells #[.int .i64 0, .int .i64 n, .string s, .int .i64 x, .int .i64 y] 33) = v at *
   have k0 := fun r : Over v => (D.over r).v0
   have k1 := fun r : Over v => (D.over r).v1
   have k2 := fun r : Over v => (D.over r).v2
   have k3 := fun r : Over v => (D.over r).v3
   have k4 := fun r : Over v => (D.over r).v4
   clear D
   refine wp_over (by kernel_rfl) (by kernel_rfl) ?_
   repeat (go_big_quiet_step (first | fail | with_reducible exact over_gives _ (HN.out _)))
   refine wpQuiet_nil ?_
   rintro wq ⟨⟨wq, hb⟩, rfl⟩
   have HB := Lib.hid (Below.next kb.out hb)
   clear hb kb k0 k1 k2 k3 k4
   go_wp2_with (fail)
   go_ret
   exact ⟨rfl, HB.out⟩
 · rw [Bool.true_and]
   by_cases h1 : -9007199254740992 ≤ n
   · have d1 : decide (-9007199254740992 ≤ n) = true := decide_eq_true h1
     rw [d1, Bool.true_and]
     by_cases h2 : n ≤ 9007199254740992
     · have d2 : decide (n ≤ 9007199254740992) = true := decide_eq_true h2
       rw [d2]
       go_enter Try.func53, Try.ntmps53
       go_wp2_with (fail)
       have kb := Lib.hid (box1 w (.cells #[.int .i64 0, .int .i64 n, .string s, .int .i64 x, .int .i64 y] 33))
       have D := Blk.made w 33 (vcs 0 n s x y) rfl
       change Blk (w.alloc (.cells #[.int .i64 0, .int .i64 n, .string s, .int .i64 x, .int .i64 y] 33)) w.heap.size _ at D
       generalize w.alloc (.cells #[.int .i64 0, .int .i64 n, .string s, .int .i64 x, .int .i64 y] 33) = v at *
       have k0 := fun r : Over v => (D.over r).v0
       have k1 := fun r : Over v => (D.over r).v1
       have k2 := fun r : Over v => (D.over r).v2
       have k3 := fun r : Over v => (D.over r).v3
       have k4 := fun r : Over v => (D.over r).v4
       clear D
       refine wp_over (by kernel_rfl) (by kernel_rfl) ?_
       repeat (go_big_quiet_step (first | fail | with_reducible exact over_gives _ (HN.out _)))
       refine wpQuiet_nil ?_
       rintro wq ⟨⟨wq, hb⟩, rfl⟩
       have HB := Lib.hid (Below.next kb.out hb)
       clear hb kb k0 k1 k2 k3 k4
       go_wp2_with (fail)
       go_ret
       exact ⟨rfl, HB.out⟩
     · have d2 : decide (n ≤ 9007199254740992) = false := decide_eq_false h2
       rw [d2]
       go_enter Try.func53, Try.ntmps53
       go_wp2_with (fail)
       have kb := Lib.hid (box1 w (.cells #[.int .i64 0, .int .i64 n, .string s, .int .i64 x, .int .i64 y] 33))
       have D := Blk.made w 33 (vcs 0 n s x y) rfl
       change Blk (w.alloc (.cells #[.int .i64 0, .int .i64 n, .string s, .int .i64 x, .int .i64 y] 33)) w.heap.size _ at D
       generalize w.alloc (.cells #[.int .i64 0, .int .i64 n, .string s, .int .i64 x, .int .i64 y] 33) = v at *
       have k0 := fun r : Over v => (D.over r).v0
       have k1 := fun r : Over v => (D.over r).v1
       have k2 := fun r : Over v => (D.over r).v2
       have k3 := fun r : Over v => (D.over r).v3
       have k4 := fun r : Over v => (D.over r).v4
       clear D
       refine wp_over (by kernel_rfl) (by kernel_rfl) ?_
       repeat (go_big_quiet_step (first | fail | with_reducible exact over_gives _ (HN.out _)))
       refine wpQuiet_nil ?_
       rintro wq ⟨⟨wq, hb⟩, rfl⟩
       have HB := Lib.hid (Below.next kb.out hb)
       clear hb kb k0 k1 k2 k3 k4
       go_wp2_with (fail)
       go_ret
       exact ⟨rfl, HB.out⟩
   · have d1 : decide (-9007199254740992 ≤ n) = false := decide_eq_false h1
     rw [d1, Bool.false_and]
     go_enter Try.func53, Try.ntmps53
     go_wp2_with (fail)
     have kb := Lib.hid (box1 w (.cells #[.int .i64 0, .int .i64 n, .string s, .int .i64 x, .int .i64 y] 33))
     have D := Blk.made w 33 (vcs 0 n s x y) rfl
     change Blk (w.alloc (.cells #[.int .i64 0, .int .i64 n, .string s, .int .i64 x, .int .i64 y] 33)) w.heap.size _ at D
     generalize w.alloc (.cells #[.int .i64 0, .int .i64 n, .string s, .int .i64 x, .int .i64 y] 33) = v at *
     have k0 := fun r : Over v => (D.over r).v0
     have k1 := fun r : Over v => (D.over r).v1
     have k2 := fun r : Over v => (D.over r).v2
     have k3 := fun r : Over v => (D.over r).v3
     have k4 := fun r : Over v => (D.over r).v4
     clear D
     refine wp_over (by kernel_rfl) (by kernel_rfl) ?_
     repeat (go_big_quiet_step (first | fail | with_reducible exact over_gives _ (HN.out _)))
     refine wpQuiet_nil ?_
     rintro wq ⟨⟨wq, hb⟩, rfl⟩
     have HB := Lib.hid (Below.next kb.out hb)
     clear hb kb k0 k1 k2 k3 k4
     go_wp2_with (fail)
     go_ret
     exact ⟨rfl, HB.out⟩
set_option maxHeartbeats 1000000 in
theorem right_text (n x y : Int) (s : ByteArray) (w : World) : Calls Try.prog 53 #[.agg #[.int .i64 1, .int .i64 n, .string s, .int .i64 x, .int .i64 y]] w (Gives (.bool (rt ⟨1, n, s.data.toList, x, y⟩)) w) := by
 have hE : ∀ w, (binOp .eql 33 (.agg #[.int .i64 1, .int .i64 n, .string s, .int .i64 x, .int .i64 y]) (.agg #[.int .i64 1, .int .i64 0, .string s, .int .i64 0, .int .i64 0])).run Try.prog w = .ok (.bool (ve ⟨1, n, s.data.toList, x, y⟩ ⟨1, 0, s.data.toList, 0, 0⟩)) w := eql_val _ _ _ _ _ _ _ _ _ _
 have HN := Lib.hid (text_any s)
 rw [rt_text]
 generalize ve ⟨1, n, s.data.toList, x, y⟩ ⟨1, 0, s.data.toList, 0, 0⟩ = q at *
 have hz : s.data.toList.length = s.size := by simp
 rw [hz]; clear hz
 cases q
 · rw [Bool.false_and]
   go_enter Try.func53, Try.ntmps53
   go_wp2_with (fail)
   have kb := Lib.hid (box1 w (.cells #[.int .i64 1, .int .i64 n, .string s, .int .i64 x, .int .i64 y] 33))
   have D := Blk.made w 33 (vcs 1 n s x y) rfl
   change Blk (w.alloc (.cells #[.int .i64 1, .int .i64 n, .string s, .int .i64 x, .int .i64 y] 33)) w.heap.size _ at D
   generalize w.alloc (.cells #[.int .i64 1, .int .i64 n, .string s, .int .i64 x, .int .i64 y] 33) = v at *
   have k0 := fun r : Over v => (D.over r).v0
   have k1 := fun r : Over v => (D.over r).v1
   have k2 := fun r : Over v => (D.over r).v2
   have k3 := fun r : Over v => (D.over r).v3
   have k4 := fun r : Over v => (D.over r).v4
   clear D
   refine wp_over (by kernel_rfl) (by kernel_rfl) ?_
   repeat (go_big_quiet_step (first | fail | with_reducible exact over_gives _ (HN.out _)))
   refine wpQuiet_nil ?_
   rintro wq ⟨⟨wq, hb⟩, rfl⟩
   have HB := Lib.hid (Below.next kb.out hb)
   clear hb kb k0 k1 k2 k3 k4
   go_wp2_with (fail)
   go_ret
   exact ⟨rfl, HB.out⟩
 · rw [Bool.true_and]
   by_cases h1 : s.size ≤ 4096
   · have d1 : decide (s.size ≤ 4096) = true := decide_eq_true h1
     rw [d1]
     go_enter Try.func53, Try.ntmps53
     go_wp2_with (fail)
     have kb := Lib.hid (box1 w (.cells #[.int .i64 1, .int .i64 n, .string s, .int .i64 x, .int .i64 y] 33))
     have D := Blk.made w 33 (vcs 1 n s x y) rfl
     change Blk (w.alloc (.cells #[.int .i64 1, .int .i64 n, .string s, .int .i64 x, .int .i64 y] 33)) w.heap.size _ at D
     generalize w.alloc (.cells #[.int .i64 1, .int .i64 n, .string s, .int .i64 x, .int .i64 y] 33) = v at *
     have k0 := fun r : Over v => (D.over r).v0
     have k1 := fun r : Over v => (D.over r).v1
     have k2 := fun r : Over v => (D.over r).v2
     have k3 := fun r : Over v => (D.over r).v3
     have k4 := fun r : Over v => (D.over r).v4
     clear D
     refine wp_over (by kernel_rfl) (by kernel_rfl) ?_
     repeat (go_big_quiet_step (first | fail | with_reducible exact over_gives _ (HN.out _)))
     refine wpQuiet_nil ?_
     rintro wq ⟨⟨wq, hb⟩, rfl⟩
     have HB := Lib.hid (Below.next kb.out hb)
     clear hb kb k0 k1 k2 k3 k4
     go_wp2_with (fail)
     go_ret
     exact ⟨congrArg (fun b => Ending.returned (.bool b)) (decide_eq_true (by omega)), HB.out⟩
   · have d1 : decide (s.size ≤ 4096) = false := decide_eq_false h1
     rw [d1]
     go_enter Try.func53, Try.ntmps53
     go_wp2_with (fail)
     have kb := Lib.hid (box1 w (.cells #[.int .i64 1, .int .i64 n, .string s, .int .i64 x, .int .i64 y] 33))
     have D := Blk.made w 33 (vcs 1 n s x y) rfl
     change Blk (w.alloc (.cells #[.int .i64 1, .int .i64 n, .string s, .int .i64 x, .int .i64 y] 33)) w.heap.size _ at D
     generalize w.alloc (.cells #[.int .i64 1, .int .i64 n, .string s, .int .i64 x, .int .i64 y] 33) = v at *
     have k0 := fun r : Over v => (D.over r).v0
     have k1 := fun r : Over v => (D.over r).v1
     have k2 := fun r : Over v => (D.over r).v2
     have k3 := fun r : Over v => (D.over r).v3
     have k4 := fun r : Over v => (D.over r).v4
     clear D
     refine wp_over (by kernel_rfl) (by kernel_rfl) ?_
     repeat (go_big_quiet_step (first | fail | with_reducible exact over_gives _ (HN.out _)))
     refine wpQuiet_nil ?_
     rintro wq ⟨⟨wq, hb⟩, rfl⟩
     have HB := Lib.hid (Below.next kb.out hb)
     clear hb kb k0 k1 k2 k3 k4
     go_wp2_with (fail)
     go_ret
     exact ⟨congrArg (fun b => Ending.returned (.bool b)) (decide_eq_false (by omega)), HB.out⟩
set_option maxHeartbeats 1000000 in
theorem right_point (n x y : Int) (s : ByteArray) (w : World) : Calls Try.prog 53 #[.agg #[.int .i64 2, .int .i64 n, .string s, .int .i64 x, .int .i64 y]] w (Gives (.bool (rt ⟨2, n, s.data.toList, x, y⟩)) w) := by
 have hE : ∀ w, (binOp .eql 33 (.agg #[.int .i64 2, .int .i64 n, .string s, .int .i64 x, .int .i64 y]) (.agg #[.int .i64 2, .int .i64 0, .string ⟨#[]⟩, .int .i64 x, .int .i64 y])).run Try.prog w = .ok (.bool (ve ⟨2, n, s.data.toList, x, y⟩ ⟨2, 0, [], x, y⟩)) w := eql_val _ _ _ _ _ _ _ _ _ _
 have HN := Lib.hid (point_any x y)
 rw [rt_point]
 generalize ve ⟨2, n, s.data.toList, x, y⟩ ⟨2, 0, [], x, y⟩ = q at *
 have HG := Lib.hid (right_any x y)
 generalize rb ⟨x, y⟩ = p at *
 cases q
 · rw [Bool.false_and]
   go_enter Try.func53, Try.ntmps53
   go_wp2_with (fail)
   have kb := Lib.hid (box1 w (.cells #[.int .i64 2, .int .i64 n, .string s, .int .i64 x, .int .i64 y] 33))
   have D := Blk.made w 33 (vcs 2 n s x y) rfl
   change Blk (w.alloc (.cells #[.int .i64 2, .int .i64 n, .string s, .int .i64 x, .int .i64 y] 33)) w.heap.size _ at D
   generalize w.alloc (.cells #[.int .i64 2, .int .i64 n, .string s, .int .i64 x, .int .i64 y] 33) = v at *
   have k0 := fun r : Over v => (D.over r).v0
   have k1 := fun r : Over v => (D.over r).v1
   have k2 := fun r : Over v => (D.over r).v2
   have k3 := fun r : Over v => (D.over r).v3
   have k4 := fun r : Over v => (D.over r).v4
   clear D
   refine wp_over (by kernel_rfl) (by kernel_rfl) ?_
   repeat (go_big_quiet_step (first | fail | with_reducible exact over_gives _ (HN.out _) | with_reducible exact over_gives _ (HG.out _)))
   refine wpQuiet_nil ?_
   rintro wq ⟨⟨wq, hb⟩, rfl⟩
   have HB := Lib.hid (Below.next kb.out hb)
   clear hb kb k0 k1 k2 k3 k4
   go_wp2_with (fail)
   go_ret
   exact ⟨rfl, HB.out⟩
 · rw [Bool.true_and]
   go_enter Try.func53, Try.ntmps53
   go_wp2_with (fail)
   have kb := Lib.hid (box1 w (.cells #[.int .i64 2, .int .i64 n, .string s, .int .i64 x, .int .i64 y] 33))
   have D := Blk.made w 33 (vcs 2 n s x y) rfl
   change Blk (w.alloc (.cells #[.int .i64 2, .int .i64 n, .string s, .int .i64 x, .int .i64 y] 33)) w.heap.size _ at D
   generalize w.alloc (.cells #[.int .i64 2, .int .i64 n, .string s, .int .i64 x, .int .i64 y] 33) = v at *
   have k0 := fun r : Over v => (D.over r).v0
   have k1 := fun r : Over v => (D.over r).v1
   have k2 := fun r : Over v => (D.over r).v2
   have k3 := fun r : Over v => (D.over r).v3
   have k4 := fun r : Over v => (D.over r).v4
   clear D
   refine wp_over (by kernel_rfl) (by kernel_rfl) ?_
   repeat (go_big_quiet_step (first | fail | with_reducible exact over_gives _ (HN.out _) | with_reducible exact over_gives _ (HG.out _)))
   refine wpQuiet_nil ?_
   rintro wq ⟨⟨wq, hb⟩, rfl⟩
   have HB := Lib.hid (Below.next kb.out hb)
   clear hb kb k0 k1 k2 k3 k4
   go_wp2_with (fail)
   go_ret
   exact ⟨rfl, HB.out⟩
theorem rt_kind {k : Int} (n x y : Int) (s : List UInt8) (h0 : k ≠ 0) (h1 : k ≠ 1) (h2 : k ≠ 2) : rt ⟨k, n, s, x, y⟩ = false := by
 unfold rt; rw [decide_eq_false_iff_not]
 rintro (⟨h, _⟩ | ⟨h, _⟩ | ⟨h, _⟩)
 · exact h0 h
 · exact h1 h
 · exact h2 h
set_option maxHeartbeats 1000000 in
theorem right_val (k n x y : Int) (s : ByteArray) (w : World) : Calls Try.prog 53 #[.agg #[.int .i64 k, .int .i64 n, .string s, .int .i64 x, .int .i64 y]] w (Gives (.bool (rt ⟨k, n, s.data.toList, x, y⟩)) w) := by
 by_cases h0 : k = 0
 · subst h0; exact right_int n x y s w
 by_cases h1 : k = 1
 · subst h1; exact right_text n x y s w
 by_cases h2 : k = 2
 · subst h2; exact right_point n x y s w
 rw [rt_kind n x y _ h0 h1 h2]
 have e0 : (k == 0) = false := beq_eq_false_iff_ne.2 h0
 have e1 : (k == 1) = false := beq_eq_false_iff_ne.2 h1
 have e2 : (k == 2) = false := beq_eq_false_iff_ne.2 h2
 clear h0 h1 h2
 go_enter Try.func53, Try.ntmps53
 go_wp2_with (fail)
 go_ret
 exact ⟨rfl, box1 w _⟩
end Go.Proofs.Ytamhfjlffacakaa.Va

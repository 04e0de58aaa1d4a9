/-
  A text of this claim: VaRef.
-/
import Derived.Test.YtamhfjlffacakaaQ2
import Derived.Test.YtamhfjlffacakaaQVaRight
import Derived.Test.YtamhfjlffacakaaQ1
namespace Go.Proofs.Ytamhfjlffacakaa.Va
open Go.ChangeShapes Go.WideShapes Go.ChangeAt Go.RowKit Ov Ga
theorem rspot_any (x y : Int) (w : World) : Calls Try.prog 34 #[.agg #[.int .i64 x, .int .i64 y]] w (Gives (.bool (rb ⟨x, y⟩)) w) := by
 have e : rb ⟨x, y⟩ = (fb x && fb y) := rfl
 rw [e]; clear e
 by_cases h1 : -16777216 ≤ x
 · by_cases h2 : x ≤ 16777216
   · by_cases h3 : -16777216 ≤ y
     · by_cases h4 : y ≤ 16777216
       · have e : (fb x && fb y) = true := by rw [fb_of h1 h2, fb_of h3 h4]; rfl
         rw [e]; clear e
         go_enter Try.func34, Try.ntmps34
         go_wp2_with (fail)
         go_ret
         exact ⟨rfl, box1 w _⟩
       · have e : (fb x && fb y) = false := by
          have e1 : fb y = false := decide_eq_false (by omega)
          rw [e1]; simp
         rw [e]; clear e
         go_enter Try.func34, Try.ntmps34
         go_wp2_with (fail)
         go_ret
         exact ⟨rfl, box1 w _⟩
     · have e : (fb x && fb y) = false := by
        have e1 : fb y = false := decide_eq_false (by omega)
        rw [e1]; simp
       rw [e]; clear e
       go_enter Try.func34, Try.ntmps34
       go_wp2_with (fail)
       go_ret
       exact ⟨rfl, box1 w _⟩
   · have e : (fb x && fb y) = false := by
      have e1 : fb x = false := decide_eq_false (by omega)
      rw [e1]; rfl
     rw [e]; clear e
     go_enter Try.func34, Try.ntmps34
     go_wp2_with (fail)
     go_ret
     exact ⟨rfl, box1 w _⟩
 · have e : (fb x && fb y) = false := by
    have e1 : fb x = false := decide_eq_false (by omega)
    rw [e1]; rfl
   rw [e]; clear e
   go_enter Try.func34, Try.ntmps34
   go_wp2_with (fail)
   go_ret
   exact ⟨rfl, box1 w _⟩
set_option maxHeartbeats 1000000 in
theorem rr0a {n x y : Int} {s : ByteArray} (w : World) (h1 : ¬ -9007199254740992 ≤ n) : Calls Try.prog 22 #[.agg #[.int .i64 0, .int .i64 n, .string s, .int .i64 x, .int .i64 y]] w (Gives (.bool false) w) := by
 go_enter Try.func22, Try.ntmps22
 go_wp2_with (fail)
 go_ret
 exact ⟨rfl, box1 w _⟩
set_option maxHeartbeats 1000000 in
theorem rr0b {n x y : Int} {s : ByteArray} (w : World) (h1 : -9007199254740992 ≤ n) (h2 : ¬ n ≤ 9007199254740992) : Calls Try.prog 22 #[.agg #[.int .i64 0, .int .i64 n, .string s, .int .i64 x, .int .i64 y]] w (Gives (.bool false) w) := by
 go_enter Try.func22, Try.ntmps22
 go_wp2_with (fail)
 go_ret
 exact ⟨rfl, box1 w _⟩
set_option maxHeartbeats 1000000 in
theorem rr0c {n x y : Int} {s : ByteArray} (w : World) (h1 : -9007199254740992 ≤ n) (h2 : n ≤ 9007199254740992) (hs : (s.toList == []) = false)  : Calls Try.prog 22 #[.agg #[.int .i64 0, .int .i64 n, .string s, .int .i64 x, .int .i64 y]] w (Gives (.bool false) w) := by
 go_enter Try.func22, Try.ntmps22
 go_wp2_with (fail)
 go_ret
 exact ⟨rfl, box1 w _⟩
set_option maxHeartbeats 1000000 in
theorem rr0d {n x y : Int} {s : ByteArray} (w : World) (h1 : -9007199254740992 ≤ n) (h2 : n ≤ 9007199254740992) (hs : s.toList = []) (h3 : (x == 0) = false) : Calls Try.prog 22 #[.agg #[.int .i64 0, .int .i64 n, .string s, .int .i64 x, .int .i64 y]] w (Gives (.bool false) w) := by
 go_enter Try.func22, Try.ntmps22
 go_wp2_with (fail)
 go_ret
 exact ⟨rfl, box1 w _⟩
set_option maxHeartbeats 1000000 in
theorem rr0e {n x y : Int} {s : ByteArray} (w : World) (h1 : -9007199254740992 ≤ n) (h2 : n ≤ 9007199254740992) (hs : s.toList = []) (h3 : x = 0) (h4 : (y == 0) = false) : Calls Try.prog 22 #[.agg #[.int .i64 0, .int .i64 n, .string s, .int .i64 x, .int .i64 y]] w (Gives (.bool false) w) := by
 subst h3
 go_enter Try.func22, Try.ntmps22
 go_wp2_with (fail)
 go_ret
 exact ⟨rfl, box1 w _⟩
set_option maxHeartbeats 1000000 in
theorem rr0f {n x y : Int} {s : ByteArray} (w : World) (h1 : -9007199254740992 ≤ n) (h2 : n ≤ 9007199254740992) (hs : s.toList = []) (h3 : x = 0) (h4 : y = 0) : Calls Try.prog 22 #[.agg #[.int .i64 0, .int .i64 n, .string s, .int .i64 x, .int .i64 y]] w (Gives (.bool true) w) := by
 subst h3; subst h4
 go_enter Try.func22, Try.ntmps22
 go_wp2_with (fail)
 go_ret
 exact ⟨rfl, box1 w _⟩
set_option maxHeartbeats 1000000 in
theorem rr1a {n x y : Int} {s : ByteArray} (w : World) (h1 : ¬ (s.size : Int) ≤ 4096) : Calls Try.prog 22 #[.agg #[.int .i64 1, .int .i64 n, .string s, .int .i64 x, .int .i64 y]] w (Gives (.bool false) w) := by
 go_enter Try.func22, Try.ntmps22
 go_wp2_with (fail)
 go_ret
 exact ⟨rfl, box1 w _⟩
set_option maxHeartbeats 1000000 in
theorem rr1b {n x y : Int} {s : ByteArray} (w : World) (h1 : (s.size : Int) ≤ 4096) (h2 : (n == 0) = false) : Calls Try.prog 22 #[.agg #[.int .i64 1, .int .i64 n, .string s, .int .i64 x, .int .i64 y]] w (Gives (.bool false) w) := by
 go_enter Try.func22, Try.ntmps22
 go_wp2_with (fail)
 go_ret
 exact ⟨rfl, box1 w _⟩
set_option maxHeartbeats 1000000 in
theorem rr1c {n x y : Int} {s : ByteArray} (w : World) (h1 : (s.size : Int) ≤ 4096) (h2 : n = 0) (h3 : (x == 0) = false) : Calls Try.prog 22 #[.agg #[.int .i64 1, .int .i64 n, .string s, .int .i64 x, .int .i64 y]] w (Gives (.bool false) w) := by
 subst h2
 go_enter Try.func22, Try.ntmps22
 go_wp2_with (fail)
 go_ret
 exact ⟨rfl, box1 w _⟩
set_option maxHeartbeats 1000000 in
theorem rr1d {n x y : Int} {s : ByteArray} (w : World) (h1 : (s.size : Int) ≤ 4096) (h2 : n = 0) (h3 : x = 0) (h4 : (y == 0) = false) : Calls Try.prog 22 #[.agg #[.int .i64 1, .int .i64 n, .string s, .int .i64 x, .int .i64 y]] w (Gives (.bool false) w) := by
 subst h2; subst h3
 go_enter Try.func22, Try.ntmps22
 go_wp2_with (fail)
 go_ret
 exact ⟨rfl, box1 w _⟩
set_option maxHeartbeats 1000000 in
theorem rr1e {n x y : Int} {s : ByteArray} (w : World) (h1 : (s.size : Int) ≤ 4096) (h2 : n = 0) (h3 : x = 0) (h4 : y = 0) : Calls Try.prog 22 #[.agg #[.int .i64 1, .int .i64 n, .string s, .int .i64 x, .int .i64 y]] w (Gives (.bool true) w) := by
 subst h2; subst h3; subst h4
 go_enter Try.func22, Try.ntmps22
 go_wp2_with (fail)
 go_ret
 exact ⟨rfl, box1 w _⟩
set_option maxHeartbeats 1000000 in
theorem rr2a {n x y : Int} {s : ByteArray} (w : World) (hp : rb ⟨x, y⟩ = false)  : Calls Try.prog 22 #[.agg #[.int .i64 2, .int .i64 n, .string s, .int .i64 x, .int .i64 y]] w (Gives (.bool false) w) := by
 have HP := Lib.hid (rspot_any x y); rw [hp] at HP; clear hp
 go_enter Try.func22, Try.ntmps22
 go_wp2_with (fail)
 have D := Blk.made w 33 (vcs 2 n s x y) rfl
 have kb := box1 w (.cells #[.int .i64 2, .int .i64 n, .string s, .int .i64 x, .int .i64 y] 33)
 change Blk (w.alloc (.cells #[.int .i64 2, .int .i64 n, .string s, .int .i64 x, .int .i64 y] 33)) w.heap.size _ at D
 generalize w.alloc (.cells #[.int .i64 2, .int .i64 n, .string s, .int .i64 x, .int .i64 y] 33) = v at *
 refine (HP.out _).mono ?_
 rintro e w1 ⟨rfl, hb⟩
 have HB := Lib.hid (Below.next kb hb)
 have D1 := D.next hb
 have d0 := D1.v0; have d1 := D1.v1; have d2 := D1.v2; have d3 := D1.v3; have d4 := D1.v4
 clear hb kb D D1
 go_wp2_with (fail)
 go_ret
 exact ⟨rfl, HB.out⟩
set_option maxHeartbeats 1000000 in
theorem rr2b {n x y : Int} {s : ByteArray} (w : World) (hp : rb ⟨x, y⟩ = true) (h2 : (n == 0) = false) : Calls Try.prog 22 #[.agg #[.int .i64 2, .int .i64 n, .string s, .int .i64 x, .int .i64 y]] w (Gives (.bool false) w) := by
 have HP := Lib.hid (rspot_any x y); rw [hp] at HP; clear hp
 go_enter Try.func22, Try.ntmps22
 go_wp2_with (fail)
 have D := Blk.made w 33 (vcs 2 n s x y) rfl
 have kb := box1 w (.cells #[.int .i64 2, .int .i64 n, .string s, .int .i64 x, .int .i64 y] 33)
 change Blk (w.alloc (.cells #[.int .i64 2, .int .i64 n, .string s, .int .i64 x, .int .i64 y] 33)) w.heap.size _ at D
 generalize w.alloc (.cells #[.int .i64 2, .int .i64 n, .string s, .int .i64 x, .int .i64 y] 33) = v at *
 refine (HP.out _).mono ?_
 rintro e w1 ⟨rfl, hb⟩
 have HB := Lib.hid (Below.next kb hb)
 have D1 := D.next hb
 have d0 := D1.v0; have d1 := D1.v1; have d2 := D1.v2; have d3 := D1.v3; have d4 := D1.v4
 clear hb kb D D1
 go_wp2_with (fail)
 go_ret
 exact ⟨rfl, HB.out⟩
set_option maxHeartbeats 1000000 in
theorem rr2c {n x y : Int} {s : ByteArray} (w : World) (hp : rb ⟨x, y⟩ = true) (h2 : n = 0) (hs : (s.toList == []) = false)  : Calls Try.prog 22 #[.agg #[.int .i64 2, .int .i64 n, .string s, .int .i64 x, .int .i64 y]] w (Gives (.bool false) w) := by
 have HP := Lib.hid (rspot_any x y); rw [hp] at HP; clear hp
 subst h2
 go_enter Try.func22, Try.ntmps22
 go_wp2_with (fail)
 have D := Blk.made w 33 (vcs 2 0 s x y) rfl
 have kb := box1 w (.cells #[.int .i64 2, .int .i64 0, .string s, .int .i64 x, .int .i64 y] 33)
 change Blk (w.alloc (.cells #[.int .i64 2, .int .i64 0, .string s, .int .i64 x, .int .i64 y] 33)) w.heap.size _ at D
 generalize w.alloc (.cells #[.int .i64 2, .int .i64 0, .string s, .int .i64 x, .int .i64 y] 33) = v at *
 refine (HP.out _).mono ?_
 rintro e w1 ⟨rfl, hb⟩
 have HB := Lib.hid (Below.next kb hb)
 have D1 := D.next hb
 have d0 := D1.v0; have d1 := D1.v1; have d2 := D1.v2; have d3 := D1.v3; have d4 := D1.v4
 clear hb kb D D1
 go_wp2_with (fail)
 go_ret
 exact ⟨rfl, HB.out⟩
set_option maxHeartbeats 1000000 in
theorem rr2d {n x y : Int} {s : ByteArray} (w : World) (hp : rb ⟨x, y⟩ = true) (h2 : n = 0) (hs : s.toList = [])  : Calls Try.prog 22 #[.agg #[.int .i64 2, .int .i64 n, .string s, .int .i64 x, .int .i64 y]] w (Gives (.bool true) w) := by
 have HP := Lib.hid (rspot_any x y); rw [hp] at HP; clear hp
 subst h2
 go_enter Try.func22, Try.ntmps22
 go_wp2_with (fail)
 have D := Blk.made w 33 (vcs 2 0 s x y) rfl
 have kb := box1 w (.cells #[.int .i64 2, .int .i64 0, .string s, .int .i64 x, .int .i64 y] 33)
 change Blk (w.alloc (.cells #[.int .i64 2, .int .i64 0, .string s, .int .i64 x, .int .i64 y] 33)) w.heap.size _ at D
 generalize w.alloc (.cells #[.int .i64 2, .int .i64 0, .string s, .int .i64 x, .int .i64 y] 33) = v at *
 refine (HP.out _).mono ?_
 rintro e w1 ⟨rfl, hb⟩
 have HB := Lib.hid (Below.next kb hb)
 have D1 := D.next hb
 have d0 := D1.v0; have d1 := D1.v1; have d2 := D1.v2; have d3 := D1.v3; have d4 := D1.v4
 clear hb kb D D1
 go_wp2_with (fail)
 go_ret
 exact ⟨rfl, HB.out⟩
theorem txt_nil {s : ByteArray} (h : s.data.toList = []) : s.toList = [] := by rw [ByteArray.toList_eq, h]
theorem txt_full {s : ByteArray} (h : s.data.toList ≠ []) : (s.toList == []) = false := by
 rw [ByteArray.toList_eq]; exact beq_eq_false_iff_ne.2 h
theorem rright_val (k n x y : Int) (s : ByteArray) (w : World) : Calls Try.prog 22 #[.agg #[.int .i64 k, .int .i64 n, .string s, .int .i64 x, .int .i64 y]] w (Gives (.bool (rt ⟨k, n, s.data.toList, x, y⟩)) w) := by
 have bq : ∀ {a : Int}, a ≠ 0 → (a == 0) = false := fun h => beq_eq_false_iff_ne.2 h
 by_cases k0 : k = 0
 · subst k0
   by_cases h1 : -9007199254740992 ≤ n
   rotate_left
   · rw [show rt ⟨0, n, s.data.toList, x, y⟩ = false by rw [rt_int, decide_eq_false h1]; simp]; exact rr0a w h1
   by_cases h2 : n ≤ 9007199254740992
   rotate_left
   · rw [show rt ⟨0, n, s.data.toList, x, y⟩ = false by rw [rt_int, decide_eq_false h2]; simp]; exact rr0b w h1 h2
   have key : rt ⟨0, n, s.data.toList, x, y⟩ = ve ⟨0, n, s.data.toList, x, y⟩ ⟨0, n, [], 0, 0⟩ := by rw [rt_int, decide_eq_true h1, decide_eq_true h2]; simp
   rw [key]
   by_cases hs : s.data.toList = []
   rotate_left
   · rw [show ve ⟨0, n, s.data.toList, x, y⟩ ⟨0, n, [], 0, 0⟩ = false from decide_eq_false (fun h => hs (congrArg Va.s h))]; exact rr0c w h1 h2 (txt_full hs)
   by_cases hx : x = 0
   rotate_left
   · rw [show ve ⟨0, n, s.data.toList, x, y⟩ ⟨0, n, [], 0, 0⟩ = false from decide_eq_false (fun h => hx (congrArg Va.x h))]; exact rr0d w h1 h2 (txt_nil hs) (bq hx)
   by_cases hy : y = 0
   rotate_left
   · rw [show ve ⟨0, n, s.data.toList, x, y⟩ ⟨0, n, [], 0, 0⟩ = false from decide_eq_false (fun h => hy (congrArg Va.y h))]; exact rr0e w h1 h2 (txt_nil hs) hx (bq hy)
   rw [show ve ⟨0, n, s.data.toList, x, y⟩ ⟨0, n, [], 0, 0⟩ = true from decide_eq_true (by rw [hs, hx, hy])]; exact rr0f w h1 h2 (txt_nil hs) hx hy
 by_cases k1 : k = 1
 · subst k1
   have hl : s.data.toList.length = s.size := by simp
   by_cases h1 : s.size ≤ 4096
   rotate_left
   · rw [show rt ⟨1, n, s.data.toList, x, y⟩ = false by rw [rt_text, hl, decide_eq_false h1]; simp]; exact rr1a w (by omega)
   have key : rt ⟨1, n, s.data.toList, x, y⟩ = ve ⟨1, n, s.data.toList, x, y⟩ ⟨1, 0, s.data.toList, 0, 0⟩ := by rw [rt_text, hl, decide_eq_true h1]; simp
   rw [key]
   by_cases hn : n = 0
   rotate_left
   · rw [show ve ⟨1, n, s.data.toList, x, y⟩ ⟨1, 0, s.data.toList, 0, 0⟩ = false from decide_eq_false (fun h => hn (congrArg Va.n h))]; exact rr1b w (by omega) (bq hn)
   by_cases hx : x = 0
   rotate_left
   · rw [show ve ⟨1, n, s.data.toList, x, y⟩ ⟨1, 0, s.data.toList, 0, 0⟩ = false from decide_eq_false (fun h => hx (congrArg Va.x h))]; exact rr1c w (by omega) hn (bq hx)
   by_cases hy : y = 0
   rotate_left
   · rw [show ve ⟨1, n, s.data.toList, x, y⟩ ⟨1, 0, s.data.toList, 0, 0⟩ = false from decide_eq_false (fun h => hy (congrArg Va.y h))]; exact rr1d w (by omega) hn hx (bq hy)
   rw [show ve ⟨1, n, s.data.toList, x, y⟩ ⟨1, 0, s.data.toList, 0, 0⟩ = true from decide_eq_true (by rw [hn, hx, hy])]; exact rr1e w (by omega) hn hx hy
 by_cases k2 : k = 2
 · subst k2
   rw [rt_point]
   rcases Bool.eq_false_or_eq_true (rb ⟨x, y⟩) with hp | hp
   rotate_left
   · rw [hp, Bool.and_false]; exact rr2a w hp
   rw [hp, Bool.and_true]
   by_cases hn : n = 0
   rotate_left
   · rw [show ve ⟨2, n, s.data.toList, x, y⟩ ⟨2, 0, [], x, y⟩ = false from decide_eq_false (fun h => hn (congrArg Va.n h))]; exact rr2b w hp (bq hn)
   by_cases hs : s.data.toList = []
   rotate_left
   · rw [show ve ⟨2, n, s.data.toList, x, y⟩ ⟨2, 0, [], x, y⟩ = false from decide_eq_false (fun h => hs (congrArg Va.s h))]; exact rr2c w hp hn (txt_full hs)
   rw [show ve ⟨2, n, s.data.toList, x, y⟩ ⟨2, 0, [], x, y⟩ = true from decide_eq_true (by rw [hn, hs])]; exact rr2d w hp hn (txt_nil hs)
 rw [rt_kind n x y _ k0 k1 k2]
 have e0 := bq k0
 have e1 : (k == 1) = false := beq_eq_false_iff_ne.2 k1
 have e2 : (k == 2) = false := beq_eq_false_iff_ne.2 k2
 clear k0 k1 k2 bq
 go_enter Try.func22, Try.ntmps22
 go_wp2_with (fail)
 go_ret
 exact ⟨rfl, box1 w _⟩
def ls (a b : Va) : Bool := if a.k ≠ b.k then decide (a.k < b.k) else if a.k = 0 then decide (a.n < b.n) else if a.k = 1 then Op.bytesLess a.s b.s else decide (a.x < b.x ∨ a.x = b.x ∧ a.y < b.y)
theorem less_app (t a b : List UInt8) : Op.bytesLess (t ++ a) (t ++ b) = Op.bytesLess a b := by
 induction t with
 | nil => rfl
 | cons c t ih =>
   rw [List.cons_append, List.cons_append, less_cons, ih]
   have : ¬ c < c := fun h => by rw [UInt8.lt_iff_toNat_lt] at h; omega
   simp [this]
theorem less_at {a b : List UInt8} {i : Nat} (ht : a.take i = b.take i) : Op.bytesLess a b = Op.bytesLess (a.drop i) (b.drop i) := by
 have := less_app (a.take i) (a.drop i) (b.drop i)
 rw [List.take_append_drop] at this
 rw [ht, List.take_append_drop] at this
 exact this
theorem less_ne {c d : UInt8} (x y : List UInt8) (h : c ≠ d) : Op.bytesLess (c :: x) (d :: y) = decide (c.toNat < d.toNat) := by
 rw [Bool.eq_iff_iff, less_cons_iff, decide_eq_true_eq]
 exact ⟨fun g => g.elim id (fun g => absurd g.1 h), .inl⟩
set_option maxHeartbeats 2000000 in
theorem less_text (n0 x0 y0 n1 x1 y1 : Int) (s0 s1 : ByteArray) (w : World) (hs : s0.size ≤ 6000) : Calls Try.prog 67 #[.agg #[.int .i64 1, .int .i64 n0, .string s0, .int .i64 x0, .int .i64 y0], .agg #[.int .i64 1, .int .i64 n1, .string s1, .int .i64 x1, .int .i64 y1]] w (Gives (.bool (Op.bytesLess s0.data.toList s1.data.toList)) w) := by
 have l0 : s0.data.toList.length = s0.size := by simp
 have l1 : s1.data.toList.length = s1.size := by simp
 have H0 := Lib.hid l0; have H1 := Lib.hid l1; clear l0 l1
 go_enter Try.func67, Try.ntmps67
 go_wp2_with (fail)
 have kb := Lib.hid (box2 w (.cells #[.int .i64 1, .int .i64 n0, .string s0, .int .i64 x0, .int .i64 y0] 33) (.cells #[.int .i64 1, .int .i64 n1, .string s1, .int .i64 x1, .int .i64 y1] 33))
 have D := Lib.hid ((Blk.made w 33 (vcs 1 n0 s0 x0 y0) rfl).old (.cells #[.int .i64 1, .int .i64 n1, .string s1, .int .i64 x1, .int .i64 y1] 33))
 have E := Lib.hid (Blk.made (w.alloc (.cells #[.int .i64 1, .int .i64 n0, .string s0, .int .i64 x0, .int .i64 y0] 33)) 33 (vcs 1 n1 s1 x1 y1) (World.size_alloc _ _))
 change Hid (Blk ((w.alloc (.cells #[.int .i64 1, .int .i64 n0, .string s0, .int .i64 x0, .int .i64 y0] 33)).alloc (.cells #[.int .i64 1, .int .i64 n1, .string s1, .int .i64 x1, .int .i64 y1] 33)) w.heap.size _) at D
 change Hid (Blk ((w.alloc (.cells #[.int .i64 1, .int .i64 n0, .string s0, .int .i64 x0, .int .i64 y0] 33)).alloc (.cells #[.int .i64 1, .int .i64 n1, .string s1, .int .i64 x1, .int .i64 y1] 33)) (w.heap.size + 1) _) at E
 generalize (w.alloc (.cells #[.int .i64 1, .int .i64 n0, .string s0, .int .i64 x0, .int .i64 y0] 33)).alloc (.cells #[.int .i64 1, .int .i64 n1, .string s1, .int .i64 x1, .int .i64 y1] 33) = v at *
 go_loopw [5] (fun i wr => ∃ k : Nat, k ≤ s0.size ∧ k ≤ s1.size ∧ i = .int .i64 (k : Int) ∧ s0.data.toList.take k = s1.data.toList.take k ∧ Below v.heap.size v wr) (fun i _ => s0.size - (intOf i).toNat)
 case atStart => exact ⟨0, Nat.zero_le _, Nat.zero_le _, rfl, rfl, Below.refl _ _⟩
 case round =>
  obtain ⟨k, hk0, hk1, rfl, ht, hb⟩ := hrel
  have HT := Lib.hid ht; have HB := Lib.hid hb
  have D1 := D.out.next hb; have E1 := E.out.next hb
  clear ht hb
  have d2 := D1.v2; have e2 := E1.v2
  by_cases a0 : k < s0.size
  · by_cases a1 : k < s1.size
    · obtain ⟨c, hc⟩ : ∃ c : UInt8, s0[k] = c := ⟨_, rfl⟩
      obtain ⟨d, hd⟩ : ∃ d : UInt8, s1[k] = d := ⟨_, rfl⟩
      have HD0 : Hid (s0.data.toList.drop k = c :: s0.data.toList.drop (k + 1)) := by
       show _ = _
       rw [List.drop_eq_getElem_cons (by rw [H0.out]; exact a0), ← hc]; rfl
      have HD1 : Hid (s1.data.toList.drop k = d :: s1.data.toList.drop (k + 1)) := by
       show _ = _
       rw [List.drop_eq_getElem_cons (by rw [H1.out]; exact a1), ← hd]; rfl
      have k0 := fun r : Over wr => (D1.over r).v2
      have k1 := fun r : Over wr => (E1.over r).v2
      have DH := Lib.hid D1; have EH := Lib.hid E1; clear D1 E1
      by_cases hcd : c = d
      · have g : ((c.toNat : Int) != (d.toNat : Int)) = false := by rw [hcd]; simp
        have HS : Hid (s0.data.toList.take (k + 1) = s1.data.toList.take (k + 1)) := by
         show _ = _
         rw [take_snoc s0 k a0, take_snoc s1 k a1, HT.out, hc, hd, hcd]
        clear hcd
        go_wp2_with (fail)
        refine wp_over (by kernel_rfl) (by kernel_rfl) ?_
        repeat (go_big_quiet_step (first | fail))
        refine wpQuiet_nil ?_
        rintro w2 ⟨⟨w2, hb⟩, rfl⟩
        have HB2 := Lib.hid (Below.next HB.out hb)
        clear hb k0 k1 d2 e2
        go_wp2_with (fail)
        go_roundw
        case rel => exact ⟨k + 1, a0, a1, by go_num, HS.out, HB2.out⟩
        case measure => simp [intOf]; omega
      · have g : ((c.toNat : Int) != (d.toNat : Int)) = true := by
         rw [bne_iff_ne]; intro h; exact hcd (UInt8.toNat_inj.1 (by omega))
        have HE : Hid (Op.bytesLess s0.data.toList s1.data.toList = decide (c.toNat < d.toNat)) := by
         show _ = _
         rw [less_at HT.out, HD0.out, HD1.out, less_ne _ _ hcd]
        clear hcd
        go_wp2_with (fail)
        refine wp_over (by kernel_rfl) (by kernel_rfl) ?_
        repeat (go_big_quiet_step (first | fail))
        refine wpQuiet_nil ?_
        rintro w2 ⟨⟨w2, hb⟩, rfl⟩
        have HB2 := Lib.hid (Below.next HB.out hb)
        have D2 := DH.out.next hb; have E2 := EH.out.next hb
        clear hb k0 k1 d2 e2 DH EH
        have k0 := fun r : Over w2 => (D2.over r).v2
        have k1 := fun r : Over w2 => (E2.over r).v2
        clear D2 E2
        go_wp2_with (fail)
        refine wp_over (by kernel_rfl) (by kernel_rfl) ?_
        repeat (go_big_quiet_step (first | fail))
        refine wpQuiet_nil ?_
        rintro w3 ⟨⟨w3, hb⟩, rfl⟩
        have HB3 := Lib.hid (Below.next HB2.out hb)
        clear hb k0 k1
        go_wp2_with (fail)
        go_ret
        refine ⟨?_, Below.next kb.out HB3.out⟩
        rw [HE.out]
        rfl
    · have HE : Hid (Op.bytesLess s0.data.toList s1.data.toList = false) := by
       show _ = _
       rw [less_at HT.out, List.drop_of_length_le (l := s1.data.toList) (by rw [H1.out]; omega), less_nil]
      have g : ¬ s0.size < s1.size := by omega
      go_wp2_with (fail)
      go_ret
      refine ⟨?_, Below.next kb.out HB.out⟩
      rw [HE.out]
      rfl
  · have HE : Hid (Op.bytesLess s0.data.toList s1.data.toList = decide (s0.size < s1.size)) := by
     show _ = _
     rw [less_at HT.out, List.drop_of_length_le (l := s0.data.toList) (by rw [H0.out]; omega)]
     by_cases h : k < s1.size
     · rw [List.drop_eq_getElem_cons (by rw [H1.out]; exact h)]
       exact (decide_eq_true (by omega)).symm
     · rw [List.drop_of_length_le (by rw [H1.out]; omega), less_nil]
       exact (decide_eq_false (by omega)).symm
    go_wp2_with (fail)
    go_ret
    refine ⟨?_, Below.next kb.out HB.out⟩
    rw [HE.out]
    rfl
set_option maxHeartbeats 2000000 in
theorem less_val (k0 n0 x0 y0 k1 n1 x1 y1 : Int) (s0 s1 : ByteArray) (w : World) (hs : s0.size ≤ 6000) : Calls Try.prog 67 #[.agg #[.int .i64 k0, .int .i64 n0, .string s0, .int .i64 x0, .int .i64 y0], .agg #[.int .i64 k1, .int .i64 n1, .string s1, .int .i64 x1, .int .i64 y1]] w (Gives (.bool (ls ⟨k0, n0, s0.data.toList, x0, y0⟩ ⟨k1, n1, s1.data.toList, x1, y1⟩)) w) := by
 by_cases hk : k0 = k1
 rotate_left
 · have e : ls ⟨k0, n0, s0.data.toList, x0, y0⟩ ⟨k1, n1, s1.data.toList, x1, y1⟩ = decide (k0 < k1) := if_pos hk
   rw [e]; clear e
   have g : (k0 != k1) = true := bne_iff_ne.2 hk
   clear hk
   go_enter Try.func67, Try.ntmps67
   go_wp2_with (fail)
   go_ret
   exact ⟨rfl, box2 w _ _⟩
 subst hk
 by_cases h0 : k0 = 0
 · subst h0
   have e : ls ⟨0, n0, s0.data.toList, x0, y0⟩ ⟨0, n1, s1.data.toList, x1, y1⟩ = decide (n0 < n1) := by unfold ls; rw [if_neg (fun h => h rfl), if_pos rfl]
   rw [e]; clear e
   go_enter Try.func67, Try.ntmps67
   go_wp2_with (fail)
   go_ret
   exact ⟨rfl, box2 w _ _⟩
 by_cases h1 : k0 = 1
 · subst h1
   have e : ls ⟨1, n0, s0.data.toList, x0, y0⟩ ⟨1, n1, s1.data.toList, x1, y1⟩ = Op.bytesLess s0.data.toList s1.data.toList := by unfold ls; rw [if_neg (fun h => h rfl)]; exact (if_neg (show ¬ (1 : Int) = 0 by decide)).trans (if_pos rfl)
   rw [e]
   exact less_text n0 x0 y0 n1 x1 y1 s0 s1 w hs
 have e : ls ⟨k0, n0, s0.data.toList, x0, y0⟩ ⟨k0, n1, s1.data.toList, x1, y1⟩ = decide (x0 < x1 ∨ x0 = x1 ∧ y0 < y1) := by unfold ls; rw [if_neg (fun h => h rfl)]; exact (if_neg h0).trans (if_neg h1)
 rw [e]; clear e
 have g0 : (k0 == 0) = false := beq_eq_false_iff_ne.2 h0
 have g1 : (k0 == 1) = false := beq_eq_false_iff_ne.2 h1
 clear h0 h1
 by_cases a : x0 < x1
 · rw [decide_eq_true (.inl a : x0 < x1 ∨ x0 = x1 ∧ y0 < y1)]
   go_enter Try.func67, Try.ntmps67
   go_wp2_with (fail)
   go_ret
   exact ⟨rfl, box2 w _ _⟩
 by_cases b : x0 = x1
 · subst b
   by_cases c : y0 < y1
   · rw [decide_eq_true (.inr ⟨rfl, c⟩ : x0 < x0 ∨ x0 = x0 ∧ y0 < y1)]
     go_enter Try.func67, Try.ntmps67
     go_wp2_with (fail)
     go_ret
     exact ⟨rfl, box2 w _ _⟩
   · rw [decide_eq_false (by omega : ¬ (x0 < x0 ∨ x0 = x0 ∧ y0 < y1))]
     go_enter Try.func67, Try.ntmps67
     go_wp2_with (fail)
     go_ret
     exact ⟨rfl, box2 w _ _⟩
 · have g : (x0 == x1) = false := beq_eq_false_iff_ne.2 b
   rw [decide_eq_false (by omega : ¬ (x0 < x1 ∨ x0 = x1 ∧ y0 < y1))]
   clear b
   go_enter Try.func67, Try.ntmps67
   go_wp2_with (fail)
   go_ret
   exact ⟨rfl, box2 w _ _⟩
theorem ord_ls {a b : Va} (ha : rt a = true) (hb : rt b = true) : ord a b = if ls a b = true then -1 else if ls b a = true then 1 else 0 := by
 obtain ⟨k0, n0, s0, x0, y0⟩ := a
 obtain ⟨k1, n1, s1, x1, y1⟩ := b
 by_cases hk : k0 = k1
 rotate_left
 · have e1 : ls ⟨k0, n0, s0, x0, y0⟩ ⟨k1, n1, s1, x1, y1⟩ = decide (k0 < k1) := if_pos hk
   have e2 : ls ⟨k1, n1, s1, x1, y1⟩ ⟨k0, n0, s0, x0, y0⟩ = decide (k1 < k0) := if_pos (fun h => hk h.symm)
   rw [e1, e2]; unfold ord or4 cI
   simp only [decide_eq_true_eq]
   by_cases h : k0 < k1
   · rw [if_pos h]; rfl
   · rw [if_neg h, if_pos (show k1 < k0 by omega)]; rfl
 subst hk
 have ck : cI k0 k0 = 0 := (cI_cmp.zero k0 k0).2 rfl
 rcases rt_yes ha with ⟨h0, _, _, h3, h4, h5⟩ | ⟨h0, h1, _, h3, h4⟩ | ⟨h0, h1, h2, _⟩
 · dsimp only at h0 h3 h4 h5
   subst h0; subst h3; subst h4; subst h5
   obtain ⟨_, g3, g4, g5⟩ := rt_int_in hb
   subst g3; subst g4; subst g5
   have e : ∀ n m : Int, ls ⟨0, n, [], 0, 0⟩ ⟨0, m, [], 0, 0⟩ = decide (n < m) := fun n m => by unfold ls; rw [if_neg (fun h => h rfl), if_pos rfl]
   rw [e, e]; unfold ord or4
   dsimp only
   rw [ck, if_neg (fun h => h rfl)]
   simp only [decide_eq_true_eq]
   show (if cI n0 n1 ≠ 0 then cI n0 n1 else if cS [] [] ≠ 0 then cS [] [] else cP 0 0 0 0) = cI n0 n1
   rw [cS_self, show cP 0 0 0 0 = 0 by decide]
   by_cases h : cI n0 n1 = 0
   · rw [h]; rfl
   · rw [if_pos h]
 · dsimp only at h0 h1 h3 h4
   subst h0; subst h1; subst h3; subst h4
   obtain ⟨_, g2, g3, g4⟩ := rt_text_in hb
   subst g2; subst g3; subst g4
   have e : ∀ a b : List UInt8, ls ⟨1, 0, a, 0, 0⟩ ⟨1, 0, b, 0, 0⟩ = Op.bytesLess a b := fun a b => by unfold ls; rw [if_neg (fun h => h rfl)]; exact (if_neg (show ¬ (1 : Int) = 0 by decide)).trans (if_pos rfl)
   rw [e, e]; unfold ord or4
   dsimp only
   rw [ck, if_neg (fun h => h rfl), show cI 0 0 = 0 by decide, if_neg (fun h => h rfl)]
   show (if cS s0 s1 ≠ 0 then cS s0 s1 else cP 0 0 0 0) = cS s0 s1
   rw [show cP 0 0 0 0 = 0 by decide]
   by_cases h : cS s0 s1 = 0
   · rw [h]; rfl
   · rw [if_pos h]
 · dsimp only at h0 h1 h2
   subst h0; subst h1; subst h2
   obtain ⟨_, g2, g3⟩ := rt_point_in hb
   subst g2; subst g3
   have e : ∀ x y u v : Int, ls ⟨2, 0, [], x, y⟩ ⟨2, 0, [], u, v⟩ = decide (x < u ∨ x = u ∧ y < v) := fun x y u v => by unfold ls; rw [if_neg (fun h => h rfl)]; exact (if_neg (show ¬ (2 : Int) = 0 by decide)).trans (if_neg (show ¬ (2 : Int) = 1 by decide))
   rw [e, e]; unfold ord or4
   dsimp only
   rw [ck, if_neg (fun h => h rfl), show cI 0 0 = 0 by decide, if_neg (fun h => h rfl), cS_self, if_neg (fun h => h rfl)]
   unfold cP
   simp only [decide_eq_true_eq]
set_option maxHeartbeats 2000000 in
theorem rorder_val (k0 n0 x0 y0 k1 n1 x1 y1 : Int) (s0 s1 : ByteArray) (w : World) (h0 : rt ⟨k0, n0, s0.data.toList, x0, y0⟩ = true) (h1 : rt ⟨k1, n1, s1.data.toList, x1, y1⟩ = true) (z0 : s0.size ≤ 6000) (z1 : s1.size ≤ 6000) : Calls Try.prog 48 #[.agg #[.int .i64 k0, .int .i64 n0, .string s0, .int .i64 x0, .int .i64 y0], .agg #[.int .i64 k1, .int .i64 n1, .string s1, .int .i64 x1, .int .i64 y1]] w (Gives (.int .i64 (ord ⟨k0, n0, s0.data.toList, x0, y0⟩ ⟨k1, n1, s1.data.toList, x1, y1⟩)) w) := by
 have H1 := Lib.hid (less_val k0 n0 x0 y0 k1 n1 x1 y1 s0 s1)
 have H2 := Lib.hid (less_val k1 n1 x1 y1 k0 n0 x0 y0 s1 s0)
 rw [ord_ls h0 h1]; clear h0 h1
 generalize ls ⟨k0, n0, s0.data.toList, x0, y0⟩ ⟨k1, n1, s1.data.toList, x1, y1⟩ = p at *
 generalize ls ⟨k1, n1, s1.data.toList, x1, y1⟩ ⟨k0, n0, s0.data.toList, x0, y0⟩ = q at *
 cases p
 · cases q
   · go_enter Try.func48, Try.ntmps48
     go_wp2_with (fail)
     have kb := box2 w (.cells #[.int .i64 k0, .int .i64 n0, .string s0, .int .i64 x0, .int .i64 y0] 33) (.cells #[.int .i64 k1, .int .i64 n1, .string s1, .int .i64 x1, .int .i64 y1] 33)
     have D := (Blk.made w 33 (vcs k0 n0 s0 x0 y0) rfl).old (.cells #[.int .i64 k1, .int .i64 n1, .string s1, .int .i64 x1, .int .i64 y1] 33)
     have E := Blk.made (w.alloc (.cells #[.int .i64 k0, .int .i64 n0, .string s0, .int .i64 x0, .int .i64 y0] 33)) 33 (vcs k1 n1 s1 x1 y1) (World.size_alloc _ _)
     change Blk ((w.alloc (.cells #[.int .i64 k0, .int .i64 n0, .string s0, .int .i64 x0, .int .i64 y0] 33)).alloc (.cells #[.int .i64 k1, .int .i64 n1, .string s1, .int .i64 x1, .int .i64 y1] 33)) w.heap.size _ at D
     change Blk ((w.alloc (.cells #[.int .i64 k0, .int .i64 n0, .string s0, .int .i64 x0, .int .i64 y0] 33)).alloc (.cells #[.int .i64 k1, .int .i64 n1, .string s1, .int .i64 x1, .int .i64 y1] 33)) (w.heap.size + 1) _ at E
     generalize (w.alloc (.cells #[.int .i64 k0, .int .i64 n0, .string s0, .int .i64 x0, .int .i64 y0] 33)).alloc (.cells #[.int .i64 k1, .int .i64 n1, .string s1, .int .i64 x1, .int .i64 y1] 33) = v at *
     refine (H1.out _ z0).mono ?_
     rintro e w1 ⟨rfl, hb⟩
     have HB := Lib.hid (Below.next kb hb)
     have D1 := D.next hb; have E1 := E.next hb
     clear hb kb D E
     have d0 := D1.v0; have d1 := D1.v1; have d2 := D1.v2; have d3 := D1.v3; have d4 := D1.v4
     have e0 := E1.v0; have e1 := E1.v1; have e2 := E1.v2; have e3 := E1.v3; have e4 := E1.v4
     clear D1 E1
     go_wp2_with (fail)
     clear d0 d1 d2 d3 d4 e0 e1 e2 e3 e4
     refine (H2.out _ z1).mono ?_
     rintro e w2 ⟨rfl, hb⟩
     have HB2 := Lib.hid (Below.next HB.out hb)
     clear hb
     go_wp2_with (fail)
     go_ret
     exact ⟨rfl, HB2.out⟩
   · go_enter Try.func48, Try.ntmps48
     go_wp2_with (fail)
     have kb := box2 w (.cells #[.int .i64 k0, .int .i64 n0, .string s0, .int .i64 x0, .int .i64 y0] 33) (.cells #[.int .i64 k1, .int .i64 n1, .string s1, .int .i64 x1, .int .i64 y1] 33)
     have D := (Blk.made w 33 (vcs k0 n0 s0 x0 y0) rfl).old (.cells #[.int .i64 k1, .int .i64 n1, .string s1, .int .i64 x1, .int .i64 y1] 33)
     have E := Blk.made (w.alloc (.cells #[.int .i64 k0, .int .i64 n0, .string s0, .int .i64 x0, .int .i64 y0] 33)) 33 (vcs k1 n1 s1 x1 y1) (World.size_alloc _ _)
     change Blk ((w.alloc (.cells #[.int .i64 k0, .int .i64 n0, .string s0, .int .i64 x0, .int .i64 y0] 33)).alloc (.cells #[.int .i64 k1, .int .i64 n1, .string s1, .int .i64 x1, .int .i64 y1] 33)) w.heap.size _ at D
     change Blk ((w.alloc (.cells #[.int .i64 k0, .int .i64 n0, .string s0, .int .i64 x0, .int .i64 y0] 33)).alloc (.cells #[.int .i64 k1, .int .i64 n1, .string s1, .int .i64 x1, .int .i64 y1] 33)) (w.heap.size + 1) _ at E
     generalize (w.alloc (.cells #[.int .i64 k0, .int .i64 n0, .string s0, .int .i64 x0, .int .i64 y0] 33)).alloc (.cells #[.int .i64 k1, .int .i64 n1, .string s1, .int .i64 x1, .int .i64 y1] 33) = v at *
     refine (H1.out _ z0).mono ?_
     rintro e w1 ⟨rfl, hb⟩
     have HB := Lib.hid (Below.next kb hb)
     have D1 := D.next hb; have E1 := E.next hb
     clear hb kb D E
     have d0 := D1.v0; have d1 := D1.v1; have d2 := D1.v2; have d3 := D1.v3; have d4 := D1.v4
     have e0 := E1.v0; have e1 := E1.v1; have e2 := E1.v2; have e3 := E1.v3; have e4 := E1.v4
     clear D1 E1
     go_wp2_with (fail)
     clear d0 d1 d2 d3 d4 e0 e1 e2 e3 e4
     refine (H2.out _ z1).mono ?_
     rintro e w2 ⟨rfl, hb⟩
     have HB2 := Lib.hid (Below.next HB.out hb)
     clear hb
     go_wp2_with (fail)
     go_ret
     exact ⟨rfl, HB2.out⟩
 · go_enter Try.func48, Try.ntmps48
   go_wp2_with (fail)
   have kb := box2 w (.cells #[.int .i64 k0, .int .i64 n0, .string s0, .int .i64 x0, .int .i64 y0] 33) (.cells #[.int .i64 k1, .int .i64 n1, .string s1, .int .i64 x1, .int .i64 y1] 33)
   have D := (Blk.made w 33 (vcs k0 n0 s0 x0 y0) rfl).old (.cells #[.int .i64 k1, .int .i64 n1, .string s1, .int .i64 x1, .int .i64 y1] 33)
   have E := Blk.made (w.alloc (.cells #[.int .i64 k0, .int .i64 n0, .string s0, .int .i64 x0, .int .i64 y0] 33)) 33 (vcs k1 n1 s1 x1 y1) (World.size_alloc _ _)
   change Blk ((w.alloc (.cells #[.int .i64 k0, .int .i64 n0, .string s0, .int .i64 x0, .int .i64 y0] 33)).alloc (.cells #[.int .i64 k1, .int .i64 n1, .string s1, .int .i64 x1, .int .i64 y1] 33)) w.heap.size _ at D
   change Blk ((w.alloc (.cells #[.int .i64 k0, .int .i64 n0, .string s0, .int .i64 x0, .int .i64 y0] 33)).alloc (.cells #[.int .i64 k1, .int .i64 n1, .string s1, .int .i64 x1, .int .i64 y1] 33)) (w.heap.size + 1) _ at E
   generalize (w.alloc (.cells #[.int .i64 k0, .int .i64 n0, .string s0, .int .i64 x0, .int .i64 y0] 33)).alloc (.cells #[.int .i64 k1, .int .i64 n1, .string s1, .int .i64 x1, .int .i64 y1] 33) = v at *
   refine (H1.out _ z0).mono ?_
   rintro e w1 ⟨rfl, hb⟩
   have HB := Lib.hid (Below.next kb hb)
   have D1 := D.next hb; have E1 := E.next hb
   clear hb kb D E
   have d0 := D1.v0; have d1 := D1.v1; have d2 := D1.v2; have d3 := D1.v3; have d4 := D1.v4
   have e0 := E1.v0; have e1 := E1.v1; have e2 := E1.v2; have e3 := E1.v3; have e4 := E1.v4
   clear D1 E1
   go_wp2_with (fail)
   go_ret
   exact ⟨rfl, HB.out⟩
end Go.Proofs.Ytamhfjlffacakaa.Va

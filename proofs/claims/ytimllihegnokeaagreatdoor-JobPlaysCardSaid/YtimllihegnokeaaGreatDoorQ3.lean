/-
  Small texts of this claim, together: ExSmall, VaCut2, VaCut3, VaText, VaParse, ExWord, ExFind, ExBox, ExCut, ExPart, ExMem, ExArg, ExEnd, ExNames, OvDuo, GaDivide, GaDiv, GaFirst, GaTurn, GaDiv2, EvSmall, EvSmall2, EvSmall3, VaWrite2, VaOrder, EvStr, EvOwn, ExOf, GaCommon.
-/
import Derived.Test.YtimllihegnokeaaGreatDoorQ1
import Derived.Test.YtimllihegnokeaaGreatDoorQVaRight
import Derived.Laws.RangeAny
import Derived.Lib.OthersKept
import Derived.Laws.OwnMore
import Derived.Deep.AppendLies
import Derived.Deep.Slices
import Derived.DataReads
import Derived.ChangeKeysEq
import Derived.Test.YtimllihegnokeaaGreatDoorQOvAlloc
import Derived.Test.YtimllihegnokeaaGreatDoorQ2
import Derived.IntWalk
import Derived.Deep.QuietTactic
import Derived.BigQuiet
import Derived.Deep.RegionLaw
namespace Go.Proofs.YtimllihegnokeaaGreatDoor.Ex
open Go.ChangeShapes Go.WideShapes Go.ChangeAt Go.RowKit Ov Va
def ptv (o : Int) : Value := .tuple #[.string (tx (wd o)), .int .i64 ((pa o : Nat) : Int), .bool (decide (2 ≤ o ∧ o ≤ 29))]
set_option maxRecDepth 100000 in
theorem parts_no {o : Int} (h : o < 2 ∨ 30 ≤ o) (w : World) : Calls Tryz.prog 136 #[.int .i64 o] w fun e w' => e = .returned (ptv o) ∧ w = w' := by
 have e : ptv o = .tuple #[.string ⟨#[]⟩, .int .i64 0, .bool false] := by
  unfold ptv
  rw [(kind_out h).1, (kind_out h).2, decide_eq_false (by omega)]; rfl
 rw [e]; clear e
 by_cases h1 : o < 2
 · go_enter Tryz.func136, Tryz.ntmps136
   go_wp2_with (fail)
   go_ret3
   exact ⟨rfl, rfl⟩
 · have h2 : 30 ≤ o := by omega
   clear h
   go_enter Tryz.func136, Tryz.ntmps136
   go_wp2_with (fail)
   go_ret3
   exact ⟨rfl, rfl⟩
set_option maxRecDepth 100000 in
theorem parts_yes {o : Int} (h : 2 ≤ o ∧ o ≤ 29) (w : World) (hk : KN w) : Calls Tryz.prog 136 #[.int .i64 o] w fun e w' => e = .returned (ptv o) ∧ ∃ m, w' = w.drewN m := by
 obtain ⟨i, rfl⟩ : ∃ i : Nat, o = (i : Int) := ⟨o.toNat, by omega⟩
 have hi : i < 30 := by omega
 have c0 := hk.word i hi
 have c1 := hk.parts i hi
 have e : ptv (i : Int) = .tuple #[.string (tx wdl[i]!), .int .i64 ((ptl[i]! : Nat) : Int), .bool true] := by
  unfold ptv
  rw [wd_at hi, pa_at hi, decide_eq_true h]
 rw [e]
 generalize tx wdl[i]! = s at *
 generalize ((ptl[i]! : Nat) : Int) = n at *
 rw [Nat.mul_comm] at c0 c1
 have h1 : ¬ (i : Int) < 2 := by omega
 have h2 : (i : Int) < 30 := by omega
 clear e hk h
 go_enter Tryz.func136, Tryz.ntmps136
 go_wp2_with (fail)
 go_quiet (fail)
 go_wp2_with (fail)
 go_ret3
 exact ⟨rfl, _, rfl⟩
theorem parts_any (o : Int) (w : World) (hk : KN w) : Calls Tryz.prog 136 #[.int .i64 o] w (Gives (ptv o) w) := by
 by_cases h : 2 ≤ o ∧ o ≤ 29
 · exact (parts_yes h w hk).mono fun _ _ ⟨he, m, hw⟩ => ⟨he, by rw [hw]; exact below_drewN (Below.refl _ _) m⟩
 · exact (parts_no (by omega) w).mono fun _ _ ⟨he, hw⟩ => ⟨he, by rw [← hw]; exact Below.refl _ _⟩
theorem nameNumber_any (n : Int) (w : World) : Calls Tryz.prog 224 #[.int .i64 n] w (Gives (.agg #[.int .i64 0, .int .i64 n, .string ⟨#[]⟩, .int .i64 0, .int .i64 0]) w) := by
 go_enter Tryz.func224, Tryz.ntmps224
 go_wp2_with (fail)
 refine bodyPost_ret (v := .agg #[.int .i64 0, .int .i64 n, .string ⟨#[]⟩, .int .i64 0, .int .i64 0]) (by simp [results, Tryz.results224, go_sem]) rfl ⟨rfl, ?_⟩
 exact box1 w _
def ncs (o k n : Int) (s : ByteArray) (x y : Int) : List Value := [.int .i64 o, .int .i64 k, .int .i64 n, .string s, .int .i64 x, .int .i64 y]
def rnv (o k n : Int) (s : ByteArray) (x y : Int) : Bool := rn ⟨o, ⟨k, n, s.data.toList, x, y⟩⟩
theorem rn_val (k n x y : Int) (s : ByteArray) : rnv 0 k n s x y = rt ⟨k, n, s.data.toList, x, y⟩ := by
 unfold rnv rn
 rw [if_pos rfl]
theorem rn_name (k n x y : Int) (s : ByteArray) : rnv 1 k n s x y = (ve ⟨k, n, s.data.toList, x, y⟩ ⟨0, n, [], 0, 0⟩ && (decide (0 ≤ n) && decide (n < 5))) := by
 unfold rnv rn
 rw [if_neg (show ¬ (1 : Int) = 0 by decide), if_pos rfl, Bool.eq_iff_iff]
 unfold ve nv
 simp only [Bool.and_eq_true, decide_eq_true_eq]
theorem rn_kind {o : Int} (h0 : o ≠ 0) (h1 : o ≠ 1) (k n x y : Int) (s : ByteArray) : rnv o k n s x y = (decide (2 ≤ o ∧ o ≤ 29) && ve ⟨k, n, s.data.toList, x, y⟩ ⟨0, 0, [], 0, 0⟩) := by
 unfold rnv rn
 rw [if_neg h0, if_neg h1, Bool.eq_iff_iff]
 unfold ve vz
 simp only [Bool.and_eq_true, decide_eq_true_eq]
set_option maxRecDepth 100000 in
set_option maxHeartbeats 1000000 in
theorem rightNode_val (k n x y : Int) (s : ByteArray) (w : World) : Calls Tryz.prog 172 #[.agg #[.int .i64 0, .int .i64 k, .int .i64 n, .string s, .int .i64 x, .int .i64 y]] w (Gives (.bool (rnv 0 k n s x y)) w) := by
 rw [rn_val]
 have HR := Lib.hid (right_val k n x y s)
 generalize rt ⟨k, n, s.data.toList, x, y⟩ = q at *
 go_enter Tryz.func172, Tryz.ntmps172
 go_wp2_with (fail)
 refine (HR.out _).mono ?_
 rintro e w1 ⟨rfl, hb⟩
 have HB := Lib.hid (Below.next (box1 w _) hb)
 clear hb
 go_wp2_with (fail)
 go_ret
 exact ⟨rfl, HB.out⟩
set_option maxRecDepth 100000 in
set_option maxHeartbeats 2000000 in
theorem rightNode_name (k n x y : Int) (s : ByteArray) (w : World) : Calls Tryz.prog 172 #[.agg #[.int .i64 1, .int .i64 k, .int .i64 n, .string s, .int .i64 x, .int .i64 y]] w (Gives (.bool (rnv 1 k n s x y)) w) := by
 rw [rn_name]
 have hE : ∀ w, (binOp .eql 45 (.agg #[.int .i64 k, .int .i64 n, .string s, .int .i64 x, .int .i64 y]) (.agg #[.int .i64 0, .int .i64 n, .string ⟨#[]⟩, .int .i64 0, .int .i64 0])).run Tryz.prog w = .ok (.bool (ve ⟨k, n, s.data.toList, x, y⟩ ⟨0, n, [], 0, 0⟩)) w := eql_val _ _ _ _ _ _ _ _ _ _
 have HN := Lib.hid (nameNumber_any n)
 generalize ve ⟨k, n, s.data.toList, x, y⟩ ⟨0, n, [], 0, 0⟩ = q at *
 cases q
 · rw [Bool.false_and]
   go_enter Tryz.func172, Tryz.ntmps172
   go_wp2_with (fail)
   have kb := Lib.hid (box1 w (.cells #[.int .i64 1, .int .i64 k, .int .i64 n, .string s, .int .i64 x, .int .i64 y] 118))
   have D := Blk.made w 118 (ncs 1 k n s x y) rfl
   change Blk (w.alloc (.cells #[.int .i64 1, .int .i64 k, .int .i64 n, .string s, .int .i64 x, .int .i64 y] 118)) w.heap.size _ at D
   generalize w.alloc (.cells #[.int .i64 1, .int .i64 k, .int .i64 n, .string s, .int .i64 x, .int .i64 y] 118) = v at *
   have k1 := fun r : Over v => (D.over r).c 1 _ rfl
   have k2 := fun r : Over v => (D.over r).c 2 _ rfl
   have k3 := fun r : Over v => (D.over r).c 3 _ rfl
   have k4 := fun r : Over v => (D.over r).c 4 _ rfl
   have k5 := fun r : Over v => (D.over r).c 5 _ rfl
   clear D
   refine wp_over (by kernel_rfl) (by kernel_rfl) ?_
   repeat (go_big_quiet_step (first | fail | with_reducible exact over_gives _ (HN.out _)))
   refine wpQuiet_nil ?_
   rintro wq ⟨⟨wq, hb⟩, rfl⟩
   have HB := Lib.hid (Below.next kb.out hb)
   clear hb kb k1 k2 k3 k4 k5
   go_wp2_with (fail)
   go_ret
   exact ⟨rfl, HB.out⟩
 · rw [Bool.true_and]
   by_cases h1 : 0 ≤ n
   · have d1 : decide (0 ≤ n) = true := decide_eq_true h1
     rw [d1, Bool.true_and]
     by_cases h2 : n < 5
     · have d2 : decide (n < 5) = true := decide_eq_true h2
       rw [d2]
       go_enter Tryz.func172, Tryz.ntmps172
       go_wp2_with (fail)
       have kb := Lib.hid (box1 w (.cells #[.int .i64 1, .int .i64 k, .int .i64 n, .string s, .int .i64 x, .int .i64 y] 118))
       have D := Blk.made w 118 (ncs 1 k n s x y) rfl
       change Blk (w.alloc (.cells #[.int .i64 1, .int .i64 k, .int .i64 n, .string s, .int .i64 x, .int .i64 y] 118)) w.heap.size _ at D
       generalize w.alloc (.cells #[.int .i64 1, .int .i64 k, .int .i64 n, .string s, .int .i64 x, .int .i64 y] 118) = v at *
       have k1 := fun r : Over v => (D.over r).c 1 _ rfl
       have k2 := fun r : Over v => (D.over r).c 2 _ rfl
       have k3 := fun r : Over v => (D.over r).c 3 _ rfl
       have k4 := fun r : Over v => (D.over r).c 4 _ rfl
       have k5 := fun r : Over v => (D.over r).c 5 _ rfl
       clear D
       refine wp_over (by kernel_rfl) (by kernel_rfl) ?_
       repeat (go_big_quiet_step (first | fail | with_reducible exact over_gives _ (HN.out _)))
       refine wpQuiet_nil ?_
       rintro wq ⟨⟨wq, hb⟩, rfl⟩
       have HB := Lib.hid (Below.next kb.out hb)
       clear hb kb k1 k2 k3 k4 k5
       go_wp2_with (fail)
       go_ret
       exact ⟨rfl, HB.out⟩
     · have d2 : decide (n < 5) = false := decide_eq_false h2
       rw [d2]
       go_enter Tryz.func172, Tryz.ntmps172
       go_wp2_with (fail)
       have kb := Lib.hid (box1 w (.cells #[.int .i64 1, .int .i64 k, .int .i64 n, .string s, .int .i64 x, .int .i64 y] 118))
       have D := Blk.made w 118 (ncs 1 k n s x y) rfl
       change Blk (w.alloc (.cells #[.int .i64 1, .int .i64 k, .int .i64 n, .string s, .int .i64 x, .int .i64 y] 118)) w.heap.size _ at D
       generalize w.alloc (.cells #[.int .i64 1, .int .i64 k, .int .i64 n, .string s, .int .i64 x, .int .i64 y] 118) = v at *
       have k1 := fun r : Over v => (D.over r).c 1 _ rfl
       have k2 := fun r : Over v => (D.over r).c 2 _ rfl
       have k3 := fun r : Over v => (D.over r).c 3 _ rfl
       have k4 := fun r : Over v => (D.over r).c 4 _ rfl
       have k5 := fun r : Over v => (D.over r).c 5 _ rfl
       clear D
       refine wp_over (by kernel_rfl) (by kernel_rfl) ?_
       repeat (go_big_quiet_step (first | fail | with_reducible exact over_gives _ (HN.out _)))
       refine wpQuiet_nil ?_
       rintro wq ⟨⟨wq, hb⟩, rfl⟩
       have HB := Lib.hid (Below.next kb.out hb)
       clear hb kb k1 k2 k3 k4 k5
       go_wp2_with (fail)
       go_ret
       exact ⟨rfl, HB.out⟩
   · have d1 : decide (0 ≤ n) = false := decide_eq_false h1
     rw [d1, Bool.false_and]
     go_enter Tryz.func172, Tryz.ntmps172
     go_wp2_with (fail)
     have kb := Lib.hid (box1 w (.cells #[.int .i64 1, .int .i64 k, .int .i64 n, .string s, .int .i64 x, .int .i64 y] 118))
     have D := Blk.made w 118 (ncs 1 k n s x y) rfl
     change Blk (w.alloc (.cells #[.int .i64 1, .int .i64 k, .int .i64 n, .string s, .int .i64 x, .int .i64 y] 118)) w.heap.size _ at D
     generalize w.alloc (.cells #[.int .i64 1, .int .i64 k, .int .i64 n, .string s, .int .i64 x, .int .i64 y] 118) = v at *
     have k1 := fun r : Over v => (D.over r).c 1 _ rfl
     have k2 := fun r : Over v => (D.over r).c 2 _ rfl
     have k3 := fun r : Over v => (D.over r).c 3 _ rfl
     have k4 := fun r : Over v => (D.over r).c 4 _ rfl
     have k5 := fun r : Over v => (D.over r).c 5 _ rfl
     clear D
     refine wp_over (by kernel_rfl) (by kernel_rfl) ?_
     repeat (go_big_quiet_step (first | fail | with_reducible exact over_gives _ (HN.out _)))
     refine wpQuiet_nil ?_
     rintro wq ⟨⟨wq, hb⟩, rfl⟩
     have HB := Lib.hid (Below.next kb.out hb)
     clear hb kb k1 k2 k3 k4 k5
     go_wp2_with (fail)
     go_ret
     exact ⟨rfl, HB.out⟩
set_option maxRecDepth 100000 in
set_option maxHeartbeats 2000000 in
theorem rightNode_kind {o : Int} (h0 : o ≠ 0) (h1 : o ≠ 1) (k n x y : Int) (s : ByteArray) (w : World) (hk : KN w) : Calls Tryz.prog 172 #[.agg #[.int .i64 o, .int .i64 k, .int .i64 n, .string s, .int .i64 x, .int .i64 y]] w (Gives (.bool (rnv o k n s x y)) w) := by
 rw [rn_kind h0 h1]
 have hE : ∀ w, (binOp .eql 45 (.agg #[.int .i64 k, .int .i64 n, .string s, .int .i64 x, .int .i64 y]) (.agg #[.int .i64 0, .int .i64 0, .string ⟨#[]⟩, .int .i64 0, .int .i64 0])).run Tryz.prog w = .ok (.bool (ve ⟨k, n, s.data.toList, x, y⟩ ⟨0, 0, [], 0, 0⟩)) w := eql_val _ _ _ _ _ _ _ _ _ _
 have HP : Hid (∀ w, KN w → Calls Tryz.prog 136 #[.int .i64 o] w (Gives (.tuple #[.string (tx (wd o)), .int .i64 ((pa o : Nat) : Int), .bool (decide (2 ≤ o ∧ o ≤ 29))]) w)) := fun w h => parts_any o w h
 have HK := Lib.hid hk; clear hk
 have g0 : (o == 0) = false := beq_eq_false_iff_ne.2 h0
 have g1 : (o == 1) = false := beq_eq_false_iff_ne.2 h1
 clear h0 h1
 generalize ve ⟨k, n, s.data.toList, x, y⟩ ⟨0, 0, [], 0, 0⟩ = q at *
 generalize decide (2 ≤ o ∧ o ≤ 29) = b at *
 generalize tx (wd o) = a at *
 generalize ((pa o : Nat) : Int) = p at *
 cases b
 · rw [Bool.false_and]
   go_enter Tryz.func172, Tryz.ntmps172
   go_wp2_with (fail)
   have kb := Lib.hid (box1 w (.cells #[.int .i64 o, .int .i64 k, .int .i64 n, .string s, .int .i64 x, .int .i64 y] 118))
   have D := Blk.made w 118 (ncs o k n s x y) rfl
   change Blk (w.alloc (.cells #[.int .i64 o, .int .i64 k, .int .i64 n, .string s, .int .i64 x, .int .i64 y] 118)) w.heap.size _ at D
   generalize w.alloc (.cells #[.int .i64 o, .int .i64 k, .int .i64 n, .string s, .int .i64 x, .int .i64 y] 118) = v at *
   have c0 := D.c 0 _ rfl
   refine (HP.out _ (HK.out.next kb.out)).mono ?_
   rintro e w1 ⟨rfl, hb⟩
   have HB := Lib.hid (Below.next kb.out hb)
   have D1 := D.next hb
   clear hb kb c0 D
   have c1 := D1.c 1 _ rfl; have c2 := D1.c 2 _ rfl; have c3 := D1.c 3 _ rfl; have c4 := D1.c 4 _ rfl; have c5 := D1.c 5 _ rfl
   clear D1
   go_wp2_with (fail)
   go_ret
   exact ⟨rfl, HB.out⟩
 · rw [Bool.true_and]
   go_enter Tryz.func172, Tryz.ntmps172
   go_wp2_with (fail)
   have kb := Lib.hid (box1 w (.cells #[.int .i64 o, .int .i64 k, .int .i64 n, .string s, .int .i64 x, .int .i64 y] 118))
   have D := Blk.made w 118 (ncs o k n s x y) rfl
   change Blk (w.alloc (.cells #[.int .i64 o, .int .i64 k, .int .i64 n, .string s, .int .i64 x, .int .i64 y] 118)) w.heap.size _ at D
   generalize w.alloc (.cells #[.int .i64 o, .int .i64 k, .int .i64 n, .string s, .int .i64 x, .int .i64 y] 118) = v at *
   have c0 := D.c 0 _ rfl
   refine (HP.out _ (HK.out.next kb.out)).mono ?_
   rintro e w1 ⟨rfl, hb⟩
   have HB := Lib.hid (Below.next kb.out hb)
   have D1 := D.next hb
   clear hb kb c0 D
   have c1 := D1.c 1 _ rfl; have c2 := D1.c 2 _ rfl; have c3 := D1.c 3 _ rfl; have c4 := D1.c 4 _ rfl; have c5 := D1.c 5 _ rfl
   clear D1
   go_wp2_with (fail)
   go_ret
   exact ⟨rfl, HB.out⟩
theorem rightNode_any (o k n x y : Int) (s : ByteArray) (w : World) (hk : KN w) : Calls Tryz.prog 172 #[.agg #[.int .i64 o, .int .i64 k, .int .i64 n, .string s, .int .i64 x, .int .i64 y]] w (Gives (.bool (rnv o k n s x y)) w) := by
 by_cases h0 : o = 0
 · subst h0; exact rightNode_val k n x y s w
 by_cases h1 : o = 1
 · subst h1; exact rightNode_name k n x y s w
 exact rightNode_kind h0 h1 k n x y s w hk
end Go.Proofs.YtimllihegnokeaaGreatDoor.Ex
namespace Go.Proofs.YtimllihegnokeaaGreatDoor.Va
open Go.ChangeShapes Go.WideShapes Go.ChangeAt Go.RowKit Ov Tp
def vv (v : Va) : Value := .agg #[.int .i64 v.k, .int .i64 v.n, .string (tx v.s), .int .i64 v.x, .int .i64 v.y]
end Go.Proofs.YtimllihegnokeaaGreatDoor.Va
namespace Go.Proofs.YtimllihegnokeaaGreatDoor.Ex
open Go.ChangeShapes Go.WideShapes Go.ChangeAt Go.RowKit Ov Va
end Go.Proofs.YtimllihegnokeaaGreatDoor.Ex
namespace Go.Proofs.YtimllihegnokeaaGreatDoor.Ov
open Go.ChangeShapes Go.WideShapes Go.ChangeAt Go.RowKit
section
variable {w : World} {b : Nat} {vs : List Value}
end
end Go.Proofs.YtimllihegnokeaaGreatDoor.Ov
namespace Go.Proofs.YtimllihegnokeaaGreatDoor.Ex
open Go.ChangeShapes Go.WideShapes Go.ChangeAt Go.RowKit Ov Va
def nov (n : No) : Value := .agg #[.int .i64 n.o, .int .i64 n.v.k, .int .i64 n.v.n, .string (tx n.v.s), .int .i64 n.v.x, .int .i64 n.v.y]
def ncl (n : No) : List Value := [.int .i64 n.o, .int .i64 n.v.k, .int .i64 n.v.n, .string (tx n.v.s), .int .i64 n.v.x, .int .i64 n.v.y]
end Go.Proofs.YtimllihegnokeaaGreatDoor.Ex
namespace Go.Proofs.YtimllihegnokeaaGreatDoor.Ex
open Go.ChangeShapes Go.WideShapes Go.ChangeAt Go.RowKit Ov Va
end Go.Proofs.YtimllihegnokeaaGreatDoor.Ex
namespace Go.Proofs.YtimllihegnokeaaGreatDoor.Ov
open Go.ChangeShapes Go.WideShapes Go.ChangeAt Go.RowKit
section
variable {w w' : World} {base base' size size' n n' : Nat} {e e' : TypeId} {v v' : Value} {xs xs' : List Value}
theorem own_ne (h : w.ownsRow base e size v n xs) (h' : w.ownsRow base' e' size' v' n' xs') (hne : e ≠ e') : v.ownBlock = none ∨ v.ownBlock ≠ v'.ownBlock := by
 rcases h.2 with ⟨rfl, _⟩ | ⟨g, cap, cur, rfl, _, hg, _⟩
 · exact .inl rfl
 · refine .inr fun heq => ?_
   rcases h'.2 with ⟨rfl, _⟩ | ⟨g', cap', cur', rfl, _, hg', _⟩
   · cases heq
   · have e1 : g = g' := Option.some.inj heq
     subst e1
     rw [hg] at hg'
     injection hg' with hg'
     injection hg' with _ h3
     exact hne h3
theorem own_old (h : w.ownsRow base e size v n xs) (k : Below w.heap.size w w') : w'.ownsRow base e size v n xs :=
 h.kept (row := none) ⟨k.os, k.tape, k.output, k.size, fun i hi _ => k.block i hi⟩ (by cases v.ownBlock <;> simp)
end
end Go.Proofs.YtimllihegnokeaaGreatDoor.Ov
namespace Go.Proofs.YtimllihegnokeaaGreatDoor.Ex
open Go.ChangeShapes Go.WideShapes Go.ChangeAt Go.RowKit Ov Va
def cells (l : List No) : List Value := l.flatMap ncl
def nd (l : List No) (i : Nat) : No := (l[i]?).getD nz
theorem cells_snoc (l : List No) (n : No) : cells (l ++ [n]) = cells l ++ ncl n := by
 unfold cells
 rw [List.flatMap_append]; simp
theorem nd_cons (n : No) (t : List No) (i : Nat) : nd (n :: t) (i + 1) = nd t i := rfl
theorem nd_drop (l : List No) (k i : Nat) : nd (l.drop k) i = nd l (k + i) := by unfold nd; rw [List.getElem?_drop]
theorem nd_at {l : List No} {i : Nat} (h : i < l.length) : nd l i = l[i] := by unfold nd; rw [List.getElem?_eq_getElem h]; rfl
theorem cells_at (l : List No) (i j : Nat) (hi : i < l.length) (hj : j < 6) : (cells l)[i * 6 + j]? = (ncl (nd l i))[j]? := by
 induction l generalizing i with
 | nil => simp at hi
 | cons n t ih =>
   show (ncl n ++ cells t)[i * 6 + j]? = _
   cases i with
   | zero =>
     rw [Nat.zero_mul, Nat.zero_add, List.getElem?_append_left (by show j < 6; exact hj)]; rfl
   | succ i =>
     rw [List.getElem?_append_right (by show 6 ≤ _; omega), nd_cons]
     show (cells t)[(i + 1) * 6 + j - 6]? = _
     rw [show (i + 1) * 6 + j - 6 = i * 6 + j by omega]
     exact ih i (by simpa using hi)
theorem drop_nd {l : List No} {k : Nat} (h : k < l.length) : l.drop k = nd l k :: l.drop (k + 1) := by rw [nd_at h]; exact List.drop_eq_getElem_cons h
def Nds (w : World) (p : Option Addr) (l : List No) : Prop :=
 0 < l.length → ∃ B O, p = some ⟨B, O, none⟩ ∧ ∀ i j v, i < l.length → (ncl (nd l i))[j]? = some v → w.cell? ⟨B, O + i * 6 + j, none⟩ = some v
section
variable {w w' : World} {p : Option Addr} {l : List No}
theorem Nds.next (h : Nds w p l) (k : Below w.heap.size w w') : Nds w' p l := fun hn => by
 obtain ⟨B, O, e, hc⟩ := h hn
 exact ⟨B, O, e, fun i j v hi hv => (k.cell (p := ⟨B, O + i * 6 + j, none⟩) (block_lt_of_cell (hc i j v hi hv))).trans (hc i j v hi hv)⟩
theorem Nds.below {lo : Nat} (h : Nds w p l) (hlo : ∀ a, p = some a → a.block < lo) (k : Below lo w w') : Nds w' p l := fun hn => by
 obtain ⟨B, O, e, hc⟩ := h hn
 exact ⟨B, O, e, fun i j v hi hv => (k.cell (p := ⟨B, O + i * 6 + j, none⟩) (show B < lo from hlo _ e)).trans (hc i j v hi hv)⟩
theorem Nds.drewN (h : Nds w p l) (m : Nat) : Nds (w.drewN m) p l := h
theorem Nds.cell {B O : Nat} (h : Nds w (some ⟨B, O, none⟩) l) {i : Nat} (hi : i < l.length) (j : Nat) (v : Value) (hv : (ncl (nd l i))[j]? = some v) : w.cell? ⟨B, O + i * 6 + j, none⟩ = some v := by
 obtain ⟨B', O', e, hc⟩ := h (by omega)
 simp only [Option.some.injEq, Addr.mk.injEq, and_true] at e
 obtain ⟨rfl, rfl⟩ := e
 exact hc i j v hi hv
theorem Nds.lt {B O : Nat} (h : Nds w (some ⟨B, O, none⟩) l) (hl : 0 < l.length) : B < w.heap.size := block_lt_of_cell (h.cell hl 0 _ rfl)
theorem Nds.shape (h : Nds w p l) (hl : 0 < l.length) : ∃ B O, p = some ⟨B, O, none⟩ := by
 obtain ⟨B, O, e, _⟩ := h hl
 exact ⟨B, O, e⟩
theorem Nds.drop {B O : Nat} (h : Nds w (some ⟨B, O, none⟩) l) (k : Nat) : Nds w (some ⟨B, O + k * 6, none⟩) (l.drop k) := fun hn => by
 rw [List.length_drop] at hn
 refine ⟨B, O + k * 6, rfl, fun i j v hi hv => ?_⟩
 rw [List.length_drop] at hi
 rw [nd_drop] at hv
 have := h.cell (i := k + i) (by omega) j v hv
 rw [show O + k * 6 + i * 6 + j = O + (k + i) * 6 + j by omega]; exact this
theorem Nds.take {k : Nat} (h : Nds w p l) : Nds w p (l.take k) := fun hn => by
 rw [List.length_take] at hn
 obtain ⟨B, O, e, hc⟩ := h (by omega)
 refine ⟨B, O, e, fun i j v hi hv => hc i j v (by rw [List.length_take] at hi; omega) ?_⟩
 have : nd (l.take k) i = nd l i := by
  rw [List.length_take] at hi
  unfold nd; rw [List.getElem?_take, if_pos (by omega)]
 rw [← this]; exact hv
theorem Nds.nil (w : World) (p : Option Addr) : Nds w p [] := fun h => absurd h (Nat.lt_irrefl 0)
theorem Nds.of_own {base : Nat} {e : TypeId} {A : Option Addr} {c : Nat} (h : w.ownsRow base e 6 (.slice A l.length c) l.length (cells l)) : Nds w A l := fun hn => by
 obtain ⟨g, cap, hv, _⟩ := h.form hn
 injection hv with h1 h2 h3
 subst h1
 refine ⟨g, 0, rfl, fun i j v hi hv => ?_⟩
 have hj : j < 6 := by
  rcases Nat.lt_or_ge j 6 with h | h
  · exact h
  · rw [List.getElem?_eq_none (by show 6 ≤ j; exact h)] at hv; cases hv
 rw [Nat.zero_add, h.cellAt _ (by omega), cells_at l i j hi hj]; exact hv
end
theorem own_slice {w : World} {base size n : Nat} {e : TypeId} {v : Value} {xs : List Value} (h : w.ownsRow base e size v n xs) : ∃ A c, v = .slice A n c := by
 rcases h.2 with ⟨rfl, rfl⟩ | ⟨g, cap, cur, rfl, _⟩
 · exact ⟨none, 0, rfl⟩
 · exact ⟨_, _, rfl⟩
theorem own_cap {w : World} {base size n c : Nat} {e : TypeId} {A : Option Addr} {xs : List Value} (h : w.ownsRow base e size (.slice A n c) n xs) : n ≤ c ∧ c ≤ maxLen := by
 rcases h.2 with ⟨h1, rfl⟩ | ⟨g, cap, cur, h1, _, _, hn, hc, _⟩
 · injection h1 with _ _ h3; subst h3; exact ⟨Nat.le_refl _, Nat.zero_le _⟩
 · injection h1 with _ _ h3; subst h3; exact ⟨hn, hc⟩
theorem ncl_one (n : No) : ∀ u ∈ ncl n, u.oneCell' = true := by
 intro u hu
 unfold ncl at hu
 simp only [List.mem_cons, List.not_mem_nil, or_false] at hu
 rcases hu with rfl | rfl | rfl | rfl | rfl | rfl <;> rfl
theorem infoN : (Tryz.prog.info? 118).map (fun i => (i.zero, i.size, i.bytes)) = some (some (nov nz), 6, 56) := by kernel_rfl
end Go.Proofs.YtimllihegnokeaaGreatDoor.Ex
namespace Go.Proofs.YtimllihegnokeaaGreatDoor.Ex
open Go.ChangeShapes Go.WideShapes Go.ChangeAt Go.RowKit Ov Va
instance : Inhabited No := ⟨nz⟩
section
variable {H : Type} {enc : TypeId × Value → H} {w : World} {base : Nat} {spare : Nat → Bool} {held : Bool}
set_option maxRecDepth 100000 in
theorem node_cells {fuel : Nat} {cs : List Value} {x : DataW H × List MemPlace} (h : DataW.trod enc Tryz.prog w base spare held fuel 57 cs = some x) : ∃ n : No, cs = ncl n := by
 have c1 : Tryz.prog.cellsOf 3 = 1 := by kernel_rfl
 have c2 : Tryz.prog.cellsOf 9 = 1 := by kernel_rfl
 have c3 : Tryz.prog.cellsOf 43 = 2 := by kernel_rfl
 have c4 : Tryz.prog.cellsOf 45 = 5 := by kernel_rfl
 have c5 : Tryz.prog.cellsOf 57 = 6 := by kernel_rfl
 obtain ⟨y0, y1, m, _, hl, g0, g1⟩ := trod_struct2 Tryz.underlying57 h
 rw [c5] at hl
 match cs, hl with
 | [a0, a1, a2, a3, a4, a5], _ =>
   simp only [c1, c4] at g0 g1
   obtain ⟨o, e0, _, _⟩ := DataW.trod_int Tryz.underlying3 g0
   obtain ⟨z0, z1, z2, z3, m', _, _, h0, h1, h2, h3⟩ := Joins.trod_struct4 Tryz.underlying45 g1
   simp only [c1, c2, c3] at h0 h1 h2 h3
   obtain ⟨k, e1, _, _⟩ := DataW.trod_int Tryz.underlying3 h0
   obtain ⟨n, e2, _, _⟩ := DataW.trod_int Tryz.underlying3 h1
   obtain ⟨s, e3, _, _⟩ := DataW.trod_string Tryz.underlying9 h2
   obtain ⟨x0, x1, m'', _, _, f0, f1⟩ := trod_struct2 Tryz.underlying43 h3
   simp only [c1] at f0 f1
   obtain ⟨x, e4, _, _⟩ := DataW.trod_int Tryz.underlying3 f0
   obtain ⟨y, e5, _, _⟩ := DataW.trod_int Tryz.underlying3 f1
   have q0 : [a0] = [Value.int .i64 o] := e0
   have q1 : [a1] = [Value.int .i64 k] := e1
   have q2 : [a2] = [Value.int .i64 n] := e2
   have q3 : [a3] = [Value.string s] := e3
   have q4 : [a4] = [Value.int .i64 x] := e4
   have q5 : [a5] = [Value.int .i64 y] := e5
   obtain rfl : a0 = .int .i64 o := by simpa using q0
   obtain rfl : a1 = .int .i64 k := by simpa using q1
   obtain rfl : a2 = .int .i64 n := by simpa using q2
   obtain rfl : a3 = .string s := by simpa using q3
   obtain rfl : a4 = .int .i64 x := by simpa using q4
   obtain rfl : a5 = .int .i64 y := by simpa using q5
   exact ⟨⟨o, ⟨k, n, s.data.toList, x, y⟩⟩, by unfold ncl; dsimp only; rw [tx_of]⟩
end
theorem ncl_lt {n : No} {j : Nat} {v : Value} (h : (ncl n)[j]? = some v) : j < 6 := by
 rcases Nat.lt_or_ge j 6 with h1 | h1
 · exact h1
 · rw [List.getElem?_eq_none (by show 6 ≤ j; exact h1)] at h; cases h
theorem plain_addr {w : World} {a : Addr} {v : Value} (h : w.cell? a = some v) : a = ⟨a.block, a.off, none⟩ := by
 obtain ⟨b, off, spot⟩ := a
 have hspot : spot = none := World.cell?_spot h
 subst hspot; rfl
def NdIn (w : World) (p : Option Addr) (n : Nat) (l : List No) : Prop := l.length = n ∧ Nds w p l ∧ n ≤ maxLen
set_option maxRecDepth 100000 in
theorem nodes_of {H : Type} {enc : TypeId × Value → H} {W : World} {p : Option Addr} {n c : Nat} {d : DataW H} {ps : List MemPlace} (h : DataW.Trod enc Tryz.prog W 0 (fun _ => true) true 22 (.slice p n c) d ps) : ∃ l : List No, NdIn W p n l := by
 have c5 : Tryz.prog.cellsOf 57 = 6 := by kernel_rfl
 obtain ⟨fuel, hf⟩ := h
 rcases Go.Deep.open_slice Tryz.underlying22 hf with ⟨hcs, _⟩ | ⟨a, len, cap, m, f, D, Pl, hcs, _, hlc, hcm, hm, _, hall⟩
 · simp [Value.cells] at hcs
   obtain ⟨rfl, rfl, rfl⟩ := hcs
   exact ⟨[], rfl, Nds.nil _ _, Nat.zero_le _⟩
 · simp [Value.cells] at hcs
   obtain ⟨rfl, rfl, rfl⟩ := hcs
   simp at hm
   subst hm
   have hz : ∀ i, i < m → ∃ q : No, ∀ j v, (ncl q)[j]? = some v → W.cell? ((a.add (i * 6)).add j) = some v := fun i hi => by
    obtain ⟨cs', hc, ht⟩ := hall i hi
    rw [c5] at hc
    obtain ⟨q, rfl⟩ := node_cells ht
    obtain ⟨_, _, hat⟩ := World.cells?_some hc
    exact ⟨q, fun j v hv => by rw [hat j (ncl_lt hv)]; exact hv⟩
   obtain ⟨q, hq⟩ := Go.Deep.choose_lt hz
   have hget : ∀ i, i < n → nd ((List.range n).map q) i = q i := fun i hi => by unfold nd; simp [hi]
   refine ⟨(List.range n).map q, by simp, fun hn => ?_, Nat.le_trans hlc hcm⟩
   have hn' : 0 < n := by simpa using hn
   have h0 := hq 0 (by omega) 0 _ rfl
   have ha := plain_addr (show W.cell? a = _ by simpa [Addr.add] using h0)
   refine ⟨a.block, a.off, congrArg some ha, fun i j v hi hv => ?_⟩
   have hi' : i < n := by simpa using hi
   rw [hget i hi'] at hv
   have := hq i (by omega) j v hv
   rw [ha, Go.WideShapes.add_plain, Go.WideShapes.add_plain] at this
   exact this
def enx (n : Nat) : Option (List No) → Value
 | some r => .tuple #[.int .i64 ((n - r.length : Nat) : Int), .bool true]
 | none => .tuple #[.int .i64 0, .bool false]
theorem rnv_nd (n : No) : rnv n.o n.v.k n.v.n (tx n.v.s) n.v.x n.v.y = rn n := by unfold rnv; rw [tx_list]
theorem rn_range {n : No} (h : rn n = true) : 0 ≤ n.o ∧ n.o ≤ 29 := by
 rcases rn_cases h with ⟨h, _⟩ | ⟨h, _⟩ | ⟨h, _⟩ <;> omega
theorem ex_drop_len {d k : Nat} {l r : List No} (h : ex d (l.drop k) = some r) (hk : k ≤ l.length) : r = l.drop (l.length - r.length) ∧ k < l.length - r.length ∧ r.length ≤ l.length := by
 obtain ⟨h1, h2⟩ := ex_len h
 rw [List.length_drop] at h1 h2
 rw [List.drop_drop] at h2
 refine ⟨?_, by omega, by omega⟩
 rw [show k + (l.length - k - r.length) = l.length - r.length by omega] at h2
 exact h2
theorem end_out {l : List No} {A : Option Addr} {c k wi : Nat} {w : World} (d : Nat) (hk : ¬ k < l.length) : Calls Tryz.prog 107 #[.slice A l.length c, .int .i64 (k : Int), .int .i64 (wi : Int)] w (Gives (enx l.length (ex d (l.drop k))) w) := by
 have HE : Hid (enx l.length (ex d (l.drop k)) = .tuple #[.int .i64 0, .bool false]) := by
  show _ = _
  rw [List.drop_of_length_le (by omega), ex_nil]; rfl
 go_enter Tryz.func107, Tryz.ntmps107
 go_wp2_with (fail)
 go_ret2
 exact ⟨by rw [HE.out]; rfl, Below.refl _ _⟩
theorem end_deep {l : List No} {A : Option Addr} {c k : Nat} {w : World} (hk : k < l.length) : Calls Tryz.prog 107 #[.slice A l.length c, .int .i64 (k : Int), .int .i64 25] w (Gives (enx l.length (ex 0 (l.drop k))) w) := by
 have HE : Hid (enx l.length (ex 0 (l.drop k)) = .tuple #[.int .i64 0, .bool false]) := rfl
 go_enter Tryz.func107, Tryz.ntmps107
 go_wp2_with (fail)
 go_ret2
 exact ⟨by rw [HE.out]; rfl, Below.refl _ _⟩
set_option maxRecDepth 100000 in
set_option maxHeartbeats 4000000 in
theorem end_any : ∀ (d : Nat) (l : List No) (A : Option Addr) (c k wi : Nat) (w : World), Nds w A l → KN w → wi + d = 25 → l.length ≤ 4294967296 → Calls Tryz.prog 107 #[.slice A l.length c, .int .i64 (k : Int), .int .i64 (wi : Int)] w (Gives (enx l.length (ex d (l.drop k))) w)
 | d, l, A, c, k, wi, w, hn, hkn, hwi, hl => by
   by_cases hk : k < l.length
   · cases d with
     | zero =>
       obtain rfl : wi = 25 := by omega
       exact end_deep hk
     | succ d =>
       have ih := end_any d
       obtain ⟨B, O, rfl⟩ := hn.shape (by omega)
       have HI : Hid (∀ (k wi : Nat) (w : World), Nds w (some ⟨B, O, none⟩) l → KN w → wi + d = 25 → Calls Tryz.prog 107 #[.slice (some ⟨B, O, none⟩) l.length c, .int .i64 (k : Int), .int .i64 (wi : Int)] w (Gives (enx l.length (ex d (l.drop k))) w)) :=
        fun k wi w h1 h2 h3 => ih l (some ⟨B, O, none⟩) c k wi w h1 h2 h3 hl
       clear ih
       have hw : wi ≤ 24 := by omega
       have HE1 : Hid (ex (d + 1) (l.drop k) = if rn (nd l k) = true then it (ex d) (pa (nd l k).o) (l.drop (k + 1)) else none) := by
        show _ = _
        rw [drop_nd hk, ex_cons]
       have HW : Hid (wi + 1 + d = 25) := by show _ = _; omega
       have HN := Lib.hid hn
       have HK := Lib.hid hkn
       clear hn hkn hwi
       have e0 := HN.out.cell hk 0 _ rfl
       have e1 := HN.out.cell hk 1 _ rfl
       have e2 := HN.out.cell hk 2 _ rfl
       have e3 := HN.out.cell hk 3 _ rfl
       have e4 := HN.out.cell hk 4 _ rfl
       have e5 := HN.out.cell hk 5 _ rfl
       rw [Nat.add_zero] at e0
       have HR : Hid (∀ w, KN w → Calls Tryz.prog 172 #[.agg #[.int .i64 (nd l k).o, .int .i64 (nd l k).v.k, .int .i64 (nd l k).v.n, .string (tx (nd l k).v.s), .int .i64 (nd l k).v.x, .int .i64 (nd l k).v.y]] w (Gives (.bool (rn (nd l k))) w)) := fun w h => by
        rw [← rnv_nd]; exact rightNode_any _ _ _ _ _ _ w h
       rcases Bool.eq_false_or_eq_true (rn (nd l k)) with hr | hr
       · obtain ⟨i, hi⟩ : ∃ i : Nat, (nd l k).o = (i : Int) := ⟨(nd l k).o.toNat, by have := rn_range hr; omega⟩
         have hi30 : i < 30 := by have := rn_range hr; omega
         have HE : Hid (ex (d + 1) (l.drop k) = it (ex d) ptl[i]! (l.drop (k + 1))) := by
          show _ = _
          rw [HE1.out, if_pos hr, hi, pa_at hi30]
         have hp3 : ptl[i]! ≤ 3 := by rw [← pa_at hi30]; exact pa_le _
         rw [hr, hi] at HR
         rw [hi] at e0
         clear HE1 hr hi
         generalize ex (d + 1) (l.drop k) = Z at *
         generalize hpp : ptl[i]! = p at *
         have HPP := Lib.hid hpp
         clear hpp
         have HW0 : Hid (B < w.heap.size) := HN.out.lt (by omega)
         have hd1 : decide (l.length ≤ k) = false := decide_eq_false (by omega)
         have hd2 : decide ((24 : Int) < (wi : Int)) = false := decide_eq_false (by omega)
         go_enter Tryz.func107, Tryz.ntmps107
         go_wp2_with (fail)
         refine (HR.out _ HK.out).mono ?_
         rintro e w1 ⟨rfl, hb⟩
         have HN1 := Lib.hid (HN.out.next hb)
         have HK1 := Lib.hid (HK.out.next hb)
         have HB := Lib.hid hb
         have f0 : w1.cell? ⟨B, O + k * 6, none⟩ = some (.int .i64 (i : Int)) := (hb.cell (p := ⟨B, O + k * 6, none⟩) HW0.out).trans e0
         clear hb e0 e1 e2 e3 e4 e5 HR HN HK HW0
         have cK := HK1.out.parts i hi30
         rw [HPP.out, Nat.mul_comm] at cK
         go_wp2_with (fail)
         clear f0 cK
         go_loopw [8, 37] (fun bh j wr => ∃ y q : Nat, q ≤ p ∧ y ≤ l.length ∧ j = .int .i64 (q : Int) ∧ bh = .int .i64 (y : Int) ∧ Z = it (ex d) (p - q) (l.drop y) ∧ Below w1.heap.size w1 wr) (fun _ j _ => p - (intOf j).toNat)
         case atStart => exact ⟨k + 1, 0, Nat.zero_le _, by omega, rfl, rfl, HE.out, Below.refl _ _⟩
         case round =>
          obtain ⟨y, q, hq, hy, rfl, rfl, hz, hb⟩ := hrel
          have HB1 := Lib.hid hb
          have HZ := Lib.hid hz
          clear hb hz
          by_cases hlt : q < p
          · have HC := Lib.hid (HI.out y (wi + 1) wr (HN1.out.next HB1.out) (HK1.out.next HB1.out) HW.out)
            have HZ1 : Hid (Z = (ex d (l.drop y)).bind (it (ex d) (p - (q + 1)))) := by
             show _ = _
             rw [HZ.out, show p - q = (p - (q + 1)) + 1 by omega, it_succ]
            clear HZ
            obtain ⟨x, hx⟩ : ∃ x, ex d (l.drop y) = x := ⟨_, rfl⟩
            rw [hx] at HC HZ1
            have HX := Lib.hid hx
            clear hx
            cases x with
            | none =>
              have HEE : Hid (enx l.length Z = .tuple #[.int .i64 0, .bool false]) := by show _ = _; rw [HZ1.out]; rfl
              clear HZ1
              unfold enx at HC
              go_wp2_with (fail)
              refine HC.out.mono ?_
              rintro e w2 ⟨rfl, hb⟩
              have HB2 := Lib.hid (Below.next HB.out (Below.next HB1.out hb))
              clear hb
              go_wp2_with (fail)
              go_ret2
              exact ⟨by rw [HEE.out]; rfl, HB2.out⟩
            | some r =>
              obtain ⟨g1, g2, g3⟩ := ex_drop_len HX.out hy
              obtain ⟨v, hv⟩ : ∃ v, l.length - r.length = v := ⟨_, rfl⟩
              rw [hv] at g1 g2
              have HZ2 : Hid (Z = it (ex d) (p - (q + 1)) (l.drop v)) := by show _ = _; rw [HZ1.out, ← g1]; rfl
              unfold enx at HC
              dsimp only at HC
              rw [hv] at HC
              have hv2 : v ≤ l.length := by omega
              clear HZ1 g1 hv HX
              go_wp2_with (fail)
              refine HC.out.mono ?_
              rintro e w2 ⟨rfl, hb⟩
              have HB2 := Lib.hid (Below.next HB1.out hb)
              clear hb
              go_wp2_with (fail)
              go_roundw
              case rel => exact ⟨v, q + 1, by omega, hv2, by go_num, rfl, HZ2.out, HB2.out⟩
              case measure => simp [intOf]; omega
          · have HEE : Hid (enx l.length Z = .tuple #[.int .i64 (y : Int), .bool true]) := by
             show _ = _
             rw [HZ.out, show p - q = 0 by omega, it_zero]
             show Value.tuple #[.int .i64 ((l.length - (l.drop y).length : Nat) : Int), .bool true] = _
             rw [List.length_drop, show l.length - (l.length - y) = y by omega]
            have HB2 := Lib.hid (Below.next HB.out HB1.out)
            clear HZ
            go_wp2_with (fail)
            go_ret2
            exact ⟨by rw [HEE.out]; rfl, HB2.out⟩
       · have HE : Hid (enx l.length (ex (d + 1) (l.drop k)) = .tuple #[.int .i64 0, .bool false]) := by
          show _ = _
          rw [HE1.out, if_neg (by rw [hr]; decide)]; rfl
         rw [hr] at HR
         clear HE1 hr
         go_enter Tryz.func107, Tryz.ntmps107
         go_wp2_with (fail)
         refine (HR.out _ HK.out).mono ?_
         rintro e w1 ⟨rfl, hb⟩
         have HB := Lib.hid hb
         clear hb
         go_wp2_with (fail)
         go_ret2
         exact ⟨by rw [HE.out]; rfl, HB.out⟩
   · exact end_out d hk
theorem Rt_val (l : List No) : Rt l = (decide (l.length ≤ 400) && decide (ex 25 l = some [])) := by
 unfold Rt
 rw [Bool.eq_iff_iff]; simp
set_option maxRecDepth 100000 in
theorem eright_any (l : List No) (A : Option Addr) (c : Nat) (w : World) (hn : Nds w A l) (hk : KN w) (hl : l.length ≤ 4294967296) : Calls Tryz.prog 66 #[.slice A l.length c] w (Gives (.bool (Rt l)) w) := by
 rw [Rt_val]
 by_cases h4 : l.length ≤ 400
 · rw [decide_eq_true h4, Bool.true_and]
   have HC := Lib.hid (end_any 25 l A c 0 0 w hn hk rfl hl)
   rw [List.drop_zero] at HC
   clear hn hk
   obtain ⟨x, hx⟩ : ∃ x, ex 25 l = x := ⟨_, rfl⟩
   rw [hx] at HC ⊢
   have HX := Lib.hid hx; clear hx
   cases x with
   | none =>
     rw [decide_eq_false (show ¬ (none : Option (List No)) = some [] by simp)]
     unfold enx at HC
     go_enter Tryz.func66, Tryz.ntmps66
     go_wp2_with (fail)
     refine HC.out.mono ?_
     rintro e w1 ⟨rfl, hb⟩
     have HB := Lib.hid hb; clear hb
     go_wp2_with (fail)
     go_ret
     exact ⟨rfl, HB.out⟩
   | some r =>
     have hr := (ex_len HX.out).1
     unfold enx at HC
     dsimp only at HC
     obtain ⟨v, hv⟩ : ∃ v, l.length - r.length = v := ⟨_, rfl⟩
     rw [hv] at HC
     have HE : decide (some r = some ([] : List No)) = ((v : Int) == (l.length : Int)) := by
      rw [Bool.eq_iff_iff]
      simp only [decide_eq_true_eq, beq_iff_eq, Option.some.injEq]
      constructor
      · rintro rfl; rw [List.length_nil] at hv; omega
      · intro h; exact List.eq_nil_of_length_eq_zero (by omega)
     rw [HE]
     clear HE hv HX hr
     go_enter Tryz.func66, Tryz.ntmps66
     go_wp2_with (fail)
     refine HC.out.mono ?_
     rintro e w1 ⟨rfl, hb⟩
     have HB := Lib.hid hb; clear hb
     go_wp2_with (fail)
     go_ret
     exact ⟨rfl, HB.out⟩
 · rw [decide_eq_false h4, Bool.false_and]
   have h5 : 400 < l.length := by omega
   clear hn hk
   go_enter Tryz.func66, Tryz.ntmps66
   go_wp2_with (fail)
   go_ret
   exact ⟨rfl, Below.refl _ _⟩
def hasN (l : List No) (k i : Nat) : Bool := (l.take k).any fun n => n.o == 1 && n.v.n == (i : Int)
def hasL (l : List No) (k : Nat) : List Value := (List.range 5).map fun i => Value.bool (hasN l k i)
theorem hasN_succ {l : List No} {k : Nat} (h : k < l.length) (i : Nat) : hasN l (k + 1) i = (hasN l k i || ((nd l k).o == 1 && (nd l k).v.n == (i : Int))) := by
 unfold hasN
 rw [nd_at h, List.take_succ_eq_append_getElem h, List.any_append]; simp
theorem hasL_zero (l : List No) : hasL l 0 = [.bool false, .bool false, .bool false, .bool false, .bool false] := rfl
theorem hasL_other {l : List No} {k : Nat} (h : k < l.length) (ho : (nd l k).o ≠ 1) : hasL l (k + 1) = hasL l k := by
 unfold hasL
 apply List.map_congr_left
 intro i _
 rw [hasN_succ h, show ((nd l k).o == 1) = false from beq_eq_false_iff_ne.2 ho]; simp
theorem hasL_name {l : List No} {k j : Nat} (h : k < l.length) (ho : (nd l k).o = 1) (hj : (nd l k).v.n = (j : Int)) (hj5 : j < 5) : hasL l (k + 1) = (hasL l k).set j (.bool true) := by
 apply List.ext_getElem?
 intro i
 unfold hasL
 rw [List.getElem?_set]
 by_cases hi : i < 5
 · rw [List.getElem?_map, List.getElem?_range hi]
   simp only [Option.map_some]
   rw [hasN_succ h, ho, hj]
   by_cases e : j = i
   · subst e
     rw [if_pos rfl, if_pos (by simpa using hj5)]; simp
   · rw [if_neg e, List.getElem?_map, List.getElem?_range hi]
     have e2 : ((j : Int) == (i : Int)) = false := by rw [beq_eq_false_iff_ne]; omega
     rw [e2]; simp
 · rw [List.getElem?_eq_none (by simp; omega)]
   by_cases e : j = i
   · omega
   · rw [if_neg e, List.getElem?_eq_none (by simp; omega)]
theorem hasL_get (l : List No) (k : Nat) {i : Nat} (hi : i < 5) : (hasL l k)[i]? = some (.bool (hasN l k i)) := by
 unfold hasL
 rw [List.getElem?_map, List.getElem?_range hi]; rfl
def hnv (l : List No) (k : Nat) : Value := .agg #[.bool (hasN l k 0), .bool (hasN l k 1), .bool (hasN l k 2), .bool (hasN l k 3), .bool (hasN l k 4)]
def nmv (l : List No) : Value := if Rt l = true then hnv l l.length else .agg #[.bool false, .bool false, .bool false, .bool false, .bool false]
theorem Rt_names {l : List No} (h : Rt l = true) : ∀ k, k < l.length → rn (nd l k) = true := by
 intro k hk
 obtain ⟨_, hex⟩ := Rt_in h
 obtain ⟨r', h'⟩ := ex_each 25 l [] hex k (by simpa using hk)
 rw [drop_nd hk, ex_cons] at h'
 rcases Bool.eq_false_or_eq_true (rn (nd l k)) with hr | hr
 · exact hr
 · rw [hr] at h'; cases h'
theorem name_in {n : No} (h : rn n = true) (ho : n.o = 1) : ∃ j : Nat, n.v.n = (j : Int) ∧ j < 5 := by
 rcases rn_cases h with ⟨h1, _⟩ | ⟨_, _, h1⟩ | ⟨h1, _⟩
 · omega
 · exact ⟨n.v.n.toNat, by omega, by omega⟩
 · omega
set_option maxRecDepth 100000 in
set_option maxHeartbeats 4000000 in
theorem names_any (l : List No) (A : Option Addr) (c : Nat) (w : World) (hn : Nds w A l) (hk : KN w) (hl : l.length ≤ 4294967296) : Calls Tryz.prog 111 #[.slice A l.length c] w (Gives (nmv l) w) := by
 have HN := Lib.hid hn; have HK := Lib.hid hk
 clear hn hk
 obtain ⟨q, hq⟩ : ∃ q, Rt l = q := ⟨_, rfl⟩
 have HQ := Lib.hid hq
 go_enter Tryz.func111, Tryz.ntmps111
 go_wp2_with (fail)
 have hb2 := box2 w (.cells #[.bool false, .bool false, .bool false, .bool false, .bool false] 121) (.cells #[.bool false, .bool false, .bool false, .bool false, .bool false] 121)
 have D2 : Blk ((w.alloc (.cells #[.bool false, .bool false, .bool false, .bool false, .bool false] 121)).alloc (.cells #[.bool false, .bool false, .bool false, .bool false, .bool false] 121)) w.heap.size (hasL l 0) := (Blk.made w 121 (hasL l 0) rfl).old _
 have D3 : Blk ((w.alloc (.cells #[.bool false, .bool false, .bool false, .bool false, .bool false] 121)).alloc (.cells #[.bool false, .bool false, .bool false, .bool false, .bool false] 121)) (w.heap.size + 1) (hasL l 0) := Blk.made (w.alloc (.cells #[.bool false, .bool false, .bool false, .bool false, .bool false] 121)) 121 (hasL l 0) (World.size_alloc _ _)
 generalize (w.alloc (.cells #[.bool false, .bool false, .bool false, .bool false, .bool false] 121)).alloc (.cells #[.bool false, .bool false, .bool false, .bool false, .bool false] 121) = v at *
 have HC := Lib.hid (eright_any l A c v (HN.out.next hb2) (HK.out.next hb2) hl)
 rw [hq] at HC
 refine HC.out.mono ?_
 rintro e w1 ⟨rfl, hb⟩
 have HB1 := Lib.hid (Below.next hb2 hb)
 have HD2 := Lib.hid (D2.next hb)
 have HD3 := Lib.hid (D3.next hb)
 clear hb hb2 D2 D3 HK HC hq
 cases q with
 | false =>
   have HE : Hid (nmv l = .agg #[.bool false, .bool false, .bool false, .bool false, .bool false]) := by show _ = _; unfold nmv; rw [if_neg (by rw [HQ.out]; decide)]
   have HZ2 := Lib.hid (HD2.out.cast (hasL_zero l))
   have HZ3 := Lib.hid (HD3.out.cast (hasL_zero l))
   obtain ⟨d0, d1, d2, d3, d4⟩ := ck5 HZ3.out
   have a0 := HZ2.out.c 0 _ rfl; have a1 := HZ2.out.c 1 _ rfl; have a2 := HZ2.out.c 2 _ rfl; have a3 := HZ2.out.c 3 _ rfl; have a4 := HZ2.out.c 4 _ rfl
   have f0 := HZ2.out.f 0 _ rfl; have f1 := HZ2.out.f 1 _ rfl; have f2 := HZ2.out.f 2 _ rfl; have f3 := HZ2.out.f 3 _ rfl; have f4 := HZ2.out.f 4 _ rfl
   clear HD2 HD3
   go_wp2_with (fail)
   have RF := ((((HZ2.out.set 0 (.bool false)).set 1 (.bool false)).set 2 (.bool false)).set 3 (.bool false)).set 4 (.bool false)
   have c0 := RF.c 0 _ rfl; have c1 := RF.c 1 _ rfl; have c2 := RF.c 2 _ rfl; have c3 := RF.c 3 _ rfl; have c4 := RF.c 4 _ rfl
   clear RF
   rw [HE.out]
   refine bodyPost_ret (v := .agg #[.bool false, .bool false, .bool false, .bool false, .bool false]) (by simp [results, Tryz.results111, go_sem, c0, c1, c2, c3, c4]) rfl ⟨rfl, ?_⟩
   exact below_all5 HB1.out (Nat.le_refl _) _ _ _ _ _
 | true =>
   have HE : Hid (nmv l = hnv l l.length) := by show _ = _; unfold nmv; rw [if_pos HQ.out]
   have HRN := Lib.hid (Rt_names HQ.out)
   have hsz : w.heap.size + 1 < w1.heap.size := HD3.out.lt
   go_wp2_with (fail)
   go_loopw [12] (fun i wr => ∃ k : Nat, k ≤ l.length ∧ i = .int .i64 (k : Int) ∧ Below w.heap.size w wr ∧ Blk wr w.heap.size (hasL l 0) ∧ Blk wr (w.heap.size + 1) (hasL l k)) (fun i _ => l.length - (intOf i).toNat)
   case atStart => exact ⟨0, Nat.zero_le _, rfl, HB1.out, HD2.out, HD3.out⟩
   case round =>
    obtain ⟨k, hk, rfl, hb, hz2, hz3⟩ := hrel
    have HB := Lib.hid hb; have HN1 := Lib.hid (HN.out.next hb); have HZ2 := Lib.hid hz2; have HZ3 := Lib.hid hz3
    clear hb hz2 hz3 HD2 HD3 HB1 hsz
    by_cases hlt : k < l.length
    · obtain ⟨G, O, rfl⟩ := HN1.out.shape (by omega)
      have e0 := HN1.out.cell hlt 0 _ rfl
      have e1 := HN1.out.cell hlt 1 _ rfl
      have e2 := HN1.out.cell hlt 2 _ rfl
      have e3 := HN1.out.cell hlt 3 _ rfl
      have e4 := HN1.out.cell hlt 4 _ rfl
      have e5 := HN1.out.cell hlt 5 _ rfl
      rw [Nat.add_zero] at e0
      have hgl : G < wr.heap.size := HN1.out.lt (by omega)
      have hzl := HZ3.out.lt
      have hlo := HB.out.size
      by_cases ho : (nd l k).o = 1
      · obtain ⟨j, hj, hj5⟩ := name_in (HRN.out k hlt) ho
        have HL := Lib.hid (hasL_name hlt ho hj hj5)
        rw [ho] at e0
        rw [hj] at e2
        clear ho hj
        generalize nd l k = n at *
        have hb1 := box1 wr (.cells #[.int .i64 1, .int .i64 n.v.k, .int .i64 (j : Int), .string (tx n.v.s), .int .i64 n.v.x, .int .i64 n.v.y] 118)
        have HZ4 := Lib.hid (HZ3.out.next hb1)
        have HY4 := Lib.hid (HZ2.out.next hb1)
        have HB4 := Lib.hid (Below.next HB.out hb1)
        have b3 := HZ4.out.c j _ (hasL_get l k hj5)
        have f3 := HZ4.out.f j _ (hasL_get l k hj5)
        clear hb1
        go_wp2_with (fail)
        go_roundw
        case rel => exact ⟨k + 1, by omega, by go_num, (HB.out.setCell (p := ⟨w.heap.size + 1, j, none⟩) (Nat.le_succ _) _).alloc (by simp; omega) _, (HZ2.out.put (c := w.heap.size + 1) (by omega) j (.bool true)).old _, ((HZ3.out.set j (.bool true)).old _).cast HL.out.symm⟩
        case measure => simp [intOf]; omega
      · have HL := Lib.hid (hasL_other hlt ho)
        have g1 : ((nd l k).o == 1) = false := beq_eq_false_iff_ne.2 ho
        clear ho
        generalize nd l k = n at *
        have hb1 := box1 wr (.cells #[.int .i64 n.o, .int .i64 n.v.k, .int .i64 n.v.n, .string (tx n.v.s), .int .i64 n.v.x, .int .i64 n.v.y] 118)
        have HZ4 := Lib.hid (HZ3.out.next hb1)
        have HY4 := Lib.hid (HZ2.out.next hb1)
        have HB4 := Lib.hid (Below.next HB.out hb1)
        clear hb1
        go_wp2_with (fail)
        go_roundw
        case rel => exact ⟨k + 1, by omega, by go_num, HB4.out, HY4.out, HZ4.out.cast HL.out.symm⟩
        case measure => simp [intOf]; omega
    · obtain rfl : k = l.length := by omega
      have HY := Lib.hid (HZ2.out.cast (hasL_zero l))
      have d0 := HZ3.out.c 0 _ (hasL_get l _ (by omega)); have d1 := HZ3.out.c 1 _ (hasL_get l _ (by omega)); have d2 := HZ3.out.c 2 _ (hasL_get l _ (by omega)); have d3 := HZ3.out.c 3 _ (hasL_get l _ (by omega)); have d4 := HZ3.out.c 4 _ (hasL_get l _ (by omega))
      obtain ⟨a0, a1, a2, a3, a4⟩ := ck5 HY.out
      have f0 := HY.out.f 0 _ rfl; have f1 := HY.out.f 1 _ rfl; have f2 := HY.out.f 2 _ rfl; have f3 := HY.out.f 3 _ rfl; have f4 := HY.out.f 4 _ rfl
      have HRES : Hid (nmv l = .agg #[.bool (hasN l l.length 0), .bool (hasN l l.length 1), .bool (hasN l l.length 2), .bool (hasN l l.length 3), .bool (hasN l l.length 4)]) := HE.out
      clear HE HZ2 HZ3
      generalize hasN l l.length 0 = p0 at *
      generalize hasN l l.length 1 = p1 at *
      generalize hasN l l.length 2 = p2 at *
      generalize hasN l l.length 3 = p3 at *
      generalize hasN l l.length 4 = p4 at *
      go_wp2_with (fail)
      have RF := ((((HY.out.set 0 (.bool p0)).set 1 (.bool p1)).set 2 (.bool p2)).set 3 (.bool p3)).set 4 (.bool p4)
      have c0 := RF.c 0 _ rfl; have c1 := RF.c 1 _ rfl; have c2 := RF.c 2 _ rfl; have c3 := RF.c 3 _ rfl; have c4 := RF.c 4 _ rfl
      clear RF
      rw [HRES.out]
      refine bodyPost_ret (v := .agg #[.bool p0, .bool p1, .bool p2, .bool p3, .bool p4]) (by simp [results, Tryz.results111, go_sem, c0, c1, c2, c3, c4]) rfl ⟨rfl, ?_⟩
      exact below_all5 HB.out (Nat.le_refl _) _ _ _ _ _
end Go.Proofs.YtimllihegnokeaaGreatDoor.Ex
namespace Go.Proofs.YtimllihegnokeaaGreatDoor.Ov
open Go.ChangeShapes Go.WideShapes Go.ChangeAt Go.RowKit
structure Duo (w : World) (b : Nat) (u v : Value) : Prop where
 c0 : w.cell? ⟨b, 0, none⟩ = some u
 c1 : w.cell? ⟨b, 1, none⟩ = some v
 f0 : w.frozen? ⟨b, 0, none⟩ = false
 f1 : w.frozen? ⟨b, 1, none⟩ = false
section
variable {w w' : World} {b : Nat} {u v : Value}
theorem Duo.lt (h : Duo w b u v) : b < w.heap.size := block_lt_of_cell h.c0
theorem Duo.next (h : Duo w b u v) (k : Below w.heap.size w w') : Duo w' b u v :=
 ⟨(k.cell (p := ⟨b, 0, none⟩) h.lt).trans h.c0, (k.cell (p := ⟨b, 1, none⟩) h.lt).trans h.c1, (k.frozen (p := ⟨b, 0, none⟩) h.lt).trans h.f0, (k.frozen (p := ⟨b, 1, none⟩) h.lt).trans h.f1⟩
theorem Duo.old (h : Duo w b u v) (o : Obj) : Duo (w.alloc o) b u v := h.next ((Below.refl _ _).alloc (Nat.le_refl _) _)
theorem Duo.made (w : World) (t : TypeId) (u v : Value) : Duo (w.alloc (.cells #[u, v] t)) w.heap.size u v :=
 ⟨by simp [World.cell?_alloc_new], by simp [World.cell?_alloc_new], by simp [World.frozen?_alloc_new], by simp [World.frozen?_alloc_new]⟩
theorem Duo.drew (h : Duo w b u v) : Duo w.drew b u v := ⟨h.c0, h.c1, h.f0, h.f1⟩
theorem Duo.over (h : Duo w b u v) (q : Over w) : Duo q.val b u v := h.next q.property
theorem Duo.put (h : Duo w b u v) {c : Nat} (hc : c ≠ b) (o : Nat) (z : Value) : Duo (w.setCell ⟨c, o, none⟩ z) b u v :=
 ⟨by rw [World.cell?_setCell_other _ _ _ _ (fun e => hc (congrArg Addr.block e))]; exact h.c0, by rw [World.cell?_setCell_other _ _ _ _ (fun e => hc (congrArg Addr.block e))]; exact h.c1,
  by rw [World.frozen?_setCell]; exact h.f0, by rw [World.frozen?_setCell]; exact h.f1⟩
theorem Duo.put2 (h : Duo w b u v) {c : Nat} (hc : c ≠ b) (y z : Value) : Duo ((w.setCell ⟨c, 0, none⟩ y).setCell ⟨c, 1, none⟩ z) b u v := (h.put hc 0 y).put hc 1 z
theorem Duo.set (h : Duo w b u v) (y z : Value) : Duo ((w.setCell ⟨b, 0, none⟩ y).setCell ⟨b, 1, none⟩ z) b y z := by
 have n1 : (⟨b, 0, none⟩ : Addr) ≠ ⟨b, 1, none⟩ := fun e => by injection e with _ e; cases e
 have c0 : (w.setCell ⟨b, 0, none⟩ y).cell? ⟨b, 0, none⟩ = some y := World.cell?_setCell_same _ _ _ h.c0
 have c1 : (w.setCell ⟨b, 0, none⟩ y).cell? ⟨b, 1, none⟩ = some v := by rw [World.cell?_setCell_other _ _ _ _ n1]; exact h.c1
 exact ⟨by rw [World.cell?_setCell_other _ _ _ _ n1.symm]; exact c0, World.cell?_setCell_same _ _ _ c1, by rw [World.frozen?_setCell, World.frozen?_setCell]; exact h.f0, by rw [World.frozen?_setCell, World.frozen?_setCell]; exact h.f1⟩
theorem below_put2 {B : Nat} {a : World} (h : Below B a w) {c : Nat} (hc : B ≤ c) (y z : Value) : Below B a ((w.setCell ⟨c, 0, none⟩ y).setCell ⟨c, 1, none⟩ z) := (h.setCell (p := ⟨c, 0, none⟩) hc y).setCell (p := ⟨c, 1, none⟩) hc z
theorem Holds.duo {t : TypeId} {y : World} (h : Holds w (.cells #[u, v] t) b y) : Duo y b u v := ⟨h.cell 0, h.cell 1, h.frozen 0, h.frozen 1⟩
theorem Duo.made1 (w : World) (a : Obj) (t : TypeId) (u v : Value) : Duo ((w.alloc a).alloc (.cells #[u, v] t)) (w.heap.size + 1) u v := by
 have h := Duo.made (w.alloc a) t u v; rwa [World.size_alloc] at h
theorem Duo.made2 (w : World) (a b : Obj) (t : TypeId) (u v : Value) : Duo (((w.alloc a).alloc b).alloc (.cells #[u, v] t)) (w.heap.size + 1 + 1) u v := by
 have h := Duo.made ((w.alloc a).alloc b) t u v; rwa [World.size_alloc, World.size_alloc] at h
theorem Duo.made3 (w : World) (a b c : Obj) (t : TypeId) (u v : Value) : Duo ((((w.alloc a).alloc b).alloc c).alloc (.cells #[u, v] t)) (w.heap.size + 1 + 1 + 1) u v := by
 have h := Duo.made (((w.alloc a).alloc b).alloc c) t u v; rwa [World.size_alloc, World.size_alloc, World.size_alloc] at h
variable (t : TypeId) (x1 y1 x2 y2 x3 y3 x4 y4 : Value)
theorem boxes2 (w : World) : Below w.heap.size w ((w.alloc (.cells #[x1, y1] t)).alloc (.cells #[x2, y2] t)) ∧
 Duo ((w.alloc (.cells #[x1, y1] t)).alloc (.cells #[x2, y2] t)) w.heap.size x1 y1 ∧ Duo ((w.alloc (.cells #[x1, y1] t)).alloc (.cells #[x2, y2] t)) (w.heap.size + 1) x2 y2 :=
 ⟨box2 w _ _, (Duo.made w t x1 y1).old _, Duo.made1 w _ t x2 y2⟩
theorem boxes3 (w : World) : Below w.heap.size w (((w.alloc (.cells #[x1, y1] t)).alloc (.cells #[x2, y2] t)).alloc (.cells #[x3, y3] t)) ∧
 Duo (((w.alloc (.cells #[x1, y1] t)).alloc (.cells #[x2, y2] t)).alloc (.cells #[x3, y3] t)) w.heap.size x1 y1 ∧ Duo (((w.alloc (.cells #[x1, y1] t)).alloc (.cells #[x2, y2] t)).alloc (.cells #[x3, y3] t)) (w.heap.size + 1) x2 y2 ∧
 Duo (((w.alloc (.cells #[x1, y1] t)).alloc (.cells #[x2, y2] t)).alloc (.cells #[x3, y3] t)) (w.heap.size + 1 + 1) x3 y3 :=
 ⟨box3 w _ _ _, ((Duo.made w t x1 y1).old _).old _, (Duo.made1 w _ t x2 y2).old _, Duo.made2 w _ _ t x3 y3⟩
theorem boxes4 (w : World) : Below w.heap.size w ((((w.alloc (.cells #[x1, y1] t)).alloc (.cells #[x2, y2] t)).alloc (.cells #[x3, y3] t)).alloc (.cells #[x4, y4] t)) ∧
 Duo ((((w.alloc (.cells #[x1, y1] t)).alloc (.cells #[x2, y2] t)).alloc (.cells #[x3, y3] t)).alloc (.cells #[x4, y4] t)) w.heap.size x1 y1 ∧
 Duo ((((w.alloc (.cells #[x1, y1] t)).alloc (.cells #[x2, y2] t)).alloc (.cells #[x3, y3] t)).alloc (.cells #[x4, y4] t)) (w.heap.size + 1) x2 y2 ∧
 Duo ((((w.alloc (.cells #[x1, y1] t)).alloc (.cells #[x2, y2] t)).alloc (.cells #[x3, y3] t)).alloc (.cells #[x4, y4] t)) (w.heap.size + 1 + 1) x3 y3 ∧
 Duo ((((w.alloc (.cells #[x1, y1] t)).alloc (.cells #[x2, y2] t)).alloc (.cells #[x3, y3] t)).alloc (.cells #[x4, y4] t)) (w.heap.size + 1 + 1 + 1) x4 y4 :=
 ⟨box4 w _ _ _ _, (((Duo.made w t x1 y1).old _).old _).old _, ((Duo.made1 w _ t x2 y2).old _).old _, (Duo.made2 w _ _ t x3 y3).old _, Duo.made3 w _ _ _ t x4 y4⟩
end
end Go.Proofs.YtimllihegnokeaaGreatDoor.Ov
namespace Go.Proofs.YtimllihegnokeaaGreatDoor.Ga
open Go.ChangeShapes Go.WideShapes Go.ChangeAt Go.RowKit Ov
theorem alloc_spot (ρ : Operand → Value) (x : World) (d : Tmp) (p : String) (e : Array Edge) : (execOp ρ { dst := some d, op := Op.alloc 43, type := 0, pos := p, after := e, guard := none }).run Tryz.prog x = .ok (.value (.pointer (some ⟨x.heap.size, 0, none⟩))) (x.alloc (.cells #[.int .i64 0, .int .i64 0] 43)) := by
 simp [execOp, go_sem]
set_option maxHeartbeats 2000000 in
theorem divide_core (x y u v v' z1 z2 n q1 q2 r1 r2 : Int) (fx fy fu fv fv' fp fq re im re2 im2 re3 im3 : Nat) (w : World)
 (HC1 : Hid (∀ w, Calls Tryz.prog 189 #[.agg #[.int .i64 x, .int .i64 y]] w (Gives (.complex .f64 fx fy) w)))
 (HM : Hid (∀ w, Calls Tryz.prog 190 #[.agg #[.int .i64 u, .int .i64 v]] w (Gives (.agg #[.int .i64 u, .int .i64 v']) w)))
 (HC2 : Hid (∀ w, Calls Tryz.prog 189 #[.agg #[.int .i64 u, .int .i64 v']] w (Gives (.complex .f64 fu fv') w)))
 (hm1 : ∀ w : World, (binOp .mul 211 (.complex .f64 fx fy) (.complex .f64 fu fv')).run Tryz.prog w = .ok (.complex .f64 re im) w)
 (HS1 : Hid (∀ w, Calls Tryz.prog 188 #[.complex .f64 re im] w (Gives (.agg #[.int .i64 z1, .int .i64 z2]) w)))
 (HN : Hid (∀ w, Calls Tryz.prog 191 #[.agg #[.int .i64 u, .int .i64 v]] w (Gives (.int .i64 n) w)))
 (HQ1 : Hid (∀ w, Calls Tryz.prog 192 #[.int .i64 z1, .int .i64 n] w (Gives (.int .i64 q1) w)))
 (HQ2 : Hid (∀ w, Calls Tryz.prog 192 #[.int .i64 z2, .int .i64 n] w (Gives (.int .i64 q2) w)))
 (HC3 : Hid (∀ w, Calls Tryz.prog 189 #[.agg #[.int .i64 q1, .int .i64 q2]] w (Gives (.complex .f64 fp fq) w)))
 (HC4 : Hid (∀ w, Calls Tryz.prog 189 #[.agg #[.int .i64 u, .int .i64 v]] w (Gives (.complex .f64 fu fv) w)))
 (hm2 : ∀ w : World, (binOp .mul 211 (.complex .f64 fp fq) (.complex .f64 fu fv)).run Tryz.prog w = .ok (.complex .f64 re2 im2) w)
 (hm3 : ∀ w : World, (binOp .sub 211 (.complex .f64 fx fy) (.complex .f64 re2 im2)).run Tryz.prog w = .ok (.complex .f64 re3 im3) w)
 (HS2 : Hid (∀ w, Calls Tryz.prog 188 #[.complex .f64 re3 im3] w (Gives (.agg #[.int .i64 r1, .int .i64 r2]) w))) :
 Calls Tryz.prog 130 #[.agg #[.int .i64 x, .int .i64 y], .agg #[.int .i64 u, .int .i64 v]] w (Gives (.tuple #[.agg #[.int .i64 q1, .int .i64 q2], .agg #[.int .i64 r1, .int .i64 r2]]) w) := by
 go_enter Tryz.func130, Tryz.ntmps130
 go_wp2_with (fail)
 obtain ⟨hb, d2, d3, d4, d5⟩ := boxes4 43 (.int .i64 x) (.int .i64 y) (.int .i64 u) (.int .i64 v) (.int .i64 0) (.int .i64 0) (.int .i64 0) (.int .i64 0) w
 generalize (((w.alloc (.cells #[.int .i64 x, .int .i64 y] 43)).alloc (.cells #[.int .i64 u, .int .i64 v] 43)).alloc (.cells #[.int .i64 0, .int .i64 0] 43)).alloc (.cells #[.int .i64 0, .int .i64 0] 43) = w0 at *
 have HB := Lib.hid hb; clear hb
 have D2 := Lib.hid d2; have D3 := Lib.hid d3; have D4 := Lib.hid d4; have D5 := Lib.hid d5; clear d2 d3 d4 d5
 refine wp_over_alloc (O := .cells #[.int .i64 0, .int .i64 0] 43) 9 (by kernel_rfl) (by kernel_rfl) rfl rfl rfl (fun ρ x => alloc_spot ρ x _ _ _) (by kernel_rfl) ?_
 simp only [List.take_succ_cons, List.take_zero, List.drop_succ_cons, List.drop_zero]
 apply Exists.intro
 apply And.intro
 · intro x0
   have k1 : ∀ r : Over x0.val, r.val.cell? ⟨w.heap.size, 0, none⟩ = some (.int .i64 x) := fun r => ((D2.out.over x0).over r).c0
   have k2 : ∀ r : Over x0.val, r.val.cell? ⟨w.heap.size, 1, none⟩ = some (.int .i64 y) := fun r => ((D2.out.over x0).over r).c1
   have k3 : ∀ r : Over x0.val, r.val.cell? ⟨w.heap.size + 1, 0, none⟩ = some (.int .i64 u) := fun r => ((D3.out.over x0).over r).c0
   have k4 : ∀ r : Over x0.val, r.val.cell? ⟨w.heap.size + 1, 1, none⟩ = some (.int .i64 v) := fun r => ((D3.out.over x0).over r).c1
   repeat (go_big_quiet_step (first
    | with_reducible exact over_gives _ (HC1.out _)
    | with_reducible exact over_gives _ (HM.out _)
    | with_reducible exact over_gives _ (HC2.out _)
    | with_reducible exact over_gives _ (HS1.out _)
    | with_reducible exact over_gives _ (HN.out _)))
   refine wpQuiet_nil ?_
   rfl
 · rintro b w1 HO
   have hb := HO.1
   have DN := Lib.hid (HO.duo.set (.int .i64 z1) (.int .i64 z2))
   have hlo := HO.2.1
   obtain ⟨c0, c1, f0, f1⟩ := HO.duo
   have l2 := D2.out.lt; have l3 := D3.out.lt; have l4 := D4.out.lt; have l5 := D5.out.lt
   have E2 := Lib.hid ((D2.out.next hb).put2 (c := b) (by omega) (.int .i64 z1) (.int .i64 z2))
   have E3 := Lib.hid ((D3.out.next hb).put2 (c := b) (by omega) (.int .i64 z1) (.int .i64 z2))
   have E4 := Lib.hid ((D4.out.next hb).put2 (c := b) (by omega) (.int .i64 z1) (.int .i64 z2))
   have E5 := Lib.hid ((D5.out.next hb).put2 (c := b) (by omega) (.int .i64 z1) (.int .i64 z2))
   have HB2 := Lib.hid (below_put2 (Below.next HB.out hb) (c := b) (by omega) (.int .i64 z1) (.int .i64 z2))
   have hbl : b < w1.heap.size := block_lt_of_cell c0
   have HN4 : Hid (w.heap.size + 1 + 1 < b) := Lib.hid (by omega)
   have HN5 : Hid (w.heap.size + 1 + 1 + 1 < b) := Lib.hid (by omega)
   clear hb HO D2 D3 D4 D5 HB
   simp only [Act.put, List.setIfInBounds_toArray, List.set_cons_zero, List.set_cons_succ]
   go_wp2_with (fail)
   generalize ((w1.setCell ⟨b, 0, none⟩ (.int .i64 z1)).setCell ⟨b, 1, none⟩ (.int .i64 z2)) = w2 at *
   clear c0 c1 f0 f1 hbl hlo l2 l3 l4 l5
   have n2 : b ≠ w.heap.size + 1 + 1 := Nat.ne_of_gt HN4.out
   have n3 : b ≠ w.heap.size + 1 + 1 + 1 := Nat.ne_of_gt HN5.out
   refine wp_over_alloc (O := .cells #[.int .i64 0, .int .i64 0] 43) 9 (by kernel_rfl) (by kernel_rfl) rfl rfl rfl (fun ρ x => alloc_spot ρ x _ _ _) (by kernel_rfl) ?_
   simp only [List.take_succ_cons, List.take_zero, List.drop_succ_cons, List.drop_zero]
   apply Exists.intro
   apply And.intro
   · intro x0
     have k1 : ∀ r : Over x0.val, r.val.cell? ⟨b, 0, none⟩ = some (.int .i64 z1) := fun r => ((DN.out.over x0).over r).c0
     have k2 : ∀ r : Over x0.val, r.val.cell? ⟨b, 1, none⟩ = some (.int .i64 z2) := fun r => ((DN.out.over x0).over r).c1
     repeat (go_big_quiet_step (first
      | with_reducible exact over_gives _ (HQ1.out _)
      | with_reducible exact over_gives _ (HQ2.out _)))
     refine wpQuiet_nil ?_
     rfl
   · rintro c w3 HO
     have hb := HO.1
     have hlo := HO.2.1
     have l2 := E2.out.lt; have l3 := E3.out.lt; have l4 := E4.out.lt; have l5 := E5.out.lt
     have DC := Lib.hid (HO.duo.set (.int .i64 q1) (.int .i64 q2))
     have F2 := Lib.hid ((E2.out.next hb).put2 (c := c) (by omega) (.int .i64 q1) (.int .i64 q2))
     have F3 := Lib.hid ((E3.out.next hb).put2 (c := c) (by omega) (.int .i64 q1) (.int .i64 q2))
     have F4 := Lib.hid ((E4.out.next hb).put2 (c := c) (by omega) (.int .i64 q1) (.int .i64 q2))
     have F5 := Lib.hid ((E5.out.next hb).put2 (c := c) (by omega) (.int .i64 q1) (.int .i64 q2))
     have HB3 := Lib.hid (below_put2 (Below.next HB2.out hb) (c := c) (by have := HB2.out.size; omega) (.int .i64 q1) (.int .i64 q2))
     obtain ⟨c0, c1, f0, f1⟩ := HO.duo
     have hbl : c < w3.heap.size := block_lt_of_cell c0
     clear hb HO E2 E3 E4 E5 HB2 DN
     simp only [Act.put, List.setIfInBounds_toArray, List.set_cons_zero, List.set_cons_succ]
     go_wp2_with (fail)
     generalize ((w3.setCell ⟨c, 0, none⟩ (.int .i64 q1)).setCell ⟨c, 1, none⟩ (.int .i64 q2)) = w4 at *
     clear c0 c1 f0 f1 hbl hlo l2 l3 l4 l5
     have k1 : ∀ r : Over w4, r.val.cell? ⟨w.heap.size, 0, none⟩ = some (.int .i64 x) := fun r => (F2.out.over r).c0
     have k2 : ∀ r : Over w4, r.val.cell? ⟨w.heap.size, 1, none⟩ = some (.int .i64 y) := fun r => (F2.out.over r).c1
     have k3 : ∀ r : Over w4, r.val.cell? ⟨w.heap.size + 1, 0, none⟩ = some (.int .i64 u) := fun r => (F3.out.over r).c0
     have k4 : ∀ r : Over w4, r.val.cell? ⟨w.heap.size + 1, 1, none⟩ = some (.int .i64 v) := fun r => (F3.out.over r).c1
     have k5 : ∀ r : Over w4, r.val.cell? ⟨c, 0, none⟩ = some (.int .i64 q1) := fun r => (DC.out.over r).c0
     have k6 : ∀ r : Over w4, r.val.cell? ⟨c, 1, none⟩ = some (.int .i64 q2) := fun r => (DC.out.over r).c1
     refine wp_over_tail 10 (by kernel_rfl) (by kernel_rfl) ?_
     simp only [List.take_succ_cons, List.take_zero, List.drop_succ_cons, List.drop_zero]
     repeat (go_big_quiet_step (first
      | with_reducible exact over_gives _ (HC1.out _)
      | with_reducible exact over_gives _ (HC3.out _)
      | with_reducible exact over_gives _ (HC4.out _)
      | with_reducible exact over_gives _ (HS2.out _)))
     refine wpQuiet_nil ?_
     rintro w5 ⟨⟨w5, hb⟩, rfl⟩
     have HB4 := Lib.hid (Below.next HB3.out hb)
     obtain ⟨c0, c1, f0, f1⟩ := F4.out.next hb
     obtain ⟨e0, e1, g0, g1⟩ := F5.out.next hb
     have hz := (F5.out.next hb).lt
     have hz4 := (F4.out.next hb).lt
     clear hb k1 k2 k3 k4 k5 k6 n2 n3
     go_wp2_with (fail)
     refine bodyPost_ret (v := .tuple #[.agg #[.int .i64 q1, .int .i64 q2], .agg #[.int .i64 r1, .int .i64 r2]]) (by simp [results, Tryz.results130, go_sem, c0, c1, e0, e1]) rfl ⟨rfl, ?_⟩
     exact below_put2 (below_put2 HB4.out (c := w.heap.size + 1 + 1) (by omega) _ _) (c := w.heap.size + 1 + 1 + 1) (by omega) _ _
theorem sum_le {a b : Int} (h1 : -281474976710656 ≤ a ∧ a ≤ 281474976710656) (h2 : -281474976710656 ≤ b ∧ b ≤ 281474976710656) :
 (-562949953421312 ≤ a + b ∧ a + b ≤ 562949953421312) ∧ (-562949953421312 ≤ a - b ∧ a - b ≤ 562949953421312) := by omega
theorem run_csub {x y p q : Int} {re im : Nat} (hx : -16777216 ≤ x ∧ x ≤ 16777216) (hy : -16777216 ≤ y ∧ y ≤ 16777216) (hr : Is re p) (hi : Is im q) (hp : -562949953421312 ≤ p ∧ p ≤ 562949953421312) (hq : -562949953421312 ≤ q ∧ q ≤ 562949953421312) :
 ∃ a b, (∀ w : World, (binOp .sub 211 (.complex .f64 (floatOfInt .f64 x) (floatOfInt .f64 y)) (.complex .f64 re im)).run Tryz.prog w = .ok (.complex .f64 a b) w) ∧ Is a (x - p) ∧ Is b (y - q) := by
 obtain ⟨a, b, h, h1, h2⟩ := csub (Is.ofInt (n := x) (by omega)) (Is.ofInt (n := y) (by omega)) hr hi (by omega) (by omega)
 exact ⟨a, b, fun w => run_complex_sum w .sub (.inr rfl) _ _ _ _ _ _ _ _ h, h1, h2⟩
theorem divide_any {x y u v : Int} (ha : rb ⟨x, y⟩ = true) (hb : rb ⟨u, v⟩ = true) (h0 : (⟨u, v⟩ : Pt) ≠ Pt.zero) (w : World) :
 Calls Tryz.prog 130 #[.agg #[.int .i64 x, .int .i64 y], .agg #[.int .i64 u, .int .i64 v]] w
  (Gives (.tuple #[.agg #[.int .i64 (Pt.quo ⟨x, y⟩ ⟨u, v⟩).x, .int .i64 (Pt.quo ⟨x, y⟩ ⟨u, v⟩).y], .agg #[.int .i64 (Pt.rest ⟨x, y⟩ ⟨u, v⟩).x, .int .i64 (Pt.rest ⟨x, y⟩ ⟨u, v⟩).y]]) w) := by
 obtain ⟨hx, hy⟩ := rb_xy ha
 obtain ⟨hu, hv⟩ := rb_xy hb
 have hv' : -16777216 ≤ -v ∧ -v ≤ 16777216 := by omega
 obtain ⟨hp, hq⟩ := rb_yes (Pt.quo_right ha h0)
 obtain ⟨hr1, hr2⟩ := rb_yes (Pt.rest_right (a := ⟨x, y⟩) hb h0)
 obtain ⟨re, im, hm1, i1, i2⟩ := run_cmul hx hy hu hv'
 obtain ⟨re2, im2, hm2, j1, j2⟩ := run_cmul hp hq hu hv
 obtain ⟨s1, s1'⟩ := sum_le (mul_big hx hu) (mul_big hy hv')
 obtain ⟨s2, s2'⟩ := sum_le (mul_big hx hv') (mul_big hy hu)
 obtain ⟨s3, s3'⟩ := sum_le (mul_big hp hu) (mul_big hq hv)
 obtain ⟨s4, s4'⟩ := sum_le (mul_big hp hv) (mul_big hq hu)
 obtain ⟨re3, im3, hm3, k1, k2⟩ := run_csub hx hy j1 j2 s3' s4
 obtain ⟨s5, s5'⟩ := sum_le (mul_big hu hu) (mul_big hv hv)
 have hn : 0 < Pt.norm ⟨u, v⟩ := Pt.norm_pos h0
 refine divide_core x y u v (-v) (x * u - y * -v) (x * -v + y * u) (u * u + v * v) _ _ _ _ _ _ _ _ _ _ _ re im re2 im2 re3 im3 w (Lib.hid (complex_any x y)) (Lib.hid (mirror_any hv)) (Lib.hid (complex_any u (-v))) hm1
  (Lib.hid (spot_any i1 i2 (by omega) (by omega))) (Lib.hid (norm_any hu hv)) (Lib.hid fun w => ?_) (Lib.hid fun w => ?_) (Lib.hid (complex_any _ _)) (Lib.hid (complex_any u v)) hm2 hm3
  (Lib.hid (spot_any k1 k2 ?_ ?_))
 · exact (nearest_any (n := x * u - y * -v) (d := u * u + v * v) (by omega) (by omega) hn (by omega) w).mono fun e w' h => ⟨h.1, by rw [← h.2]; exact Below.refl _ _⟩
 · exact (nearest_any (n := x * -v + y * u) (d := u * u + v * v) (by omega) (by omega) hn (by omega) w).mono fun e w' h => ⟨h.1, by rw [← h.2]; exact Below.refl _ _⟩
 · omega
 · omega
def RelT (x y : Int) (N : Nat) (C I : Value) : Prop := ∃ (k re im : Nat), k ≤ N ∧ I = .int .i64 (k : Int) ∧ C = .complex .f64 re im ∧ Is re (Pt.turns k ⟨x, y⟩).x ∧ Is im (Pt.turns k ⟨x, y⟩).y
set_option maxHeartbeats 1000000 in
theorem turn_any {x y : Int} (h : rb ⟨x, y⟩ = true) (N : Nat) (hN : N ≤ 3) (w : World) :
 Calls Tryz.prog 193 #[.agg #[.int .i64 x, .int .i64 y], .int .i64 (N : Int)] w (Gives (.agg #[.int .i64 (Pt.turns N ⟨x, y⟩).x, .int .i64 (Pt.turns N ⟨x, y⟩).y]) w) := by
 have hr : ∀ k, (-16777216 ≤ (Pt.turns k ⟨x, y⟩).x ∧ (Pt.turns k ⟨x, y⟩).x ≤ 16777216) ∧ (-16777216 ≤ (Pt.turns k ⟨x, y⟩).y ∧ (Pt.turns k ⟨x, y⟩).y ≤ 16777216) := fun k => rb_yes (Pt.turns_right k h)
 have HT := Lib.hid hr; clear hr
 obtain ⟨hx, hy⟩ := rb_xy h
 have i1 : Is (floatOfInt .f64 x) x := Is.ofInt (by omega)
 have i2 : Is (floatOfInt .f64 y) y := Is.ofInt (by omega)
 have HC := Lib.hid (complex_any x y)
 generalize floatOfInt .f64 x = fx at *
 generalize floatOfInt .f64 y = fy at *
 have I1 := Lib.hid i1; have I2 := Lib.hid i2; clear i1 i2 hx hy h
 go_enter Tryz.func193, Tryz.ntmps193
 go_wp2_with (fail)
 refine (HC.out _).mono ?_
 rintro e w1 ⟨rfl, hb⟩
 obtain ⟨h2, d0, d1⟩ := boxes2 43 (.int .i64 x) (.int .i64 y) (.int .i64 0) (.int .i64 0) w
 have HB := Lib.hid (Below.next h2 hb)
 have HD := Lib.hid (d1.next hb)
 clear hb h2 d0 d1
 go_wp2_with (fail)
 go_loop [5, 9] (fun C I => RelT x y N C I) (fun _ I => N - (intOf I).toNat)
 case atStart => exact ⟨0, fx, fy, by omega, rfl, rfl, I1.out, I2.out⟩
 case round =>
  obtain ⟨k, re, im, hk, rfl, rfl, j1, j2⟩ := hrel
  by_cases hlt : k < N
  · obtain ⟨b1, b2⟩ := HT.out k
    obtain ⟨re', im', hm, m1, m2⟩ := cmul j1 j2 Is.zero Is.one (by omega) (by omega) (by omega) (by omega)
    have hrun : ∀ w : World, (binOp .mul 211 (.complex .f64 re im) (.complex .f64 0 4607182418800017408)).run Tryz.prog w = .ok (.complex .f64 re' im') w := fun w => run_complex_mul w _ _ _ _ _ _ _ hm
    have M1 : Hid (Is re' (Pt.turns (k + 1) ⟨x, y⟩).x) := by
     show Is re' (-(Pt.turns k ⟨x, y⟩).y)
     rwa [show (Pt.turns k ⟨x, y⟩).x * 0 - (Pt.turns k ⟨x, y⟩).y * 1 = -(Pt.turns k ⟨x, y⟩).y by omega] at m1
    have M2 : Hid (Is im' (Pt.turns (k + 1) ⟨x, y⟩).y) := by
     show Is im' ((Pt.turns k ⟨x, y⟩).x)
     rwa [show (Pt.turns k ⟨x, y⟩).x * 1 + (Pt.turns k ⟨x, y⟩).y * 0 = (Pt.turns k ⟨x, y⟩).x by omega] at m2
    clear hm m1 m2 j1 j2 b1 b2
    go_wp2_with (fail)
    go_round
    case rel => exact ⟨k + 1, re', im', by omega, by go_num, rfl, M1.out, M2.out⟩
    case measure => simp [intOf]; omega
  · obtain rfl : k = N := by omega
    obtain ⟨b1, b2⟩ := HT.out k
    have HS := Lib.hid (spot_any j1 j2 (by omega) (by omega))
    generalize (Pt.turns k ⟨x, y⟩).x = p at *
    generalize (Pt.turns k ⟨x, y⟩).y = q at *
    clear j1 j2 b1 b2
    go_wp2_with (fail)
    refine (HS.out _).mono ?_
    rintro e w2 ⟨rfl, hb⟩
    have HB2 := Lib.hid (Below.next HB.out hb)
    have hz := (HD.out.next hb).lt
    obtain ⟨e0, e1, g0, g1⟩ := HD.out.next hb
    clear hb
    go_wp2_with (fail)
    refine bodyPost_ret (v := .agg #[.int .i64 p, .int .i64 q]) (by simp [results, Tryz.results193, go_sem, e0, e1]) rfl ⟨rfl, ?_⟩
    exact below_put2 HB2.out (c := w.heap.size + 1) (by omega) _ _
def left (a : Pt) : Nat := if (0 < a.x ∧ 0 ≤ a.y) ∨ (a.x = 0 ∧ a.y = 0) then 0 else if a.y < 0 ∧ 0 ≤ a.x then 1 else if a.x < 0 ∧ a.y ≤ 0 then 2 else 3
theorem left_turn {a : Pt} (h : ¬ ((0 < a.x ∧ 0 ≤ a.y) ∨ (a.x = 0 ∧ a.y = 0))) : left a.turn < left a := by
 have tx : a.turn.x = -a.y := rfl
 have ty : a.turn.y = a.x := rfl
 unfold left
 rw [if_neg h, tx, ty]
 repeat' split
 all_goals omega
structure RelF (x y : Int) (w : World) (b c : Nat) (wr : World) (p q : Int) : Prop where
 right : rb ⟨p, q⟩ = true
 same : Pt.fs ⟨p, q⟩ = Pt.fs ⟨x, y⟩
 own : Duo wr b (.int .i64 p) (.int .i64 q)
 res : Duo wr c (.int .i64 0) (.int .i64 0)
 below : Below w.heap.size w wr
def cellInt (w : World) (b o : Nat) : Int := match w.cell? ⟨b, o, none⟩ with | some (.int _ n) => n | _ => 0
theorem cellInt_of {w : World} {b o : Nat} {k : IntKind} {n : Int} (h : w.cell? ⟨b, o, none⟩ = some (.int k n)) : cellInt w b o = n := by unfold cellInt; rw [h]
set_option maxHeartbeats 1000000 in
theorem first_any {x y : Int} (h : rb ⟨x, y⟩ = true) (w : World) :
 Calls Tryz.prog 131 #[.agg #[.int .i64 x, .int .i64 y]] w (Gives (.agg #[.int .i64 (Pt.fs ⟨x, y⟩).x, .int .i64 (Pt.fs ⟨x, y⟩).y]) w) := by
 have H := Lib.hid h; clear h
 go_enter Tryz.func131, Tryz.ntmps131
 go_wp2_with (fail)
 obtain ⟨h2, d0, d1⟩ := boxes2 43 (.int .i64 x) (.int .i64 y) (.int .i64 0) (.int .i64 0) w
 have HW : Hid (∃ p q, RelF x y w w.heap.size (w.heap.size + 1) ((w.alloc (.cells #[.int .i64 x, .int .i64 y] 43)).alloc (.cells #[.int .i64 0, .int .i64 0] 43)) p q) := Lib.hid ⟨x, y, H.out, rfl, d0, d1, h2⟩
 clear h2 d0 d1
 go_loopw [] (fun wr => ∃ p q, RelF x y w w.heap.size (w.heap.size + 1) wr p q) (fun wr => left ⟨cellInt wr w.heap.size 0, cellInt wr w.heap.size 1⟩)
 case atStart => exact HW.out
 case round =>
  obtain ⟨p, q, hF⟩ := hrel
  have HF := Lib.hid hF
  have HM1 : Hid (cellInt wr w.heap.size 0 = p) := Lib.hid (cellInt_of hF.own.c0)
  have HM2 : Hid (cellInt wr w.heap.size 1 = q) := Lib.hid (cellInt_of hF.own.c1)
  obtain ⟨c0, c1, f0, f1⟩ := hF.own
  obtain ⟨e0, e1, g0, g1⟩ := hF.res
  clear hF
  by_cases hd : (0 < p ∧ 0 ≤ q) ∨ (p = 0 ∧ q = 0)
  · have HE : Hid (Pt.fs ⟨x, y⟩ = ⟨p, q⟩) := by
     show _ = _
     rw [← HF.out.same]
     exact Pt.fs_done (hd.imp id (fun h => Pt.ext h.1 h.2))
    have hz := HF.out.res.lt
    have p0 : ¬ p < 0 := by omega
    have q0 : ¬ q < 0 := by omega
    by_cases hp : p = 0
    · have q1 : ¬ 0 < q := by omega
      have hpb : (p == 0) = true := beq_iff_eq.2 hp
      clear hd hp
      go_wp2_with (fail)
      refine bodyPost_ret (v := .agg #[.int .i64 p, .int .i64 q]) (by simp [results, Tryz.results131, go_sem, e0, e1]) rfl ⟨by rw [HE.out], ?_⟩
      exact below_put2 HF.out.below (c := w.heap.size + 1) (by omega) _ _
    · have hpb : (p == 0) = false := beq_eq_false_iff_ne.2 hp
      clear hd hp
      go_wp2_with (fail)
      refine bodyPost_ret (v := .agg #[.int .i64 p, .int .i64 q]) (by simp [results, Tryz.results131, go_sem, e0, e1]) rfl ⟨by rw [HE.out], ?_⟩
      exact below_put2 HF.out.below (c := w.heap.size + 1) (by omega) _ _
  · have HT : Hid (∀ w, Calls Tryz.prog 193 #[.agg #[.int .i64 p, .int .i64 q], .int .i64 1] w (Gives (.agg #[.int .i64 (-q), .int .i64 p]) w)) := Lib.hid (turn_any HF.out.right 1 (by omega))
    have HL : Hid (left ⟨-q, p⟩ < left ⟨p, q⟩) := Lib.hid (left_turn (a := ⟨p, q⟩) hd)
    have HS : Hid (Pt.fs ⟨-q, p⟩ = Pt.fs ⟨x, y⟩) := Lib.hid ((Pt.fs_turn (a := ⟨p, q⟩) (fun h => hd (.inl h)) (fun h => hd (.inr (by injection h with h1 h2; exact ⟨h1, h2⟩)))).trans HF.out.same)
    have HR : Hid (rb ⟨-q, p⟩ = true) := Lib.hid (Pt.turn_right HF.out.right)
    have hcase : p < 0 ∨ (¬ p < 0 ∧ q < 0) ∨ (¬ p < 0 ∧ ¬ q < 0 ∧ (p == 0) = true ∧ 0 < q) := by
     by_cases a1 : p < 0
     · exact .inl a1
     · by_cases a2 : q < 0
       · exact .inr (.inl ⟨a1, a2⟩)
       · exact .inr (.inr ⟨a1, a2, beq_iff_eq.2 (by omega), by omega⟩)
    clear hd
    generalize -q = q' at *
    rcases hcase with a1 | ⟨a1, a2⟩ | ⟨a1, a2, a3, a4⟩
    all_goals
     go_wp2_with (fail)
     refine (HT.out _).mono ?_
     rintro e w2 ⟨rfl, hb⟩
     have HO := Lib.hid ((HF.out.own.next hb).set (.int .i64 q') (.int .i64 p))
     have HP := Lib.hid ((HF.out.res.next hb).put2 (c := w.heap.size) (by omega) (.int .i64 q') (.int .i64 p))
     have HB := Lib.hid (below_put2 (HF.out.below.trans (hb.mono HF.out.below.size)) (c := w.heap.size) (Nat.le_refl _) (.int .i64 q') (.int .i64 p))
     obtain ⟨d0, d1, h0, h1⟩ := HF.out.own.next hb
     have hz := (HF.out.own.next hb).lt
     clear hb c0 c1 f0 f1 e0 e1 g0 g1
     go_wp2_with (fail)
     go_roundw
     case rel => exact ⟨q', p, HR.out, HS.out, HO.out, HP.out, HB.out⟩
     case measure =>
      rw [HM1.out, HM2.out, cellInt_of HO.out.c0, cellInt_of HO.out.c1]
      exact HL.out
theorem not_zero {u v : Int} (h : (⟨u, v⟩ : Pt) ≠ Pt.zero) : (u == 0) = false ∨ ((u == 0) = true ∧ (v == 0) = false) := by
 by_cases hu : u = 0
 · exact .inr ⟨beq_iff_eq.2 hu, beq_eq_false_iff_ne.2 fun hv => h (Pt.ext hu hv)⟩
 · exact .inl (beq_eq_false_iff_ne.2 hu)
end Go.Proofs.YtimllihegnokeaaGreatDoor.Ga
namespace Go.Proofs.YtimllihegnokeaaGreatDoor.Ev
open Go.ChangeShapes Go.WideShapes Go.ChangeAt Go.RowKit Ov Va Ga
end Go.Proofs.YtimllihegnokeaaGreatDoor.Ev
namespace Go.Proofs.YtimllihegnokeaaGreatDoor.Ev
open Go.ChangeShapes Go.WideShapes Go.ChangeAt Go.RowKit Ov Va Ga Ex
end Go.Proofs.YtimllihegnokeaaGreatDoor.Ev
namespace Go.Proofs.YtimllihegnokeaaGreatDoor.Va
open Go.ChangeShapes Go.WideShapes Go.ChangeAt Go.RowKit Ov Ga Tp
set_option maxHeartbeats 1000000 in
theorem write_text {n x y : Int} {s : ByteArray} (h : rt ⟨1, n, s.data.toList, x, y⟩ = true) (w : World) : Calls Tryz.prog 108 #[.agg #[.int .i64 1, .int .i64 n, .string s, .int .i64 x, .int .i64 y]] w (Gives (.string (tx (wr ⟨1, n, s.data.toList, x, y⟩))) w) := by
 have hs : s.size ≤ 4096 := by
  have := rt_yes h
  simp at this; exact this.2.1
 have HR := Lib.hid (right_val 1 n x y s); rw [h] at HR; clear h
 have HT := Lib.hid (fun w => writeText_any s w hs)
 rw [wr_text]
 generalize tx (34 :: (esc s.data.toList ++ [34])) = t at *
 go_enter Tryz.func108, Tryz.ntmps108
 go_wp2_with (fail)
 have kb := box1 w (.cells #[.int .i64 1, .int .i64 n, .string s, .int .i64 x, .int .i64 y] 45)
 have D := Blk.made w 45 (vcs 1 n s x y) rfl
 change Blk (w.alloc (.cells #[.int .i64 1, .int .i64 n, .string s, .int .i64 x, .int .i64 y] 45)) w.heap.size _ at D
 generalize w.alloc (.cells #[.int .i64 1, .int .i64 n, .string s, .int .i64 x, .int .i64 y] 45) = v at *
 refine (HR.out _).mono ?_
 rintro e w1 ⟨rfl, hb⟩
 have HB := Lib.hid (Below.next kb hb)
 have D1 := Lib.hid (D.next hb)
 clear hb kb D
 have c0 := D1.out.v0; have c1 := D1.out.v1; have c2 := D1.out.v2; have c3 := D1.out.v3; have c4 := D1.out.v4
 go_wp2_with (fail)
 clear c0 c1 c2 c3 c4
 refine (HT.out _).mono ?_
 rintro e w2 ⟨rfl, hb⟩
 have HB2 := Lib.hid (Below.next HB.out hb)
 clear hb
 go_wp2_with (fail)
 go_ret
 exact ⟨rfl, HB2.out⟩
theorem itoa_le (n : Int) (h : -9007199254740992 ≤ n ∧ n ≤ 9007199254740992) : (tx (Lib.itoa n)).size ≤ 21 := by
 rw [tx_size]; exact Lib.itoa_length_le n (by omega) (by omega)
set_option maxHeartbeats 1000000 in
theorem write_int {n x y : Int} {s : ByteArray} (h : rt ⟨0, n, s.data.toList, x, y⟩ = true) (w : World) (ht : Tab w) : Calls Tryz.prog 108 #[.agg #[.int .i64 0, .int .i64 n, .string s, .int .i64 x, .int .i64 y]] w (Gives (.string (tx (wr ⟨0, n, s.data.toList, x, y⟩))) w) := by
 have hr : -9007199254740992 ≤ n ∧ n ≤ 9007199254740992 := by
  rw [rt_int, Bool.and_eq_true, Bool.and_eq_true, decide_eq_true_eq, decide_eq_true_eq] at h; exact h.2
 have HR := Lib.hid (right_val 0 n x y s); rw [h] at HR; clear h
 have HT := Lib.hid ht; clear ht
 have HI := Lib.hid (itoa_any n (by omega) (by omega))
 clear hr
 rw [wr_int]
 generalize tx (Lib.itoa n) = t at *
 go_enter Tryz.func108, Tryz.ntmps108
 go_wp2_with (fail)
 have kb := box1 w (.cells #[.int .i64 0, .int .i64 n, .string s, .int .i64 x, .int .i64 y] 45)
 have D := Blk.made w 45 (vcs 0 n s x y) rfl
 change Blk (w.alloc (.cells #[.int .i64 0, .int .i64 n, .string s, .int .i64 x, .int .i64 y] 45)) w.heap.size _ at D
 generalize w.alloc (.cells #[.int .i64 0, .int .i64 n, .string s, .int .i64 x, .int .i64 y] 45) = v at *
 refine (HR.out _).mono ?_
 rintro e w1 ⟨rfl, hb⟩
 have HB := Lib.hid (Below.next kb hb)
 have D1 := Lib.hid (D.next hb)
 clear hb kb D
 have c0 := D1.out.v0; have c1 := D1.out.v1; have c2 := D1.out.v2; have c3 := D1.out.v3; have c4 := D1.out.v4
 go_wp2_with (fail)
 clear c0 c1 c2 c3 c4
 refine (HI.out _ (HT.out.next HB.out)).mono ?_
 rintro e w2 ⟨rfl, hb⟩
 have HB2 := Lib.hid (Below.next HB.out hb)
 clear hb
 go_wp2_with (fail)
 go_ret
 exact ⟨rfl, HB2.out⟩
set_option maxHeartbeats 1000000 in
theorem write_point {n x y : Int} {s : ByteArray} (h : rt ⟨2, n, s.data.toList, x, y⟩ = true) (w : World) (ht : Tab w) : Calls Tryz.prog 108 #[.agg #[.int .i64 2, .int .i64 n, .string s, .int .i64 x, .int .i64 y]] w (Gives (.string (tx (wr ⟨2, n, s.data.toList, x, y⟩))) w) := by
 have hr := rb_xy (by rw [rt_point, Bool.and_eq_true] at h; exact h.2 : rb ⟨x, y⟩ = true)
 have HR := Lib.hid (right_val 2 n x y s); rw [h] at HR; clear h
 have HT := Lib.hid ht; clear ht
 have HA := Lib.hid (itoa_any x (by omega) (by omega))
 have HC := Lib.hid (itoa_any y (by omega) (by omega))
 have z2 := itoa_le x (by omega)
 have z3 := itoa_le y (by omega)
 clear hr
 have HE : Hid (tx (Lib.itoa x) ++ ⟨#[58]⟩ ++ tx (Lib.itoa y) = tx (wr ⟨2, n, s.data.toList, x, y⟩)) := by
  show _ = _
  rw [wr_point, show (⟨#[58]⟩ : ByteArray) = tx [58] from rfl, tx_append, tx_append]
 generalize tx (Lib.itoa x) = a at *
 generalize tx (Lib.itoa y) = b at *
 have g1 : ¬ a.size + 1 > 9223372036854775807 := by omega
 have g2 : ¬ a.size + 1 + b.size > 9223372036854775807 := by omega
 clear z2 z3
 go_enter Tryz.func108, Tryz.ntmps108
 go_wp2_with (fail)
 have kb := box1 w (.cells #[.int .i64 2, .int .i64 n, .string s, .int .i64 x, .int .i64 y] 45)
 have D := Blk.made w 45 (vcs 2 n s x y) rfl
 change Blk (w.alloc (.cells #[.int .i64 2, .int .i64 n, .string s, .int .i64 x, .int .i64 y] 45)) w.heap.size _ at D
 generalize w.alloc (.cells #[.int .i64 2, .int .i64 n, .string s, .int .i64 x, .int .i64 y] 45) = v at *
 refine (HR.out _).mono ?_
 rintro e w1 ⟨rfl, hb⟩
 have HB := Lib.hid (Below.next kb hb)
 have D1 := Lib.hid (D.next hb)
 clear hb kb D
 have c0 := D1.out.v0; have c1 := D1.out.v1; have c2 := D1.out.v2; have c3 := D1.out.v3; have c4 := D1.out.v4
 go_wp2_with (fail)
 clear c0 c1 c2 c3 c4
 have KA := Lib.hid (fun q : Over w1 => HA.out q.val ((HT.out.next HB.out).next q.property))
 have KC := Lib.hid (fun q : Over w1 => HC.out q.val ((HT.out.next HB.out).next q.property))
 have D2 := D1.out
 have k3 := fun r : Over w1 => (D2.over r).v3
 have k4 := fun r : Over w1 => (D2.over r).v4
 clear D2
 refine wp_over (by kernel_rfl) (by kernel_rfl) ?_
 repeat (go_big_quiet_step (first | fail | with_reducible exact over_gives _ (KA.out _) | with_reducible exact over_gives _ (KC.out _)))
 refine wpQuiet_nil ?_
 rintro w3 ⟨⟨w3, hb⟩, rfl⟩
 have HB3 := Lib.hid (Below.next HB.out hb)
 clear hb k3 k4
 go_wp2_with (fail)
 go_ret
 exact ⟨ret_str HE.out, HB3.out⟩
theorem write_yes {k n x y : Int} {s : ByteArray} (h : rt ⟨k, n, s.data.toList, x, y⟩ = true) (w : World) (ht : Tab w) : Calls Tryz.prog 108 #[.agg #[.int .i64 k, .int .i64 n, .string s, .int .i64 x, .int .i64 y]] w (Gives (.string (tx (wr ⟨k, n, s.data.toList, x, y⟩))) w) := by
 by_cases h0 : k = 0
 · subst h0; exact write_int h w ht
 by_cases h1 : k = 1
 · subst h1; exact write_text h w
 by_cases h2 : k = 2
 · subst h2; exact write_point h w ht
 rw [rt_kind n x y _ h0 h1 h2] at h; cases h
end Go.Proofs.YtimllihegnokeaaGreatDoor.Va
namespace Go.Proofs.YtimllihegnokeaaGreatDoor.Va
open Go.ChangeShapes Go.WideShapes Go.ChangeAt Go.RowKit Ov Ga
theorem over_id {w : World} {P : Program} {f : FuncId} {args : Array Value} {v : Value} (q : Over w) (h : Calls P f args q.val fun e w' => e = .returned v ∧ q.val = w') :
 Calls P f args q.val fun e w' => e = .returned v ∧ ∃ q' : Over w, w' = q'.val := h.mono fun _ _ ⟨he, hw⟩ => ⟨he, q, hw.symm⟩
def orl : List Int → Int
 | [] => 0
 | a :: t => if a ≠ 0 then a else orl t
theorem orl4 (a b c d : Int) : orl [a, b, c, d] = or4 a b c d := by
 unfold or4; simp only [orl]
 split
 · rfl
 · split
   · rfl
   · split
     · rfl
     · split
       · rfl
       · omega
theorem orl_drop {l : List Int} {k : Nat} (h : k < l.length) : orl (l.drop k) = if l[k] ≠ 0 then l[k] else orl (l.drop (k + 1)) := by
 rw [List.drop_eq_getElem_cons h]; rfl
set_option maxHeartbeats 1000000 in
theorem or_any (l : List Int) (b : Nat) (w : World) (h : Blk w b (l.map fun a => Value.int .i64 a)) (hl : l.length ≤ 4) : Calls Tryz.prog 124 #[.slice (some ⟨b, 0, none⟩) l.length l.length] w fun e w' => e = .returned (.int .i64 (orl l)) ∧ w = w' := by
 have H := Lib.hid h; clear h
 obtain ⟨n, hn⟩ : ∃ n, l.length = n := ⟨_, rfl⟩
 rw [hn] at hl ⊢
 have HN := Lib.hid hn; clear hn
 go_enter Tryz.func124, Tryz.ntmps124
 go_wp2_with (fail)
 go_loop [5, 8] (fun _ i => ∃ k : Nat, k ≤ n ∧ i = .int .i64 k ∧ orl l = orl (l.drop k)) (fun _ i => n - (intOf i).toNat)
 case atStart => exact ⟨0, Nat.zero_le _, rfl, by simp⟩
 case round =>
  obtain ⟨k, hk, rfl, hd⟩ := hrel
  have HD := Lib.hid hd; clear hd
  by_cases hlt : k < n
  · have hkl : k < l.length := by have := HN.out; omega
    obtain ⟨a, ha⟩ : ∃ a, l[k] = a := ⟨_, rfl⟩
    have HS : Hid (orl (l.drop k) = if a ≠ 0 then a else orl (l.drop (k + 1))) := by
     show _ = _
     rw [orl_drop hkl, ha]
    have hc : w.cell? ⟨b, k, none⟩ = some (.int .i64 a) := H.out.c k _ (by rw [List.getElem?_map, List.getElem?_eq_getElem hkl, ha]; rfl)
    clear ha hkl
    by_cases hz : a = 0
    · subst hz
      go_wp2_with (fail)
      go_round
      case rel => exact ⟨k + 1, by omega, by go_num, by rw [HD.out, HS.out]; rfl⟩
      case measure => simp [intOf]; omega
    · have hne : (a != 0) = true := bne_iff_ne.2 hz
      have HZ := Lib.hid hz; clear hz
      go_wp2_with (fail)
      go_ret
      exact ⟨ret_int (by rw [HD.out, HS.out, if_pos HZ.out]), rfl⟩
  · have HS : Hid (orl (l.drop k) = 0) := by
     show _ = _
     rw [List.drop_of_length_le (by have := HN.out; omega)]; rfl
    go_wp2_with (fail)
    go_ret
    exact ⟨ret_int (by rw [HD.out, HS.out]), rfl⟩
set_option maxHeartbeats 1000000 in
theorem spots_any (x y u v : Int) (w : World) : Calls Tryz.prog 127 #[.agg #[.int .i64 x, .int .i64 y], .agg #[.int .i64 u, .int .i64 v]] w (Gives (.int .i64 (cP x y u v)) w) := by
 have H1 := Lib.hid (less_any x y u v)
 have H2 := Lib.hid (less_any u v x y)
 have he : cP x y u v = if decide (x < u ∨ x = u ∧ y < v) = true then -1 else if decide (u < x ∨ u = x ∧ v < y) = true then 1 else 0 := by
  unfold cP; simp only [decide_eq_true_eq]
 rw [he]; clear he
 generalize decide (x < u ∨ x = u ∧ y < v) = p at *
 generalize decide (u < x ∨ u = x ∧ v < y) = q at *
 cases p
 · cases q
   · go_enter Tryz.func127, Tryz.ntmps127
     go_wp2_with (fail)
     refine (H1.out _).mono ?_
     rintro e w1 ⟨rfl, hb⟩
     have HB := Lib.hid (Below.next (box2 w _ _) hb)
     have D1 := ((Blk.made w 43 [.int .i64 x, .int .i64 y] rfl).old (.cells #[.int .i64 u, .int .i64 v] 43)).next hb
     have D2 := (Blk.made (w.alloc (.cells #[.int .i64 x, .int .i64 y] 43)) 43 [.int .i64 u, .int .i64 v] (World.size_alloc _ _)).next hb
     have c0 := D1.c 0 _ rfl
     have c1 := D1.c 1 _ rfl
     have c2 := D2.c 0 _ rfl
     have c3 := D2.c 1 _ rfl
     clear hb D1 D2
     go_wp2_with (fail)
     clear c0 c1 c2 c3
     refine (H2.out _).mono ?_
     rintro e w2 ⟨rfl, hb⟩
     have HB2 := Lib.hid (Below.next HB.out hb)
     clear hb
     go_wp2_with (fail)
     go_ret
     exact ⟨rfl, HB2.out⟩
   · go_enter Tryz.func127, Tryz.ntmps127
     go_wp2_with (fail)
     refine (H1.out _).mono ?_
     rintro e w1 ⟨rfl, hb⟩
     have HB := Lib.hid (Below.next (box2 w _ _) hb)
     have D1 := ((Blk.made w 43 [.int .i64 x, .int .i64 y] rfl).old (.cells #[.int .i64 u, .int .i64 v] 43)).next hb
     have D2 := (Blk.made (w.alloc (.cells #[.int .i64 x, .int .i64 y] 43)) 43 [.int .i64 u, .int .i64 v] (World.size_alloc _ _)).next hb
     have c0 := D1.c 0 _ rfl
     have c1 := D1.c 1 _ rfl
     have c2 := D2.c 0 _ rfl
     have c3 := D2.c 1 _ rfl
     clear hb D1 D2
     go_wp2_with (fail)
     clear c0 c1 c2 c3
     refine (H2.out _).mono ?_
     rintro e w2 ⟨rfl, hb⟩
     have HB2 := Lib.hid (Below.next HB.out hb)
     clear hb
     go_wp2_with (fail)
     go_ret
     exact ⟨rfl, HB2.out⟩
 · go_enter Tryz.func127, Tryz.ntmps127
   go_wp2_with (fail)
   refine (H1.out _).mono ?_
   rintro e w1 ⟨rfl, hb⟩
   have HB := Lib.hid (Below.next (box2 w _ _) hb)
   have D1 := ((Blk.made w 43 [.int .i64 x, .int .i64 y] rfl).old (.cells #[.int .i64 u, .int .i64 v] 43)).next hb
   have D2 := (Blk.made (w.alloc (.cells #[.int .i64 x, .int .i64 y] 43)) 43 [.int .i64 u, .int .i64 v] (World.size_alloc _ _)).next hb
   have c0 := D1.c 0 _ rfl
   have c1 := D1.c 1 _ rfl
   have c2 := D2.c 0 _ rfl
   have c3 := D2.c 1 _ rfl
   clear hb D1 D2
   go_wp2_with (fail)
   go_ret
   exact ⟨rfl, HB.out⟩
set_option maxHeartbeats 4000000 in
theorem order_val (k n x y k' n' x' y' : Int) (s s' : ByteArray) (w : World) : Calls Tryz.prog 87 #[.agg #[.int .i64 k, .int .i64 n, .string s, .int .i64 x, .int .i64 y], .agg #[.int .i64 k', .int .i64 n', .string s', .int .i64 x', .int .i64 y']] w
 (Gives (.int .i64 (ord ⟨k, n, s.data.toList, x, y⟩ ⟨k', n', s'.data.toList, x', y'⟩)) w) := by
 have HI := Lib.hid cmpI_any
 have HS := Lib.hid (cmpS_any s s')
 have HP := Lib.hid (spots_any x y x' y')
 have HE : Hid (ord ⟨k, n, s.data.toList, x, y⟩ ⟨k', n', s'.data.toList, x', y'⟩ = orl [cI k k', cI n n', cS s.data.toList s'.data.toList, cP x y x' y']) := by
  show _ = _
  rw [orl4]; rfl
 generalize cS s.data.toList s'.data.toList = c3 at *
 generalize cP x y x' y' = c4 at *
 go_enter Tryz.func87, Tryz.ntmps87
 go_wp2_with (fail)
 have kb := Lib.hid (box2 w (.cells #[.int .i64 k, .int .i64 n, .string s, .int .i64 x, .int .i64 y] 45) (.cells #[.int .i64 k', .int .i64 n', .string s', .int .i64 x', .int .i64 y'] 45))
 have D := (Blk.made w 45 (vcs k n s x y) rfl).old (.cells #[.int .i64 k', .int .i64 n', .string s', .int .i64 x', .int .i64 y'] 45)
 have E := Blk.made (w.alloc (.cells #[.int .i64 k, .int .i64 n, .string s, .int .i64 x, .int .i64 y] 45)) 45 (vcs k' n' s' x' y') (World.size_alloc _ _)
 change Blk ((w.alloc (.cells #[.int .i64 k, .int .i64 n, .string s, .int .i64 x, .int .i64 y] 45)).alloc (.cells #[.int .i64 k', .int .i64 n', .string s', .int .i64 x', .int .i64 y'] 45)) w.heap.size _ at D
 change Blk ((w.alloc (.cells #[.int .i64 k, .int .i64 n, .string s, .int .i64 x, .int .i64 y] 45)).alloc (.cells #[.int .i64 k', .int .i64 n', .string s', .int .i64 x', .int .i64 y'] 45)) (w.heap.size + 1) _ at E
 generalize (w.alloc (.cells #[.int .i64 k, .int .i64 n, .string s, .int .i64 x, .int .i64 y] 45)).alloc (.cells #[.int .i64 k', .int .i64 n', .string s', .int .i64 x', .int .i64 y'] 45) = v at *
 have d0 := fun r : Over v => (D.over r).v0
 have d1 := fun r : Over v => (D.over r).v1
 have d2 := fun r : Over v => (D.over r).v2
 have d3 := fun r : Over v => (D.over r).v3
 have d4 := fun r : Over v => (D.over r).v4
 have e0 := fun r : Over v => (E.over r).v0
 have e1 := fun r : Over v => (E.over r).v1
 have e2 := fun r : Over v => (E.over r).v2
 have e3 := fun r : Over v => (E.over r).v3
 have e4 := fun r : Over v => (E.over r).v4
 clear D E
 refine wp_over_tail 20 (by kernel_rfl) (by kernel_rfl) ?_
 simp only [List.take_succ_cons, List.take_zero, List.drop_succ_cons, List.drop_zero]
 repeat (go_big_quiet_step (first | fail | with_reducible exact over_id _ (HI.out _ _ _) | with_reducible exact over_id _ (HS.out _) | with_reducible exact over_gives _ (HP.out _)))
 refine wpQuiet_nil ?_
 rintro w2 ⟨⟨w2, hb⟩, rfl⟩
 have HB := Lib.hid (Below.next kb.out hb)
 clear hb kb d0 d1 d2 d3 d4 e0 e1 e2 e3 e4
 go_wp2_with (fail)
 refine (or_any [cI k k', cI n n', c3, c4] w2.heap.size _ (Blk.made w2 3 [.int .i64 (cI k k'), .int .i64 (cI n n'), .int .i64 c3, .int .i64 c4] rfl) (Nat.le_refl _)).mono ?_
 rintro e w' ⟨rfl, rfl⟩
 have HB2 := Lib.hid (Below.next HB.out (box1 w2 (.cells #[.int .i64 (cI k k'), .int .i64 (cI n n'), .int .i64 c3, .int .i64 c4] 3)))
 go_wp2_with (fail)
 go_ret
 exact ⟨ret_int HE.out.symm, HB2.out⟩
end Go.Proofs.YtimllihegnokeaaGreatDoor.Va
namespace Go.Proofs.YtimllihegnokeaaGreatDoor.Ev
open Go.ChangeShapes Go.WideShapes Go.ChangeAt Go.RowKit Ov Va Ga Ex
end Go.Proofs.YtimllihegnokeaaGreatDoor.Ev
namespace Go.Proofs.YtimllihegnokeaaGreatDoor.Ev
open Go.ChangeShapes Go.WideShapes Go.ChangeAt Go.RowKit Ov Va Ga
end Go.Proofs.YtimllihegnokeaaGreatDoor.Ev
namespace Go.Proofs.YtimllihegnokeaaGreatDoor.Ex
open Go.ChangeShapes Go.WideShapes Go.ChangeAt Go.RowKit Ov Va
theorem take_nd {l : List No} {k : Nat} (h : k < l.length) : l.take (k + 1) = l.take k ++ [nd l k] := by rw [nd_at h, List.take_succ_eq_append_getElem h]
def MadeN (ty : TypeId) (l : List No) (w : World) (e : Ending) (w' : World) : Prop :=
 ∃ A c, e = .returned (.slice A l.length c) ∧ w'.ownsRow w.heap.size ty 6 (.slice A l.length c) l.length (cells l) ∧ Below w.heap.size w w'
theorem six_at (W : World) (n : No) (ty : TypeId) (b : Nat) (hb : b = W.heap.size) : ∀ j u, (ncl n)[j]? = some u → (W.alloc (.cells #[.int .i64 n.o, .int .i64 n.v.k, .int .i64 n.v.n, .string (tx n.v.s), .int .i64 n.v.x, .int .i64 n.v.y] ty)).cell? ((⟨b, 0, none⟩ : Addr).add j) = some u := by
 intro j u hu
 subst hb
 have e : (⟨W.heap.size, 0, none⟩ : Addr).add j = ⟨W.heap.size, j, none⟩ := by
  unfold Addr.add
  split
  · rename_i h; subst h; rfl
  · simp
 rw [e]
 exact (Blk.made W ty (ncl n) rfl).c j u hu
set_option maxRecDepth 100000 in
set_option maxHeartbeats 2000000 in
theorem of_any (l : List No) (A : Option Addr) (c : Nat) (w : World) (hn : Nds w A l) (hl : l.length ≤ 1000) : Calls Tryz.prog 33 #[.slice A l.length c] w (MadeN 118 l w) := by
 obtain ⟨i0, hi0, hi1, hi2, hi3⟩ := info_parts infoN
 have HI0 := Lib.hid hi0; have HI1 := Lib.hid hi1; have HI2 := Lib.hid hi2; have HI3 := Lib.hid hi3
 clear hi0 hi1 hi2 hi3
 have HN := Lib.hid hn; clear hn
 go_enter Tryz.func33, Tryz.ntmps33
 go_wp2_with (fail)
 go_loopw [3, 4] (fun v i wr => ∃ (k : Nat) (B : Option Addr) (d : Nat), k ≤ l.length ∧ i = .int .i64 (k : Int) ∧ v = .slice B k d ∧ wr.ownsRow w.heap.size 118 6 (.slice B k d) k (cells (l.take k)) ∧ Below w.heap.size w wr) (fun _ i _ => l.length - (intOf i).toNat)
 case atStart => exact ⟨0, none, 0, Nat.zero_le _, rfl, rfl, World.ownsRow_nil _ _ _ _, Below.refl _ _⟩
 case round =>
  obtain ⟨k, B, d, hk, rfl, rfl, ho, hb⟩ := hrel
  have HO := Lib.hid ho; have HB := Lib.hid hb
  clear ho hb
  by_cases hlt : k < l.length
  · obtain ⟨G, O, rfl⟩ := HN.out.shape (by omega)
    have HN1 := HN.out.next HB.out
    have e0 := HN1.cell hlt 0 _ rfl
    have e1 := HN1.cell hlt 1 _ rfl
    have e2 := HN1.cell hlt 2 _ rfl
    have e3 := HN1.cell hlt 3 _ rfl
    have e4 := HN1.cell hlt 4 _ rfl
    have e5 := HN1.cell hlt 5 _ rfl
    rw [Nat.add_zero] at e0
    have HT := Lib.hid (take_nd hlt)
    generalize nd l k = n at *
    clear HN1
    have hws := HB.out.size
    go_wp2_with (fail)
    go_region_law (refine step_own _ rfl (.tmp 11) (.tmp 23) 30 rfl w.heap.size 118 i0 (nov nz) 6 56 Tryz.underlying30 HI0.out HI1.out HI2.out HI3.out rfl (by decide) (.slice B k d) k (cells (l.take k)) (by simp [Act.eval]) (by exact HO.out.alloc _) ⟨wr.heap.size, 0, none⟩ 1 1 (ncl n) (by simp [Act.eval]) rfl (by exact six_at _ _ _ _ (by simp)) (ncl_one _) (by unfold maxLen; omega) (by omega) (by simp; omega) ?_
                   intro v' w4 hown' hgrow _
                   have HB4 : Hid (Below w.heap.size w w4) := ((below_drewN HB.out 1).alloc (by simpa using hws) _).grown hgrow (by simp; omega) (fun g e => (HO.out.lt g e).1)
                   have hN : w4.ownsRow w.heap.size 118 6 v' (k + 1) (cells (l.take (k + 1))) := by rw [HT.out, cells_snoc]; exact hown'
                   have HN4 := Lib.hid hN
                   clear hown' hgrow hN)
    all_goals
     obtain ⟨B4, d4, rfl⟩ := own_slice HN4.out
     go_wp2_with (fail)
     go_roundw
     case rel => exact ⟨k + 1, B4, d4, by omega, by go_num, rfl, HN4.out, HB4.out⟩
     case measure => simp [intOf]; omega
  · obtain rfl : k = l.length := by omega
    have hE : l.take l.length = l := List.take_of_length_le (Nat.le_refl _)
    have HE : Hid (wr.ownsRow w.heap.size 118 6 (.slice B l.length d) l.length (cells l)) := by
     have := HO.out
     rw [hE] at this; exact this
    clear HO hE
    go_wp2_with (fail)
    go_ret
    exact ⟨B, d, rfl, HE.out, HB.out⟩
end Go.Proofs.YtimllihegnokeaaGreatDoor.Ex
namespace Go.Proofs.YtimllihegnokeaaGreatDoor.Ga
open Go.ChangeShapes Go.WideShapes Go.ChangeAt Go.RowKit Ov
def JG (x y u v : Int) (w : World) (a' : Act) (w' : World) : Prop := ∃ (p q r s : Int) (u6 u7 u8 u9 u10 u11 u12 u13 u14 u15 u16 u17 u18 u19 u20 u21 u22 u23 u24 u25 : Value),
 rb ⟨p, q⟩ = true ∧ rb ⟨r, s⟩ = true ∧ Pt.cg ⟨p, q⟩ ⟨r, s⟩ = Pt.cg ⟨x, y⟩ ⟨u, v⟩ ∧ Duo w' w.heap.size (.int .i64 p) (.int .i64 q) ∧ Duo w' (w.heap.size + 1) (.int .i64 r) (.int .i64 s) ∧ Duo w' (w.heap.size + 1 + 1) (.int .i64 0) (.int .i64 0) ∧ Below w.heap.size w w' ∧
 a' = { tmps := #[.agg #[.int .i64 x, .int .i64 y], .agg #[.int .i64 u, .int .i64 v], .pointer (some ⟨w.heap.size, 0, none⟩), .pointer (some ⟨w.heap.size + 1, 0, none⟩), .pointer (some ⟨w.heap.size + 1 + 1, 0, none⟩), .int .i64 0, u6, u7, u8, u9, u10, u11, u12, u13, u14, u15, u16, u17, u18, u19, u20, u21, u22, u23, u24, u25], defers := [] }
def muG (w : World) (_ : Act) (w' : World) : Nat := (Pt.norm ⟨cellInt w' (w.heap.size + 1) 0, cellInt w' (w.heap.size + 1) 1⟩).toNat
set_option maxRecDepth 100000 in
set_option maxHeartbeats 2000000 in
theorem common_yes {x y u v : Int} (ha : rb ⟨x, y⟩ = true) (hb : rb ⟨u, v⟩ = true) (w : World) : Calls Tryz.prog 91 #[.agg #[.int .i64 x, .int .i64 y], .agg #[.int .i64 u, .int .i64 v]] w
 (Gives (.tuple #[.agg #[.int .i64 (Pt.cg ⟨x, y⟩ ⟨u, v⟩).x, .int .i64 (Pt.cg ⟨x, y⟩ ⟨u, v⟩).y], .int .i64 0]) w) := by
 have HR := Lib.hid (both_any x y u v); rw [ha, hb] at HR
 have HA := Lib.hid ha; have HH := Lib.hid hb; clear ha hb
 go_enter Tryz.func91, Tryz.ntmps91
 go_wp2_with (fail)
 refine wp_scope_once 0 (JG x y u v w) (muG w) rfl (fun NX => ?_) ?_
 · go_wp2_with (fail)
   refine (HR.out _).mono ?_
   rintro e w1 ⟨rfl, hb⟩
   obtain ⟨h2, d2, d3, d4⟩ := boxes3 43 (.int .i64 x) (.int .i64 y) (.int .i64 u) (.int .i64 v) (.int .i64 0) (.int .i64 0) w
   have HB := Lib.hid (Below.next h2 hb)
   have D2 := Lib.hid (d2.next hb); have D3 := Lib.hid (d3.next hb); have D4 := Lib.hid (d4.next hb)
   clear hb h2 d2 d3 d4
   go_wp2_with (fail)
   go_step3
   rename_i hK
   exact hK _ _ (NX.out _ _ ⟨x, y, u, v, _, _, _, _, _, _, _, _, _, _, _, _, _, _, _, _, _, _, _, _, HA.out, HH.out, rfl, D2.out, D3.out, D4.out, HB.out, rfl⟩)
 · rintro a' w' ⟨p, q, r, s, u6, u7, u8, u9, u10, u11, u12, u13, u14, u15, u16, u17, u18, u19, u20, u21, u22, u23, u24, u25, ha, hb, hg, d2, d3, d4, hbl, rfl⟩
   have HP := Lib.hid ha; have HQ := Lib.hid hb; have HG := Lib.hid hg; have D2 := Lib.hid d2; have D3 := Lib.hid d3; have D4 := Lib.hid d4; have HB := Lib.hid hbl
   obtain ⟨a0, a1, f2, f3⟩ := d2
   obtain ⟨b0, b1, f4, f5⟩ := d3
   have HM : Hid (muG w { tmps := #[.agg #[.int .i64 x, .int .i64 y], .agg #[.int .i64 u, .int .i64 v], .pointer (some ⟨w.heap.size, 0, none⟩), .pointer (some ⟨w.heap.size + 1, 0, none⟩), .pointer (some ⟨w.heap.size + 1 + 1, 0, none⟩), .int .i64 0, u6, u7, u8, u9, u10, u11, u12, u13, u14, u15, u16, u17, u18, u19, u20, u21, u22, u23, u24, u25], defers := [] } w' = (Pt.norm ⟨r, s⟩).toNat) := by
    show muG _ _ _ = _
    unfold muG; rw [cellInt_of b0, cellInt_of b1]
   clear ha hb hg d4 hbl
   by_cases h0 : (⟨r, s⟩ : Pt) = Pt.zero
   · have HC : Hid (Pt.cg ⟨x, y⟩ ⟨u, v⟩ = Pt.fs ⟨p, q⟩) := by
      show _ = _
      rw [← HG.out, h0, Pt.cg_zero]
     have hr : (r == 0) = true := by injection h0 with h1 h2; exact beq_iff_eq.2 h1
     have hs : (s == 0) = true := by injection h0 with h1 h2; exact beq_iff_eq.2 h2
     clear h0
     rw [HC.out]
     have HF := Lib.hid (first_any HP.out)
     generalize (Pt.fs ⟨p, q⟩).x = fx at *
     generalize (Pt.fs ⟨p, q⟩).y = fy at *
     go_wp2_with (fail)
     refine (HF.out _).mono ?_
     rintro e w2 ⟨rfl, hb⟩
     have HB2 := Lib.hid (HB.out.trans (hb.mono HB.out.size))
     have hz := (D4.out.next hb).lt
     obtain ⟨e0, e1, g0, g1⟩ := D4.out.next hb
     clear hb a0 a1 b0 b1
     go_wp2_with (fail)
     simp only [Exit.jump]
     refine bodyPost_ret (v := .tuple #[.agg #[.int .i64 fx, .int .i64 fy], .int .i64 0]) (by simp [results, Tryz.results91, go_sem, e0, e1]) rfl ⟨rfl, ?_⟩
     exact below_put2 HB2.out (c := w.heap.size + 1 + 1) (by omega) _ _
   · have HC : Hid (Pt.cg ⟨r, s⟩ (Pt.rest ⟨p, q⟩ ⟨r, s⟩) = Pt.cg ⟨x, y⟩ ⟨u, v⟩) := by
      show _ = _
      rw [← HG.out, Pt.cg_rest _ h0]
     have HL := Lib.hid (Pt.rest_lt ⟨p, q⟩ h0)
     have HN := Lib.hid (Pt.rest_right (a := ⟨p, q⟩) HQ.out h0)
     have HD := Lib.hid (divide_any HP.out HQ.out h0)
     have hne := not_zero h0
     clear h0
     obtain ⟨t, ht⟩ : ∃ t, Pt.rest ⟨p, q⟩ ⟨r, s⟩ = t := ⟨_, rfl⟩
     rw [ht] at HC HL HN HD
     obtain ⟨tx, ty⟩ := t
     have HD2 : Hid (∀ w, Calls Tryz.prog 130 #[.agg #[.int .i64 p, .int .i64 q], .agg #[.int .i64 r, .int .i64 s]] w
      (Gives (.tuple #[.agg #[.int .i64 (Pt.quo ⟨p, q⟩ ⟨r, s⟩).x, .int .i64 (Pt.quo ⟨p, q⟩ ⟨r, s⟩).y], .agg #[.int .i64 tx, .int .i64 ty]]) w)) := HD
     clear HD ht
     generalize (Pt.quo ⟨p, q⟩ ⟨r, s⟩).x = qx at *
     generalize (Pt.quo ⟨p, q⟩ ⟨r, s⟩).y = qy at *
     rcases hne with hr | ⟨hr, hs⟩
     all_goals
      go_wp2_with (fail)
      refine (HD2.out _).mono ?_
      rintro e w2 ⟨rfl, hb⟩
      obtain ⟨k2, o6, o7⟩ := boxes2 43 (.int .i64 qx) (.int .i64 qy) (.int .i64 tx) (.int .i64 ty) w2
      have HB2 := Lib.hid ((HB.out.trans (hb.mono HB.out.size)).trans (k2.mono (HB.out.trans (hb.mono HB.out.size)).size))
      have F2 := Lib.hid ((D2.out.next hb).next k2)
      have F3 := Lib.hid ((D3.out.next hb).next k2)
      have F4 := Lib.hid ((D4.out.next hb).next k2)
      have O7 := Lib.hid o7
      have hg : w.heap.size + 1 + 1 < w2.heap.size := (D4.out.next hb).lt
      clear hb a0 a1 b0 b1 f2 f3 f4 f5 k2 o6 o7
      go_wp2_with (fail)
      generalize (w2.alloc (.cells #[.int .i64 qx, .int .i64 qy] 43)).alloc (.cells #[.int .i64 tx, .int .i64 ty] 43) = w3 at *
      have n1 : ¬ w.heap.size = w2.heap.size + 1 := by omega
      have n2 : ¬ w.heap.size + 1 = w2.heap.size + 1 := by omega
      have n3 : ¬ w2.heap.size + 1 = w.heap.size := by omega
      have n4 : ¬ w2.heap.size + 1 = w.heap.size + 1 := by omega
      clear hg
      generalize w2.heap.size + 1 = g at *
      obtain ⟨a0, a1, _, _⟩ := O7.out
      obtain ⟨b0, b1, g0, g1⟩ := F2.out
      obtain ⟨c0, c1, i0, i1⟩ := F3.out
      have hz := F4.out.lt
      have HX := Lib.hid (((F2.out.set (.int .i64 r) (.int .i64 s)).put2 (c := w.heap.size + 1) (by omega) (.int .i64 tx) (.int .i64 ty)).drew)
      have HY := Lib.hid (((F3.out.put2 (c := w.heap.size) (by omega) (.int .i64 r) (.int .i64 s)).set (.int .i64 tx) (.int .i64 ty)).drew)
      have HZ := Lib.hid (((F4.out.put2 (c := w.heap.size) (by omega) (.int .i64 r) (.int .i64 s)).put2 (c := w.heap.size + 1) (by omega) (.int .i64 tx) (.int .i64 ty)).drew)
      have HW := Lib.hid (below_put2 (below_put2 HB2.out (c := w.heap.size) (by omega) (.int .i64 r) (.int .i64 s)) (c := w.heap.size + 1) (by omega) (.int .i64 tx) (.int .i64 ty)).drew
      go_region
      go_wp2_with (fail)
      go_step3
      refine ⟨rfl, ⟨r, s, tx, ty, _, _, _, _, _, _, _, _, _, _, _, _, _, _, _, _, _, _, _, _, HQ.out, HN.out, HC.out, HX.out, HY.out, HZ.out, HW.out, rfl⟩, ?_⟩
      refine Nat.lt_of_lt_of_eq ?_ HM.out.symm
      unfold muG
      rw [cellInt_of HY.out.c0, cellInt_of HY.out.c1]
      exact HL.out
end Go.Proofs.YtimllihegnokeaaGreatDoor.Ga

/-
  Small texts of this claim, together: PrLaw, PrJoin, PrRef, SoOwn, PrRight, SoSorter, PrGrp, PrVals, PrGrs, PrGroups, SoSink, SoRuns, SoOwns, SoTake, SoRest.
-/
import Derived.Test.YtkbhnphkopgccaaQPrOwn
import Derived.BigQuiet
import Derived.Shelf.GgClosure.Gives
import Derived.Test.YtkbhnphkopgccaaQ1
import Derived.BigRegion
import Derived.Test.YtkbhnphkopgccaaQ2
import Derived.Test.YtkbhnphkopgccaaQVaRight
import Derived.Shelf.SlicesQ.IndexFunc
import Derived.Test.YtkbhnphkopgccaaQSoMath
import Derived.RangeFuncBound
import Derived.RangeFuncCalls
import Derived.RangeFuncLeaves
import Derived.WalkKit
import Derived.OwnWalkIn
import Derived.TacticsInMore
import Derived.LoopNIn
import Derived.LoopIn
import Derived.Stop.RegionWithIn
import Derived.Test.YtkbhnphkopgccaaQSoPut
import Derived.Test.YtkbhnphkopgccaaQ3
namespace Go.Proofs.Ytkbhnphkopgccaa.Pr
open Go.ChangeShapes Go.WideShapes Go.ChangeAt Go.RowKit Go.Sort Go.Proofs Ov Va St
def SmallQ (l : List Pr) (w : World) (e : Ending) (w' : World) : Prop := ∃ b : Int, e = .returned (.int .i64 b) ∧ Below w.heap.size w w' ∧ (b = 0 ∨ (b = 1 ∧ l.length ≤ 100 ∧ ∀ p ∈ l, p.1.length ≤ 10000 ∧ p.2.s.length ≤ 10000))
set_option maxRecDepth 100000 in
set_option maxHeartbeats 2000000 in
theorem small_any (A : Option Addr) (c : Nat) (l : List Pr) (w : World) (h : Prs w A l) : Calls Try.prog 10 #[.slice A l.length c] w (SmallQ l w) := by
 have HN := Lib.hid h
 clear h
 go_enter Try.func10, Try.ntmps10
 go_wp2_with (fail)
 go_loopg [3, 4] (l.length + 1) (fun kx s3 s4 wr => ∃ (j q m : Nat), j ≤ l.length ∧ j ≤ 101 ∧ q ≤ j * 200000 ∧ l.length + 1 - j ≤ kx ∧ s3 = .int .i64 q ∧ s4 = .int .i64 j ∧ wr = w.drewN m ∧
  Hid (∀ i, i < j → min (pd l i).1.length 100000 + min (pd l i).2.s.length 100000 ≤ q))
 case atStart => exact ⟨0, 0, 0, Nat.zero_le _, by omega, by omega, by omega, rfl, rfl, rfl, fun i hi => absurd hi (Nat.not_lt_zero _)⟩
 case round =>
  obtain ⟨j, q, m, hj, hj1, hq, hkx, rfl, rfl, rfl, HQ⟩ := hrel
  by_cases hlt : j < l.length ∧ j ≤ 100
  · obtain ⟨hlt, hl1⟩ := hlt
    have hltz : (j : Int) < (l.length : Int) := by omega
    have hl1z : (j : Int) ≤ 100 := by omega
    obtain ⟨G, O, rfl⟩ := HN.out.shape (by omega)
    have hd : Prs (w.drewN m) (some ⟨G, O, none⟩) l := HN.out
    have a0 := hd.cell hlt 0 _ rfl
    have a3 := hd.cell hlt 3 _ rfl
    rw [Nat.add_zero] at a0
    have HZ := Lib.hid (tx_size (pd l j).1); have HY := Lib.hid (tx_size (pd l j).2.s)
    generalize tx (pd l j).1 = s0 at *
    generalize tx (pd l j).2.s = s1 at *
    obtain ⟨z, hz, hz1⟩ : ∃ z : Nat, min ((s0.size : Nat) : Int) 100000 = (z : Int) ∧ z = min s0.size 100000 := ⟨min s0.size 100000, by omega, rfl⟩
    obtain ⟨y, hy, hy1⟩ : ∃ y : Nat, min ((s1.size : Nat) : Int) 100000 = (y : Int) ∧ y = min s1.size 100000 := ⟨min s1.size 100000, by omega, rfl⟩
    have HZ1 := Lib.hid hz1; have HY1 := Lib.hid hy1
    have hz2 : z ≤ 100000 := by omega
    have hy2 : y ≤ 100000 := by omega
    clear hz1 hy1 hd
    generalize hwo : w.drewN m = wo at *
    have HWO := Lib.hid hwo; clear hwo
    go_wp2_with (fail)
    go_quiet (fail)
    go_wp2_with (fail)
    go_roundg (l.length + 1 - (j + 1))
    case measure => omega
    case rel => exact ⟨j + 1, q + z + y, m + _, by omega, by omega, by omega, Nat.le_refl _, by go_num, by go_num, by rw [← HWO.out, World.drewN_drewN], fun i hi => by
     by_cases hij : i = j
     · subst hij
       rw [← HZ.out, ← HY.out, ← HZ1.out, ← HY1.out]; omega
     · have := HQ.out i (by omega); omega⟩
  · have hb := below_drewN (Below.refl w.heap.size w) m
    by_cases hjl : j < l.length
    · have hltz : (j : Int) < (l.length : Int) := by omega
      have hj2 : ¬ ((j : Int) ≤ 100) := by omega
      have hl2 : (100 : Int) < (l.length : Int) := by omega
      go_wp2_with (fail)
      go_ret
      exact ⟨0, rfl, hb, .inl rfl⟩
    · have hltz : ¬ (j : Int) < (l.length : Int) := by omega
      obtain rfl : j = l.length := by omega
      clear hlt
      by_cases hl2 : (100 : Int) < (l.length : Int)
      · go_wp2_with (fail)
        go_ret
        exact ⟨0, rfl, hb, .inl rfl⟩
      by_cases hq2 : (10000 : Int) < (q : Int)
      · go_wp2_with (fail)
        go_ret
        exact ⟨0, rfl, hb, .inl rfl⟩
      have hq3 : q ≤ 10000 := by omega
      go_wp2_with (fail)
      go_ret
      refine ⟨1, rfl, hb, .inr ⟨rfl, by omega, fun p hp => ?_⟩⟩
      obtain ⟨i, hi, rfl⟩ := List.getElem_of_mem hp
      have := HQ.out i hi
      rw [pd_at hi] at this
      omega
set_option maxRecDepth 100000 in
set_option maxHeartbeats 1000000 in
theorem neq_pair (p : Pr) (w : World) : (binOp .neq 49 (.agg #[.string (tx p.1), .int .i64 p.2.k, .int .i64 p.2.n, .string (tx p.2.s), .int .i64 p.2.x, .int .i64 p.2.y]) (.agg #[.string (tx p.1), .int .i64 p.2.k, .int .i64 p.2.n, .string (tx p.2.s), .int .i64 p.2.x, .int .i64 p.2.y])).run Try.prog w = .ok (.bool false) w := by
 generalize tx p.1 = o
 generalize p.2.k = a
 generalize p.2.n = b
 generalize tx p.2.s = s
 generalize p.2.x = x
 generalize p.2.y = y
 have u := Try.underlying3
 have hN : Try.prog.underlying 49 = some (.struct (Try.prog.fieldsOf 49)) := by kernel_rfl
 have hS : Try.prog.underlying 47 = some (.struct (Try.prog.fieldsOf 47)) := by kernel_rfl
 have hS2 : Try.prog.underlying 45 = some (.struct (Try.prog.fieldsOf 45)) := by kernel_rfl
 have hp0 : Try.prog.stoodInHeld 49 = false := by kernel_rfl
 have hp : Try.prog.stoodInHeld 47 = false := by kernel_rfl
 have hp2 : Try.prog.stoodInHeld 45 = false := by kernel_rfl
 have hr := fun d xs ys w => run_equalIn_struct (P := Try.prog) w d 47 xs ys hS hp
 have hq := fun d xs ys w => run_equalIn_struct (P := Try.prog) w d 45 xs ys hS2 hp2
 rw [run_neq_struct, show (10000 : Nat) = 9999 + 1 from rfl, run_equalIn_struct w 9999 49 _ _ hN hp0]
 clear hN hS hS2 hp hp0 hp2
 simp only [Program.fieldsOf, Try.underlying49, Try.underlying47, Try.underlying45] at hq hr ⊢
 go_simp
set_option maxRecDepth 100000 in
set_option maxHeartbeats 2000000 in
theorem same_pairs (l : List Pr) (A B : Option Addr) (c d : Nat) (w : World) (ha : Prs w A l) (hb : Prs w B l) (hl : l.length ≤ 4294967296) : Calls Try.prog 16 #[.slice A l.length c, .slice B l.length d] w (Gives (.bool true) w) := by
 have HA := Lib.hid ha; have HB := Lib.hid hb
 clear ha hb
 go_enter Try.func16, Try.ntmps16
 go_wp2_with (fail)
 go_loopg [5] l.length (fun kx i wr => ∃ k m : Nat, k ≤ l.length ∧ l.length - k ≤ kx ∧ i = .int .i64 (k : Int) ∧ wr = w.drewN m)
 case atStart => exact ⟨0, 0, Nat.zero_le _, by omega, rfl, rfl⟩
 case round =>
  obtain ⟨k, m, hk, hkx, rfl, rfl⟩ := hrel
  by_cases hlt : k < l.length
  · have hltz : (k : Int) < (l.length : Int) := by omega
    obtain ⟨G, O, rfl⟩ := HA.out.shape (by omega)
    obtain ⟨G', O', rfl⟩ := HB.out.shape (by omega)
    have hda : Prs (w.drewN m) (some ⟨G, O, none⟩) l := HA.out
    have hdb : Prs (w.drewN m) (some ⟨G', O', none⟩) l := HB.out
    have a0 := hda.cell hlt 0 _ rfl
    have a1 := hda.cell hlt 1 _ rfl
    have a2 := hda.cell hlt 2 _ rfl
    have a3 := hda.cell hlt 3 _ rfl
    have a4 := hda.cell hlt 4 _ rfl
    have a5 := hda.cell hlt 5 _ rfl
    have b0 := hdb.cell hlt 0 _ rfl
    have b1 := hdb.cell hlt 1 _ rfl
    have b2 := hdb.cell hlt 2 _ rfl
    have b3 := hdb.cell hlt 3 _ rfl
    have b4 := hdb.cell hlt 4 _ rfl
    have b5 := hdb.cell hlt 5 _ rfl
    rw [Nat.add_zero] at a0 b0
    have hE := fun w => neq_pair (pd l k) w
    generalize pd l k = n at *
    clear hda hdb
    generalize hwo : w.drewN m = wo at *
    have HWO := Lib.hid hwo; clear hwo
    go_wp2_with (fail)
    go_quiet (fail)
    go_wp2_with (fail)
    go_roundg (l.length - (k + 1))
    case measure => omega
    case rel => exact ⟨k + 1, m + _, by omega, Nat.le_refl _, by go_num, by rw [← HWO.out, World.drewN_drewN]⟩
  · have hltz : ¬ (k : Int) < (l.length : Int) := by omega
    go_wp2_with (fail)
    go_ret
    exact ⟨rfl, below_drewN (Below.refl _ _) m⟩
theorem byKey_gives (a b : Pr) (w : World) : Calls Try.prog 37 #[.agg (pcl a).toArray, .agg (pcl b).toArray] w (Gives (.int .i64 (ck a b)) w) :=
 (byKey_any a b w).mono fun _ _ ⟨he, q, os, hw⟩ => ⟨he, by rw [hw]; exact below_grown w q os⟩
theorem od_near (l : List Pr) (h : ∀ j, 0 < j → j < l.length → kl (pd l j) (pd l (j - 1)) = false) : Od l := by
 have far : ∀ d i, i + d + 1 < l.length → kl (pd l (i + d + 1)) (pd l i) = false := by
  intro d
  induction d with
  | zero => intro i hi; exact h (i + 1) (by omega) hi
  | succ d ih => intro i hi; exact swo.ntrans _ _ _ (h (i + (d + 1) + 1) (by omega) hi) (ih i (by omega))
 rw [Od, List.pairwise_iff_getElem]
 intro i j hi hj hij
 have e := far (j - i - 1) i (by omega)
 rw [show i + (j - i - 1) + 1 = j by omega, pd_at hi, pd_at hj] at e
 exact e
theorem near_od (l : List Pr) (h : Od l) (j : Nat) (h0 : 0 < j) (hj : j < l.length) : kl (pd l j) (pd l (j - 1)) = false := by
 rw [pd_at hj, pd_at (show j - 1 < l.length by omega)]
 exact (List.pairwise_iff_getElem.1 h) (j - 1) j (by omega) hj (by omega)
def OrdQ (l : List Pr) (w : World) (e : Ending) (w' : World) : Prop := ∃ b : Bool, e = .returned (.bool b) ∧ (b = true ↔ Od l) ∧ Below w.heap.size w w'
set_option maxRecDepth 100000 in
set_option maxHeartbeats 2000000 in
theorem isSorted_any (A : Option Addr) (c : Nat) (l : List Pr) (w : World) (h : Prs w A l) (hl : l.length ≤ 1000000) : Calls Try.prog 43 #[.slice A l.length c, .func (.func 37) #[] #[]] w (OrdQ l w) := by
 have HN := Lib.hid h
 clear h
 go_enter Try.func43, Try.ntmps43
 go_wp2_with (fail)
 go_loopg [5] (l.length + 1) (fun kx s5 wr => ∃ j : Nat, j ≤ l.length ∧ j ≤ kx ∧ s5 = .int .i64 ((j : Int) - 1) ∧ Hid (Below w.heap.size w wr) ∧ Hid (∀ i, j ≤ i → 0 < i → i < l.length → kl (pd l i) (pd l (i - 1)) = false))
 case atStart => exact ⟨l.length, Nat.le_refl _, by omega, rfl, Below.refl _ _, fun i h1 _ h2 => by omega⟩
 case round =>
  obtain ⟨j, hj, hkx, rfl, HB, HQ⟩ := hrel
  by_cases hlt : 1 < j
  · obtain ⟨i, rfl⟩ : ∃ i, j = i + 2 := ⟨j - 2, by omega⟩
    have hltz : (0 : Int) < ((i + 2 : Nat) : Int) - 1 := by omega
    obtain ⟨G, O, rfl⟩ := HN.out.shape (by omega)
    have hd := HN.out.next HB.out
    have a0 := fun r : Over wr => over_cell r (hd.cell (i := i + 1) (by omega) 0 _ rfl)
    have a1 := fun r : Over wr => over_cell r (hd.cell (i := i + 1) (by omega) 1 _ rfl)
    have a2 := fun r : Over wr => over_cell r (hd.cell (i := i + 1) (by omega) 2 _ rfl)
    have a3 := fun r : Over wr => over_cell r (hd.cell (i := i + 1) (by omega) 3 _ rfl)
    have a4 := fun r : Over wr => over_cell r (hd.cell (i := i + 1) (by omega) 4 _ rfl)
    have a5 := fun r : Over wr => over_cell r (hd.cell (i := i + 1) (by omega) 5 _ rfl)
    have b0 := fun r : Over wr => over_cell r (hd.cell (i := i) (by omega) 0 _ rfl)
    have b1 := fun r : Over wr => over_cell r (hd.cell (i := i) (by omega) 1 _ rfl)
    have b2 := fun r : Over wr => over_cell r (hd.cell (i := i) (by omega) 2 _ rfl)
    have b3 := fun r : Over wr => over_cell r (hd.cell (i := i) (by omega) 3 _ rfl)
    have b4 := fun r : Over wr => over_cell r (hd.cell (i := i) (by omega) 4 _ rfl)
    have b5 := fun r : Over wr => over_cell r (hd.cell (i := i) (by omega) 5 _ rfl)
    simp only [Nat.add_zero] at a0 b0
    have HK := Lib.hid (fun w => byKey_gives (pd l (i + 1)) (pd l i) w)
    unfold pcl at HK
    have hck := ck_kl (pd l (i + 1)) (pd l i)
    have e1 : IntKind.i64.wrap (((i + 2 : Nat) : Int) - 1) = ((i + 1 : Nat) : Int) := by rw [IntKind.wrap_i64]; omega
    have HS : Hid (pd l (i + 1) = pd l (i + 1)) := rfl
    generalize hx : pd l (i + 1) = x at *
    generalize hy : pd l i = y at *
    have HXY := Lib.hid (And.intro hx hy)
    clear hx hy HS hd
    rw [show ((i + 2 : Nat) : Int) - 1 = ((i + 1 : Nat) : Int) by omega] at *
    have hix : ((i + 1 : Nat) : Int) < (l.length : Int) := by omega
    have hiy : (i : Int) < (l.length : Int) := by omega
    have e2 : ((i + 1 : Nat) : Int) - 1 = (i : Int) := by omega
    generalize ck x y = cc at *
    have hmix : Try.prog.follows .mixedOrders = true := by kernel_rfl
    cases hb0 : decide (cc < 0) with
    | true =>
      rw [hb0] at hck
      have HCK := Lib.hid hck
      clear hck
      go_upto_region 4 with fail
      refine wp_over (by kernel_rfl) (by kernel_rfl) ?_
      repeat (go_big_quiet_step (first | fail | with_reducible exact over_gives _ (HK.out _)))
      refine wpQuiet_nil ?_
      rintro w2 ⟨⟨w2, hb⟩, rfl⟩
      have HB2 := Lib.hid (Below.next HB.out hb)
      clear hb a0 a1 a2 a3 a4 a5 b0 b1 b2 b3 b4 b5
      go_wp2_with (fail)
      go_ret
      refine ⟨false, rfl, ⟨(fun h => nomatch h), fun h => ?_⟩, HB2.out⟩
      have := near_od l h (i + 1) (by omega) (by omega)
      rw [show i + 1 - 1 = i by omega, HXY.out.1, HXY.out.2, ← HCK.out] at this
      cases this
    | false =>
      rw [hb0] at hck
      have HCK := Lib.hid hck
      clear hck
      go_upto_region 4 with fail
      refine wp_over (by kernel_rfl) (by kernel_rfl) ?_
      repeat (go_big_quiet_step (first | fail | with_reducible exact over_gives _ (HK.out _)))
      refine wpQuiet_nil ?_
      rintro w2 ⟨⟨w2, hb⟩, rfl⟩
      have HB2 := Lib.hid (Below.next HB.out hb)
      clear hb a0 a1 a2 a3 a4 a5 b0 b1 b2 b3 b4 b5
      go_wp2_with (fail)
      go_roundg (i + 1)
      case measure => omega
      case rel => exact ⟨i + 1, by omega, Nat.le_refl _, by first | rfl | go_num | (congr 1; omega), HB2, fun t h1 h2 h3 => by
       by_cases ht : t = i + 1
       · subst ht
         rw [show i + 1 - 1 = i by omega, HXY.out.1, HXY.out.2]; exact HCK.out.symm
       · exact HQ.out t (by omega) h2 h3⟩
  · have hltz : ¬ (0 : Int) < (j : Int) - 1 := by omega
    go_wp2_with (fail)
    go_ret
    exact ⟨true, rfl, ⟨fun _ => od_near l fun t h1 h2 => HQ.out t (by omega) h1 h2, fun _ => rfl⟩, HB.out⟩
theorem ordered_any (A : Option Addr) (c : Nat) (l : List Pr) (w : World) (h : Prs w A l) (hl : l.length ≤ 1000000) : Calls Try.prog 27 #[.slice A l.length c] w (OrdQ l w) := by
 have hs := isSorted_any A c l w h hl
 go_enter Try.func27, Try.ntmps27
 go_wp2_with (fail)
 refine hs.mono ?_
 rintro e w1 ⟨b, rfl, hb, hB⟩
 have HB := Lib.hid hB; have HO := Lib.hid hb
 clear hb hB hs
 go_wp2_with (fail)
 go_ret
 exact ⟨b, rfl, HO.out, HB.out⟩
theorem set_right (a b : List Value) (n : Nat) (u : Value) (h : a.length = n) (k : Nat) : (a ++ b).set (n + k) u = a ++ b.set k u := by
 subst h
 rw [List.set_append_right _ _ (by omega), Nat.add_sub_cancel_left]
theorem pcells_set (l : List Pr) (j : Nat) (q : Pr) (h : j < l.length) : pcells (l.set j q) =
 ((((((pcells l).set (j * 6) (.string (tx q.1))).set (j * 6 + 1) (.int .i64 q.2.k)).set (j * 6 + 2) (.int .i64 q.2.n)).set (j * 6 + 3) (.string (tx q.2.s))).set (j * 6 + 4) (.int .i64 q.2.x)).set (j * 6 + 5) (.int .i64 q.2.y) := by
 induction l generalizing j with
 | nil => exact absurd h (Nat.not_lt_zero _)
 | cons n t ih =>
   cases j with
   | zero => rfl
   | succ j =>
     have e : ∀ l : List Pr, pcells (n :: l) = pcl n ++ pcells l := fun _ => rfl
     rw [List.set_cons_succ, e, e, ih j (by simpa using h), show (j + 1) * 6 = 6 + j * 6 by omega]
     simp only [Nat.add_assoc]
     rw [set_right _ _ 6 _ rfl, set_right _ _ 6 _ rfl, set_right _ _ 6 _ rfl, set_right _ _ 6 _ rfl, set_right _ _ 6 _ rfl, set_right _ _ 6 _ rfl]
theorem own_set6 {P : World → Prop} {lo : Nat} {W w : World} {B g c n o : Nat} {l : List Pr} (h : w.ownsRow B 49 6 (.slice (some ⟨g, 0, none⟩) n c) n (pcells l)) (hb : Below lo W w) (hlo : lo ≤ B) (j : Nat) (hj : j < l.length) (ho : o = j * 6) (q : Pr)
 (k : ∀ w', w'.ownsRow B 49 6 (.slice (some ⟨g, 0, none⟩) n c) n (pcells (l.set j q)) → Below lo W w' → P w') :
 P ((((((w.setCell ⟨g, o, none⟩ (.string (tx q.1))).setCell ⟨g, o + 1, none⟩ (.int .i64 q.2.k)).setCell ⟨g, o + 2, none⟩ (.int .i64 q.2.n)).setCell ⟨g, o + 3, none⟩ (.string (tx q.2.s))).setCell ⟨g, o + 4, none⟩ (.int .i64 q.2.x)).setCell ⟨g, o + 5, none⟩ (.int .i64 q.2.y)) := by
 subst ho
 have hg := (h.lt g rfl).1
 have hl : lo ≤ g := by omega
 refine k _ ?_ ((((((hb.setCell (p := ⟨g, _, none⟩) hl _).setCell (p := ⟨g, _, none⟩) hl _).setCell (p := ⟨g, _, none⟩) hl _).setCell (p := ⟨g, _, none⟩) hl _).setCell (p := ⟨g, _, none⟩) hl _).setCell (p := ⟨g, _, none⟩) hl _)
 rw [pcells_set l j q hj]
 exact ((((((h.stored _ _).1.stored _ _).1.stored _ _).1.stored _ _).1.stored _ _).1.stored _ _).1
theorem own_set6s {lo : Nat} {W w : World} {B g c n o : Nat} {l : List Pr} (h : w.ownsRow B 49 6 (.slice (some ⟨g, 0, none⟩) n c) n (pcells l)) (hb : Below lo W w) (hlo : lo ≤ B) (j : Nat) (hj : j < l.length) (ho : o = j * 6) (q : Pr) {m : List Pr} (hm : l.set j q = m) :
 Hid (((((((w.setCell ⟨g, o, none⟩ (.string (tx q.1))).setCell ⟨g, o + 1, none⟩ (.int .i64 q.2.k)).setCell ⟨g, o + 2, none⟩ (.int .i64 q.2.n)).setCell ⟨g, o + 3, none⟩ (.string (tx q.2.s))).setCell ⟨g, o + 4, none⟩ (.int .i64 q.2.x)).setCell ⟨g, o + 5, none⟩ (.int .i64 q.2.y)).ownsRow B 49 6 (.slice (some ⟨g, 0, none⟩) n c) n (pcells m)) ∧
 Hid (Below lo W ((((((w.setCell ⟨g, o, none⟩ (.string (tx q.1))).setCell ⟨g, o + 1, none⟩ (.int .i64 q.2.k)).setCell ⟨g, o + 2, none⟩ (.int .i64 q.2.n)).setCell ⟨g, o + 3, none⟩ (.string (tx q.2.s))).setCell ⟨g, o + 4, none⟩ (.int .i64 q.2.x)).setCell ⟨g, o + 5, none⟩ (.int .i64 q.2.y))) := by
 subst hm
 exact own_set6 (P := fun w' => Hid (w'.ownsRow B 49 6 (.slice (some ⟨g, 0, none⟩) n c) n (pcells (l.set j q))) ∧ Hid (Below lo W w')) h hb hlo j hj ho q fun w' h1 h2 => ⟨h1, h2⟩
end Go.Proofs.Ytkbhnphkopgccaa.Pr
namespace Go.Proofs.Ytkbhnphkopgccaa.So
open Go.ChangeShapes Go.WideShapes Go.ChangeAt Go.RowKit Go.Sort Go.Shelf Go.Proofs Ov Va St Pr
theorem fin6 {P : World → Prop} {lo : Nat} {W w : World} {b : Nat} {x0 x1 x2 x3 x4 x5 : Value} (h : Blk w b [x0, x1, x2, x3, x4, x5]) (hb : Below lo W w) (hlo : lo ≤ b) (a0 a1 a2 a3 a4 a5 : Value)
 (k : ∀ w', Blk w' b [a0, a1, a2, a3, a4, a5] → Below lo W w' → P w') : P ((((((w.setCell ⟨b, 0, none⟩ a0).setCell ⟨b, 1, none⟩ a1).setCell ⟨b, 2, none⟩ a2).setCell ⟨b, 3, none⟩ a3).setCell ⟨b, 4, none⟩ a4).setCell ⟨b, 5, none⟩ a5) :=
 k _ ((((((h.set 0 a0).set 1 a1).set 2 a2).set 3 a3).set 4 a4).set 5 a5) ((((((hb.setCell hlo _).setCell hlo _).setCell hlo _).setCell hlo _).setCell hlo _).setCell hlo _)
set_option maxRecDepth 100000 in
set_option maxHeartbeats 4000000 in
theorem ownPair_any (p : Pr) (w : World) (h1 : p.1.length ≤ 1000000) (h2 : p.2.s.length ≤ 1000000) :
 Calls Try.prog 40 #[.agg (pcl p).toArray] w (Gives (.agg (pcl p).toArray) w) := by
 obtain ⟨pk, pv⟩ := p
 obtain ⟨vk, vn, vs, vx, vy⟩ := pv
 dsimp only at h1 h2
 have HC := Lib.hid (fun W => clone_any (tx pk) W (by rw [tx_size]; omega))
 have HD := Lib.hid (fun W => clone_any (tx vs) W (by rw [tx_size]; omega))
 clear h1 h2
 unfold pcl
 dsimp only
 generalize tx pk = k at *
 generalize tx vs = s at *
 have H1 := Lib.hid ((box6 w 49 (.string k) (.int .i64 vk) (.int .i64 vn) (.string s) (.int .i64 vx) (.int .i64 vy)).old (.cells #[.string ⟨#[]⟩, .int .i64 0, .int .i64 0, .string ⟨#[]⟩, .int .i64 0, .int .i64 0] 49))
 have H2 := Lib.hid (box6 (w.alloc (.cells #[.string k, .int .i64 vk, .int .i64 vn, .string s, .int .i64 vx, .int .i64 vy] 49)) 49 (.string ⟨#[]⟩) (.int .i64 0) (.int .i64 0) (.string ⟨#[]⟩) (.int .i64 0) (.int .i64 0))
 have HB := Lib.hid (box2 w (.cells #[.string k, .int .i64 vk, .int .i64 vn, .string s, .int .i64 vx, .int .i64 vy] 49) (.cells #[.string ⟨#[]⟩, .int .i64 0, .int .i64 0, .string ⟨#[]⟩, .int .i64 0, .int .i64 0] 49))
 rw [World.size_alloc] at H2
 go_enter Try.func40, Try.ntmps40
 go_wp2_with (fail)
 generalize (w.alloc (.cells #[.string k, .int .i64 vk, .int .i64 vn, .string s, .int .i64 vx, .int .i64 vy] 49)).alloc (.cells #[.string ⟨#[]⟩, .int .i64 0, .int .i64 0, .string ⟨#[]⟩, .int .i64 0, .int .i64 0] 49) = v0 at *
 have H1d := H1.out.drew
 have d0 := H1d.c 0 _ rfl
 have d3 := H1d.c 3 _ rfl
 have HF1 := Lib.hid H1d; have HF2 := Lib.hid H2.out.drew; have HBd := Lib.hid (below_drewN HB.out 1)
 clear H1d H1 H2 HB
 go_upto_region 1 with fail
 go_region_with (first
  | (refine (HC.out _).mono ?_
     rintro e w1 ⟨rfl, hb⟩
     have HG1 := Lib.hid (HF1.out.next hb); have HG2 := Lib.hid (HF2.out.next hb); have HBe := Lib.hid (Below.next HBd.out hb)
     have g3 := HG1.out.c 3 _ rfl
     clear hb)
  | (refine (HD.out _).mono ?_
     rintro e w2 ⟨rfl, hb⟩
     have HX := HG1.out.next hb; have HY := Lib.hid (HG2.out.next hb); have HBf := Lib.hid (Below.next HBe.out hb)
     have x0 := HX.c 0 _ rfl; have x1 := HX.c 1 _ rfl; have x2 := HX.c 2 _ rfl; have x3 := HX.c 3 _ rfl; have x4 := HX.c 4 _ rfl; have x5 := HX.c 5 _ rfl
     have f0 := HX.f 0 _ rfl; have f3 := HX.f 3 _ rfl
     clear hb HX))
 all_goals
  rw [setCell_self x0, setCell_self x3]
  have y0 := HY.out.c 0 _ rfl; have y1 := HY.out.c 1 _ rfl; have y2 := HY.out.c 2 _ rfl; have y3 := HY.out.c 3 _ rfl; have y4 := HY.out.c 4 _ rfl; have y5 := HY.out.c 5 _ rfl
  have z0 := HY.out.f 0 _ rfl; have z1 := HY.out.f 1 _ rfl; have z2 := HY.out.f 2 _ rfl; have z3 := HY.out.f 3 _ rfl; have z4 := HY.out.f 4 _ rfl; have z5 := HY.out.f 5 _ rfl
  have HY' := HY.out
  have HB' := HBf.out
  clear HY HBf HG1 HG2 HBe HF1 HF2 HBd g3 HC HD
  go_wp2_with (fail)
  refine fin6 (P := bodyPost _ _ _ _ _) HY' HB' (by omega) _ _ _ _ _ _ fun w4 hx hy => ?_
  have c0 := hx.c 0 _ rfl; have c1 := hx.c 1 _ rfl; have c2 := hx.c 2 _ rfl; have c3 := hx.c 3 _ rfl; have c4 := hx.c 4 _ rfl; have c5 := hx.c 5 _ rfl
  exact bodyPost_ret (v := .agg #[.string k, .int .i64 vk, .int .i64 vn, .string s, .int .i64 vx, .int .i64 vy]) (by simp [results, Try.results40, go_sem, c0, c1, c2, c3, c4, c5]) rfl ⟨rfl, hy⟩
end Go.Proofs.Ytkbhnphkopgccaa.So
namespace Go.Proofs.Ytkbhnphkopgccaa.Pr
open Go.ChangeShapes Go.WideShapes Go.ChangeAt Go.RowKit Go.Sort Go.Shelf Go.Proofs Ov Va St
def cfRen : Ren := ⟨fun | 6 => 44 | 8 => 28 | n => n, fun | 0 => 0 | 3 => 3 | 4 => 4 | 22 => 22 | 23 => 49 | 25 => 58 | n => n, fun n => n⟩
theorem cfLays : SlLaysH0.n8 Try.prog cfRen :=
 { mixed := by kernel_rfl
   f6 := ⟨Try.f44.name, by kernel_rfl, by kernel_rfl⟩
   f8 := ⟨Try.f28.name, by kernel_rfl, by kernel_rfl⟩
   t0 := by kernel_rfl
   a0 := fun _ => by kernel_rfl
   z0 := fun _ => by kernel_rfl
   v0 := fun _ => by kernel_rfl
   t3 := by kernel_rfl
   a3 := fun _ => by kernel_rfl
   z3 := fun _ => by kernel_rfl
   v3 := fun _ => by kernel_rfl
   t4 := by kernel_rfl
   a4 := fun _ => by kernel_rfl
   z4 := fun _ => by kernel_rfl
   v4 := fun _ => by kernel_rfl
   t22 := by kernel_rfl
   a22 := fun _ => by kernel_rfl
   z22 := fun _ => by kernel_rfl
   v22 := fun _ => by kernel_rfl
   t25 := by kernel_rfl
   a25 := fun _ => by kernel_rfl
   z25 := fun _ => by kernel_rfl
   v25 := fun _ => by kernel_rfl }
set_option maxRecDepth 100000 in
set_option maxHeartbeats 1000000 in
theorem wrong_any (p : Pr) (w : World) : Calls Try.prog 29 #[.agg (pcl p).toArray] w (Gives (.bool (!rp p)) w) := by
 obtain ⟨pk, ⟨vk, vn, vs, vx, vy⟩⟩ := p
 have HR := Lib.hid (fun w => right_val vk vn vx vy (tx vs) w)
 have HP := Lib.hid (box6 w 49 (.string (tx pk)) (.int .i64 vk) (.int .i64 vn) (.string (tx vs)) (.int .i64 vx) (.int .i64 vy))
 have HB := Lib.hid (box1 w (.cells #[.string (tx pk), .int .i64 vk, .int .i64 vn, .string (tx vs), .int .i64 vx, .int .i64 vy] 49))
 rw [tx_list] at HR
 have hrp : rp (pk, ⟨vk, vn, vs, vx, vy⟩) = (decide (pk.length ≤ 64) && rt ⟨vk, vn, vs, vx, vy⟩) := rfl
 rw [hrp]
 clear hrp
 unfold pcl
 dsimp only
 have hz := tx_size pk
 generalize tx pk = tk at *
 generalize rt ⟨vk, vn, vs, vx, vy⟩ = r at *
 rw [← hz]
 clear hz
 generalize hbb : decide (tk.size ≤ 64) = b
 cases b with
 | true =>
   have hd : decide (64 < (tk.size : Int)) = false := decide_eq_false (by have := of_decide_eq_true hbb; omega)
   clear hbb
   cases r
   all_goals
    go_enter Try.func29, Try.ntmps29
    go_wp2_with (fail)
    refine (HR.out _).mono ?_
    rintro e w1 ⟨rfl, hb⟩
    replace HB := Lib.hid (Below.next HB.out hb)
    clear hb
    go_wp2_with (fail)
    go_ret
    exact ⟨rfl, HB.out⟩
 | false =>
   have hd : decide (64 < (tk.size : Int)) = true := decide_eq_true (by have := of_decide_eq_false hbb; omega)
   clear hbb
   go_enter Try.func29, Try.ntmps29
   go_wp2_with (fail)
   go_ret
   exact ⟨rfl, HB.out⟩
theorem index_none (A : Option Addr) (c : Nat) (g : Value) (w : World) : Calls Try.prog 44 #[.slice A 0 c, g] w fun e w' => e = .returned (.int .i64 (-1)) ∧ w' = w := by
 go_enter Try.func44, Try.ntmps44
 go_wp2_with (fail)
 refine wp_loop_rounds 1 ?_
 rw [rounds_succ]
 go_wp2_with (fail)
 go_ret
 exact ⟨rfl, rfl⟩
theorem contains_none (A : Option Addr) (c : Nat) (g : Value) (w : World) : Calls Try.prog 28 #[.slice A 0 c, g] w fun e w' => e = .returned (.bool false) ∧ w' = w := by
 go_enter Try.func28, Try.ntmps28
 go_wp2_with (fail)
 refine (index_none A c g _).mono ?_
 rintro e w1 ⟨rfl, rfl⟩
 go_wp2_with (fail)
 go_ret
 exact ⟨rfl, rfl⟩
theorem contains_any (A : Option Addr) (c : Nat) (l : List Pr) (w : World) (h : Prs w A l) (hl : l.length ≤ 1000000) :
 Calls Try.prog 28 #[.slice A l.length c, .func (.func 29) #[] #[]] w (Gives (.bool (l.any fun p => !rp p)) w) := by
 rcases Nat.eq_zero_or_pos l.length with h0 | h0
 · obtain rfl : l = [] := List.length_eq_zero_iff.1 h0
   exact (contains_none A c _ w).mono fun _ w' ⟨he, hw⟩ => ⟨he, by rw [hw]; exact Below.refl _ _⟩
 · obtain ⟨B, O, rfl, hc⟩ := h h0
   have hg : ∀ j, j < l.length → l[j]! = pd l j := fun j hj => by rw [pd_at hj]; exact getElem!_pos l j hj
   have := AnyQ.slices_ContainsFunc cfLays 6 (fun w => by kernel_rfl) (fun w => by kernel_rfl) pcl pcl_len (fun p => !rp p) 29 #[] (enters_of Try.func29 (by kernel_rfl) rfl) B O l.length c l w
    (fun W x hb => (wrong_any x W).mono fun _ _ ⟨he, hb'⟩ => ⟨he, Below.next hb hb'⟩) (Nat.le_refl _) (by omega) (block_lt_of_cell (hc 0 0 _ h0 rfl)) (fun j hj i v hv => hc j i v hj (by rw [← hg j hj]; exact hv))
   rw [List.take_length] at this
   exact this
theorem pright_any (A : Option Addr) (c : Nat) (l : List Pr) (w : World) (h : Prs w A l) (hl : l.length ≤ 1000000) :
 Calls Try.prog 11 #[.slice A l.length c] w (Gives (.bool (rl l)) w) := by
 have HC := Lib.hid (contains_any A c l w h hl)
 have e : rl l = !(l.any fun p => !rp p) := by unfold rl; rw [List.all_eq_not_any_not]
 rw [e]
 generalize (l.any fun p => !rp p) = b at *
 go_enter Try.func11, Try.ntmps11
 go_wp2_with (fail)
 refine HC.out.mono ?_
 rintro e w1 ⟨rfl, hb⟩
 have HB := Lib.hid hb
 clear hb
 go_wp2_with (fail)
 go_ret
 exact ⟨rfl, HB.out⟩
end Go.Proofs.Ytkbhnphkopgccaa.Pr
namespace Go.Proofs.Ytkbhnphkopgccaa.So
open Go.ChangeShapes Go.WideShapes Go.ChangeAt Go.RowKit Go.Sort Go.Shelf Go.Proofs Ov Va St Pr
def ch (room : Nat) (l : List Pr) (i : Nat) : List Pr := sr ((l.drop (i * room)).take room)
theorem ch_more {room : Nat} {l : List Pr} {i : Nat} (p : Pr) (h : i * room + room ≤ l.length) : ch room (l ++ [p]) i = ch room l i := by
 unfold ch
 rw [List.drop_append_of_le_length (by omega), List.take_append_of_le_length (by rw [List.length_drop]; omega)]
theorem chs_more {room : Nat} {l : List Pr} {q : Nat} (p : Pr) (h : q * room ≤ l.length) : (List.range q).map (ch room (l ++ [p])) = (List.range q).map (ch room l) := by
 refine List.map_congr_left fun i hi => ch_more p ?_
 have hi' : i < q := by simpa using hi
 have : (i + 1) * room ≤ q * room := Nat.mul_le_mul_right _ (by omega)
 rw [Nat.add_mul] at this
 omega
theorem ch_last {room : Nat} {l : List Pr} {q : Nat} (p : Pr) (h : q * room ≤ l.length) (hf : l.length - q * room + 1 = room) : ch room (l ++ [p]) q = sr (l.drop (q * room) ++ [p]) := by
 unfold ch
 rw [List.drop_append_of_le_length h, List.take_of_length_le]
 rw [List.length_append, List.length_drop]
 simp only [List.length_cons, List.length_nil]
 omega
structure SS (w : World) (lo b room : Nat) (l : List Pr) (q : Nat) (vi vl : Value) (ps : List Part) : Prop where
 q1 : q * room ≤ l.length
 q2 : l.length < q * room + room
 h : Blk w b [.int .i64 room, vi, vl]
 i : w.ownsRow lo 49 6 vi (l.length - q * room) (pcells (l.drop (q * room)))
 d : w.ownsRow lo 22 1 vl q (ps.map pv)
 p : ps.map (·.2.2) = (List.range q).map (ch room l)
 o : ∀ x ∈ ps, OwnL lo w x.1 x.2.2 ∧ (x.1 = none → x.2.2 = [] ∧ x.2.1 = 0) ∧ x.2.2.length ≤ x.2.1
 lo : lo ≤ b
 n1 : vi.ownBlock ≠ some b
 n2 : vl.ownBlock ≠ some b
 n3 : ∀ g, vi.ownBlock = some g → vl.ownBlock ≠ some g
 n4 : ∀ x ∈ ps, ∀ g o, x.1 = some ⟨g, o, none⟩ → g ≠ b ∧ vi.ownBlock ≠ some g ∧ vl.ownBlock ≠ some g
def sO (b : Nat) (vi vl : Value) (c : Nat) : Prop := c = b ∨ vi.ownBlock = some c ∨ vl.ownBlock = some c
theorem own_lt {w : World} {base size n : Nat} {e : TypeId} {v : Value} {xs : List Value} (h : w.ownsRow base e size v n xs) {g : Nat} (hg : v.ownBlock = some g) : base ≤ g ∧ g < w.heap.size := by
 rcases h.2 with ⟨rfl, _⟩ | ⟨g', cap, cur, rfl, hb, hc, _⟩
 · cases hg
 · cases hg; exact ⟨hb, (Array.getElem?_eq_some_iff.1 hc).1⟩
theorem _root_.Go.Proofs.Ytkbhnphkopgccaa.Pr.OwnL.kp {O : Nat → Prop} {w w' : World} {B : Nat} {p : Option Addr} {l : List Pr} (h : OwnL B w p l) (k : Kp O w w') (hO : ∀ g o, p = some ⟨g, o, none⟩ → ¬ O g) : OwnL B w' p l := by
 rcases h with h | ⟨g, e, h1, h2, hh⟩
 · exact .inl h
 · exact .inr ⟨g, e, h1, Nat.lt_of_lt_of_le h2 k.size, fun j hj => ⟨(k.cell (p := ⟨g, 0 + j, none⟩) (hO g 0 e) h2).trans (hh j hj).1, (k.frozen (p := ⟨g, 0 + j, none⟩) (hO g 0 e) h2).trans (hh j hj).2⟩⟩
section
variable {w w' : World} {lo b room q : Nat} {l : List Pr} {vi vl : Value} {ps : List Part}
theorem SS.kp {O : Nat → Prop} (h : SS w lo b room l q vi vl ps) (k : Kp O w w') (hO : ∀ c, sO b vi vl c → ¬ O c) (hP : ∀ x ∈ ps, ∀ g o, x.1 = some ⟨g, o, none⟩ → ¬ O g) : SS w' lo b room l q vi vl ps :=
 ⟨h.q1, h.q2, h.h.kp k (hO b (.inl rfl)), own_kp h.i k fun g e => hO g (.inr (.inl e)), own_kp h.d k fun g e => hO g (.inr (.inr e)), h.p,
  fun x hx => ⟨(h.o x hx).1.kp k (hP x hx), (h.o x hx).2⟩, h.lo, h.n1, h.n2, h.n3, h.n4⟩
theorem SS.next (h : SS w lo b room l q vi vl ps) (k : Below w.heap.size w w') : SS w' lo b room l q vi vl ps := h.kp (Below.kp (fun _ => False) k) (fun _ _ h => h) fun _ _ _ _ _ h => h
theorem SS.old (h : SS w lo b room l q vi vl ps) : ∀ c, sO b vi vl c → lo ≤ c ∧ c < w.heap.size := fun c e => by
 rcases e with rfl | e | e
 · exact ⟨h.lo, h.h.lt⟩
 · exact own_lt h.i e
 · exact own_lt h.d e
end
set_option maxHeartbeats 1000000 in
theorem new_yes (room : Nat) (h1 : 1 ≤ room) (h2 : room ≤ 4096) (w : World) :
 Calls Try.prog 20 #[.int .i64 room] w fun e w' => e = .returned (.tuple #[.pointer (some ⟨w.heap.size, 0, none⟩), .int .i64 0]) ∧ SS w' w.heap.size w.heap.size room [] 0 (.slice none 0 0) (.slice none 0 0) [] ∧ Below w.heap.size w w' := by
 have hb := box1 w (.cells #[.int .i64 room, .slice none 0 0, .slice none 0 0] 62)
 have hs : SS (w.alloc (.cells #[.int .i64 room, .slice none 0 0, .slice none 0 0] 62)) w.heap.size w.heap.size room [] 0 (.slice none 0 0) (.slice none 0 0) [] :=
  ⟨by simp, by simp; omega, Blk.made w 62 [.int .i64 room, .slice none 0 0, .slice none 0 0] rfl, by rw [Nat.zero_mul]; exact World.ownsRow_nil _ _ _ _, World.ownsRow_nil _ _ _ _, rfl, (fun x hx => by cases hx), Nat.le_refl _, (fun h => by cases h), (fun h => by cases h), (fun _ h => by cases h), (fun x hx => by cases hx)⟩
 have HB := Lib.hid hb; have HS := Lib.hid hs
 clear hb hs
 have t1 : decide ((room : Int) < 1) = false := decide_eq_false (by omega)
 have t2 : decide ((4096 : Int) < (room : Int)) = false := decide_eq_false (by omega)
 go_enter Try.func20, Try.ntmps20
 go_wp2_with (fail)
 go_ret2
 exact ⟨rfl, HS.out, HB.out⟩
theorem count_nil (w : World) : Calls Try.prog 13 #[.pointer none] w (Gives (.int .i64 0) w) := by
 go_enter Try.func13, Try.ntmps13
 go_wp2_with (fail)
 go_ret
 exact ⟨rfl, Below.refl _ _⟩
theorem own_slice {w : World} {base size n : Nat} {e : TypeId} {v : Value} {xs : List Value} (h : w.ownsRow base e size v n xs) : ∃ A c, v = .slice A n c ∧ n ≤ c ∧ (A = none → n = 0 ∧ c = 0) := by
 rcases h.2 with ⟨rfl, rfl⟩ | ⟨g, cap, cur, rfl, _, _, hc, _⟩
 · exact ⟨none, 0, rfl, Nat.le_refl _, fun _ => ⟨rfl, rfl⟩⟩
 · exact ⟨_, cap, rfl, hc, fun h => by cases h⟩
set_option maxHeartbeats 1000000 in
theorem count_any {lo b room q : Nat} {l : List Pr} {vi vl : Value} {ps : List Part} (w : World) (h : SS w lo b room l q vi vl ps) (hl : l.length ≤ 1000000) (hr : room ≤ 4096) :
 Calls Try.prog 13 #[.pointer (some ⟨b, 0, none⟩)] w (Gives (.int .i64 l.length) w) := by
 obtain ⟨A, c, e1, _, _⟩ := own_slice h.i
 obtain ⟨A', c', e2, _, _⟩ := own_slice h.d
 subst e1; subst e2
 have c0 := h.h.c 0 _ rfl
 have c1 := h.h.c 1 _ rfl
 have c2 := h.h.c 2 _ rfl
 have h1 := h.q1
 have h2 := h.q2
 have hq : q ≤ 1000000 := by
  rcases Nat.eq_zero_or_pos room with e | e
  · subst e; simp at h2
  · have := Nat.le_mul_of_pos_right q e; omega
 obtain ⟨m, hm⟩ : ∃ m, m = q * room := ⟨_, rfl⟩
 rw [← hm] at h1 h2 c1
 have hm1 : (q : Int) * (room : Int) = (m : Int) := by rw [hm]; simp
 have HM := Lib.hid hm1
 obtain ⟨r, hr'⟩ : ∃ r, r = l.length - m := ⟨_, rfl⟩
 rw [← hr'] at c1
 have hlr : l.length = m + r := by omega
 rw [hlr]
 clear h hm hr'
 go_enter Try.func13, Try.ntmps13
 go_wp2_with (fail)
 go_quiet (fail)
 go_wp2_with (fail)
 go_ret
 exact ⟨congrArg (fun z => Ending.returned (.int .i64 z)) (show ((m : Int) + (r : Int)) = ((m + r : Nat) : Int) by omega), below_drewN (Below.refl _ _) _⟩
end Go.Proofs.Ytkbhnphkopgccaa.So
namespace Go.Proofs.Ytkbhnphkopgccaa.Pr
open Go.ChangeShapes Go.WideShapes Go.ChangeAt Go.RowKit Go.Sort Go.Shelf Go.Proofs Ov Va St
attribute [local go_sem] Oper.semAt_some
section
variable {s : List Nat} {w w' : World} {p : Option Addr} {l : List Pr}
end
theorem OwnL.lt {B : Nat} {w : World} {p : Option Addr} {l : List Pr} (h : OwnL B w p l) (b o : Nat) (e : p = some ⟨b, o, none⟩) : b < w.heap.size := by
 rcases h with ⟨_, e1⟩ | ⟨g, e1, h1, h2, hh⟩
 · rw [e] at e1; cases e1
 · rw [e] at e1
   injection e1 with e1
   injection e1 with e1
   omega
end Go.Proofs.Ytkbhnphkopgccaa.Pr
namespace Go.Proofs.Ytkbhnphkopgccaa.So
open Go.ChangeShapes Go.WideShapes Go.ChangeAt Go.RowKit Go.Sort Go.Proofs Ov Va St Pr
def JS (hb lo n : Nat) (v : Value) (sl : Nat → Value) (lt : Nat → Nat → Bool) (f : Nat → Nat) (w : World) (a' : Act) (w' : World) : Prop := ∃ (a : Nat) (g : Nat → Nat) (u3 u4 u5 u6 u7 u8 u9 u10 u11 u12 u13 u14 u15 u16 u17 u18 u19 u20 u21 u22 u23 u24 u25 u26 u27 u28 u29 u30 u31 u32 u33 u34 u35 u36 u37 u38 u39 u40 u41 u42 u43 u44 u45 u46 u47 u48 u49 u50 u51 u52 u53 u54 u55 u56 u57 u58 u59 u60 u61 u62 u63 u64 u65 u66 u67 u68 u69 u70 u71 u72 u73 u74 u1 : Value),
 (a < n ∨ a = 0) ∧ HM w' hb lo v sl g n ∧ Dn lt g n a ∧ (∀ x, In g n x ↔ In f n x) ∧ (Inj f n → Inj g n) ∧ Kp (hO hb v) w w' ∧
 a' = { tmps := #[.pointer (some ⟨hb, 0, none⟩), u1, .int .i64 a, u3, u4, u5, u6, u7, u8, u9, u10, u11, u12, u13, u14, u15, u16, u17, u18, u19, u20, u21, u22, u23, u24, u25, u26, u27, u28, u29, u30, u31, u32, u33, u34, u35, u36, u37, u38, u39, u40, u41, u42, u43, u44, u45, u46, u47, u48, u49, u50, u51, u52, u53, u54, u55, u56, u57, u58, u59, u60, u61, u62, u63, u64, u65, u66, u67, u68, u69, u70, u71, u72, u73, u74], defers := [] }
def muS (n : Nat) (a' : Act) (_ : World) : Nat := n - (intOf (a'.tmps.getD 2 undef)).toNat
def Fst (lt : Nat → Nat → Bool) (g : Nat → Nat) (n a b f1 : Nat) : Prop :=
 (f1 = a ∨ ((f1 - 1) / 2 = a ∧ 0 < f1 ∧ f1 < n)) ∧ (f1 ≠ a → lt (g a) (g f1) = false) ∧ ∀ i, 0 < i → i < n → i < b → (i - 1) / 2 = a → lt (g i) (g f1) = false
theorem fst_start (lt : Nat → Nat → Bool) (g : Nat → Nat) (n a : Nat) : Fst lt g n a (2 * a + 1) a := ⟨.inl rfl, fun h => absurd rfl h, fun i h0 _ hi hp => by omega⟩
theorem fst_keep {lt : Nat → Nat → Bool} {g : Nat → Nat} {n a b f1 : Nat} (h : Fst lt g n a b f1) (hl : lt (g b) (g f1) = false) : Fst lt g n a (b + 1) f1 :=
 ⟨h.1, h.2.1, fun i h0 hn hi hp => by
  by_cases e : i = b
  · subst e; exact hl
  · exact h.2.2 i h0 hn (by omega) hp⟩
theorem fst_turn {lt : Nat → Nat → Bool} (w : SWO lt) {g : Nat → Nat} {n a b f1 : Nat} (h : Fst lt g n a b f1) (hb : b < n) (h0 : 2 * a + 1 ≤ b) (h2 : b ≤ 2 * a + 2) (hl : lt (g b) (g f1) = true) : Fst lt g n a (b + 1) b := by
 have hasy := w.asymmA hl
 refine ⟨.inr ⟨by omega, by omega, hb⟩, fun _ => ?_, fun i i0 hn hi hp => ?_⟩
 · by_cases e : f1 = a
   · rw [e] at hasy; exact hasy
   · exact w.ntrans _ _ _ (h.2.1 e) hasy
 · by_cases e : i = b
   · subst e; exact w.irrefl _
   · exact w.ntrans _ _ _ (h.2.2 i i0 hn (by omega) hp) hasy
def SinkQ (hb lo n : Nat) (v : Value) (sl : Nat → Value) (lt : Nat → Nat → Bool) (f : Nat → Nat) (w : World) (e : Ending) (w' : World) : Prop :=
 e = .returned (.tuple #[]) ∧ ∃ g, HM w' hb lo v sl g n ∧ Hp lt g n ∧ (∀ x, In g n x ↔ In f n x) ∧ (Inj f n → Inj g n) ∧ Kp (hO hb v) w w'
set_option maxRecDepth 100000 in
set_option maxHeartbeats 4000000 in
theorem sink_any (hb lo n : Nat) (A : Option Addr) (c : Nat) (sl : Nat → Value) (f : Nat → Nat) (lt : Nat → Nat → Bool) (R : World → Prop) (Q : Nat → Prop) (w : World) (hm : HM w hb lo (.slice A n c) sl f n) (hn : n ≤ 1000000) (hp : Dn lt f n 0)
 (hR : R w) (ho : Ord lo R Q sl lt) (hQ : ∀ i, i < n → Q (f i)) (hlo : lo ≤ w.heap.size) :
 Calls Try.prog 72 #[.pointer (some ⟨hb, 0, none⟩)] w (SinkQ hb lo n (.slice A n c) sl lt f w) := by
 have HM0 := Lib.hid hm; have HP := Lib.hid hp; have HR := Lib.hid hR; have HO := Lib.hid ho; have HQ := Lib.hid hQ
 clear hm hp hR ho hQ
 go_enter Try.func72, Try.ntmps72
 go_wp2_with (fail)
 refine wp_scope_once 0 (JS hb lo n (.slice A n c) sl lt f w) (muS n) rfl (fun NX => ?_) ?_
 · go_wp2_with (fail)
   go_step3
   rename_i hK1 hK2
   exact hK2 _ _ (NX.out _ _ ⟨0, f, _, _, _, _, _, _, _, _, _, _, _, _, _, _, _, _, _, _, _, _, _, _, _, _, _, _, _, _, _, _, _, _, _, _, _, _, _, _, _, _, _, _, _, _, _, _, _, _, _, _, _, _, _, _, _, _, _, _, _, _, _, _, _, _, _, _, _, _, _, _, _, _, _, .inr rfl, HM0.out, HP.out, fun _ => Iff.rfl, fun h => h, Kp.refl _ _, rfl⟩)
 · rintro a' w' ⟨a, g, u3, u4, u5, u6, u7, u8, u9, u10, u11, u12, u13, u14, u15, u16, u17, u18, u19, u20, u21, u22, u23, u24, u25, u26, u27, u28, u29, u30, u31, u32, u33, u34, u35, u36, u37, u38, u39, u40, u41, u42, u43, u44, u45, u46, u47, u48, u49, u50, u51, u52, u53, u54, u55, u56, u57, u58, u59, u60, u61, u62, u63, u64, u65, u66, u67, u68, u69, u70, u71, u72, u73, u74, u1, ha, hm, hu, hin, hinj, hk, rfl⟩
   have HM' := Lib.hid hm; have HU := Lib.hid hu; have HIN := Lib.hid hin; have HINJ := Lib.hid hinj; have HK := Lib.hid hk
   clear hm hu hin hinj hk
   have HMU : Hid (muS n { tmps := #[.pointer (some ⟨hb, 0, none⟩), u1, .int .i64 a, u3, u4, u5, u6, u7, u8, u9, u10, u11, u12, u13, u14, u15, u16, u17, u18, u19, u20, u21, u22, u23, u24, u25, u26, u27, u28, u29, u30, u31, u32, u33, u34, u35, u36, u37, u38, u39, u40, u41, u42, u43, u44, u45, u46, u47, u48, u49, u50, u51, u52, u53, u54, u55, u56, u57, u58, u59, u60, u61, u62, u63, u64, u65, u66, u67, u68, u69, u70, u71, u72, u73, u74], defers := [] } w' = n - a) := by
    show muS _ _ _ = _
    rfl
   have HR' := Lib.hid (HO.out.keep _ _ HR.out (HK.out.below HM0.out.low hlo))
   have HLO' := Lib.hid (Nat.le_trans hlo HK.out.size)
   have ha1 : a ≤ 1000000 := by omega
   have HQG : Hid (∀ i, i < n → Q (g i)) := fun i hi => by
    obtain ⟨j, hj, e⟩ := (HIN.out (g i)).1 ⟨i, hi, rfl⟩
    rw [← e]; exact HQ.out j hj
   go_wp2_with (fail)
   go_loopg [3, 4] (2 * a + 3) (fun kx s3 s4 wr => ∃ (f1 b : Nat), 2 * a + 1 ≤ b ∧ b ≤ 2 * a + 3 ∧ 2 * a + 3 - b ≤ kx ∧ s3 = .int .i64 f1 ∧ s4 = .int .i64 b ∧ (f1 < n ∨ f1 = 0) ∧ Hid (Fst lt g n a b f1) ∧ Hid (Below w'.heap.size w' wr))
   case atStart => exact ⟨a, 2 * a + 1, Nat.le_refl _, by omega, by omega, rfl, by go_num, ha, fst_start lt g n a, Below.refl _ _⟩
   case round =>
    obtain ⟨f1, b, hb1, hb2, hkx, rfl, rfl, hf1, HF, HB⟩ := hrel
    have hm := HM'.out.next HB.out
    have c0 := hm.h.c 0 _ rfl
    by_cases hin : b ≤ 2 * a + 2 ∧ b < n
    · obtain ⟨hb3, hbn⟩ := hin
      have hb3z : (b : Int) ≤ 2 * (a : Int) + 2 := by omega
      have hbnz : (b : Int) < (n : Int) := by omega
      have hfn : f1 < n := by omega
      have hfnz : (f1 : Int) < (n : Int) := by omega
      obtain ⟨gb, c', e, _, _, _⟩ := hm.shape (by omega)
      injection e with e1 e2 e3
      subst e1; subst e3
      have a0 := fun q : Over wr => over_cell q c0
      have a1 := fun q : Over wr => over_cell q (hm.h.c 1 _ rfl)
      have b0 := fun q : Over wr => over_cell q (hm.cells hbn).1
      have b1 := fun q : Over wr => over_cell q (hm.cells hbn).2.1
      have d0 := fun q : Over wr => over_cell q (hm.cells hfn).1
      have d1 := fun q : Over wr => over_cell q (hm.cells hfn).2.1
      have HC := Lib.hid (fun q : Over wr => HO.out.call (g b) (g f1) q.val (HQG.out b hbn) (HQG.out f1 hfn) (HO.out.keep _ _ HR'.out (((Below.next HB.out q.property)).mono HLO'.out)))
      clear hm
      cases hlt : lt (g b) (g f1) with
      | false =>
        rw [hlt] at HC
        have HL := Lib.hid hlt; clear hlt
        go_upto_region 5 with fail
        refine wp_over (by kernel_rfl) (by kernel_rfl) ?_
        repeat (go_big_quiet_step (first | fail | with_reducible exact over_gives _ (HC.out _)))
        refine wpQuiet_nil ?_
        rintro w2 ⟨⟨w2, hb2⟩, rfl⟩
        have HB2 := Lib.hid (Below.next HB.out hb2)
        clear a0 a1 b0 b1 d0 d1 hb2 c0 HC HB
        go_wp2_with (fail)
        go_roundg (2 * a + 3 - (b + 1))
        case measure => omega
        case rel => exact ⟨f1, b + 1, by omega, by omega, Nat.le_refl _, rfl, by go_num, hf1, fst_keep HF.out HL.out, HB2⟩
      | true =>
        rw [hlt] at HC
        have HL := Lib.hid hlt; clear hlt
        go_upto_region 5 with fail
        refine wp_over (by kernel_rfl) (by kernel_rfl) ?_
        repeat (go_big_quiet_step (first | fail | with_reducible exact over_gives _ (HC.out _)))
        refine wpQuiet_nil ?_
        rintro w2 ⟨⟨w2, hb2⟩, rfl⟩
        have HB2 := Lib.hid (Below.next HB.out hb2)
        clear a0 a1 b0 b1 d0 d1 hb2 c0 HC HB
        go_wp2_with (fail)
        go_roundg (2 * a + 3 - (b + 1))
        case measure => omega
        case rel => exact ⟨b, b + 1, by omega, by omega, Nat.le_refl _, rfl, by go_num, .inl hbn, fst_turn HO.out.swo HF.out hbn hb1 hb3 HL.out, HB2⟩
    · have HALL : Hid (∀ i, 0 < i → i < n → (i - 1) / 2 = a → lt (g i) (g f1) = false) := fun i i0 hi hp => HF.out.2.2 i i0 hi (by omega) hp
      have HK2 := Lib.hid (HK.out.next HB.out)
      have HM2 := Lib.hid hm
      clear hm
      by_cases hb3 : b ≤ 2 * a + 2
      case' pos =>
       have hbnz : ¬ (b : Int) < (n : Int) := by omega
       have hb3z : (b : Int) ≤ 2 * (a : Int) + 2 := by omega
      case' neg =>
       have hb3z : ¬ (b : Int) ≤ 2 * (a : Int) + 2 := by omega
      all_goals
       clear hin hb3 hkx
       by_cases hfa : f1 = a
       · subst hfa
         have hbne : ((f1 : Int) != (f1 : Int)) = false := by simp
         go_wp2_with (fail)
         simp only [Exit.jump]
         go_end0
         exact ⟨rfl, g, HM2.out, dn_done HU.out HALL.out, HIN.out, HINJ.out, HK2.out⟩
       · have hbne : ((f1 : Int) != (a : Int)) = true := by simp; omega
         have hF := HF.out.1
         have hpar : (f1 - 1) / 2 = a ∧ 0 < f1 ∧ f1 < n := by
          rcases hF with h | h
          · exact absurd h hfa
          · exact h
         have hfn := hpar.2.2
         have han : a < n := by omega
         have haf : a < f1 := by omega
         have HDN := Lib.hid (dn_step HU.out hfn hpar.1 hpar.2.1 (HF.out.2.1 hfa) HALL.out)
         clear hF hpar hfa
         go_upto_region 8 with fail
         have hm2 := HM2.out
         obtain ⟨gb, c', e, hgb, _, _⟩ := hm2.shape (by omega)
         injection e with e1 e2 e3
         subst e1; subst e3
         have HSW := Lib.hid (hm2.sw han hfn)
         have c0 := hm2.h.c 0 _ rfl
         obtain ⟨b0, b1, b2, b3⟩ := hm2.cells han
         obtain ⟨d0, d1, d2, d3⟩ := hm2.cells hfn
         have e1 : ¬ a * 2 = f1 * 2 := by omega
         have e2 : ¬ a * 2 = f1 * 2 + 1 := by omega
         have e3 : ¬ a * 2 + 1 = f1 * 2 := by omega
         have e4 : ¬ a * 2 + 1 = f1 * 2 + 1 := by omega
         have e5 : ¬ f1 * 2 = a * 2 := by omega
         have e6 : ¬ f1 * 2 = a * 2 + 1 := by omega
         have e7 : ¬ f1 * 2 + 1 = a * 2 := by omega
         have e8 : ¬ f1 * 2 + 1 = a * 2 + 1 := by omega
         clear hm2
         have HKK := Lib.hid fun (W : World) (x0 x1 x2 x3 : Value) => ((((((Kp.refl (hO hb (.slice (some ⟨gb, 0, none⟩) n c)) W).setCell (b := gb) (.inr rfl) (a * 2) x0).setCell (b := gb) (.inr rfl) (a * 2 + 1) x1).setCell (b := gb) (.inr rfl) (f1 * 2) x2).setCell (b := gb) (.inr rfl) (f1 * 2 + 1) x3).drewN 1)
         obtain ⟨A1, n1, c1, hs1⟩ := HO.out.one (g a)
         obtain ⟨A2, n2, c2, hs2⟩ := HO.out.one (g f1)
         rw [hs1] at b1
         rw [hs2] at d1
         rw [hs1, hs2] at HSW
         clear hs1 hs2
         have hfz : (f1 : Int) < (n : Int) := by omega
         have haz : (a : Int) < (n : Int) := by omega
         go_region
         have HS2 := Lib.hid (HSW.out.next (below_drewN (Below.refl _ _) 1))
         have HK3 := Lib.hid (HK2.out.trans (HKK.out wr (.int .i64 (g f1)) (.slice A2 n2 c2) (.int .i64 (g a)) (.slice A1 n1 c1)) fun b e => .inl e)
         clear b0 b1 b2 b3 d0 d1 d2 d3 c0 HKK HSW HK2
         generalize ((((wr.setCell ⟨gb, a * 2, none⟩ (.int .i64 (g f1))).setCell ⟨gb, a * 2 + 1, none⟩ (.slice A2 n2 c2)).setCell ⟨gb, f1 * 2, none⟩ (.int .i64 (g a))).setCell ⟨gb, f1 * 2 + 1, none⟩ (.slice A1 n1 c1)) = w3 at *
         go_wp2_with (fail)
         go_step3
         refine ⟨rfl, ⟨f1, sw g a f1, _, _, _, _, _, _, _, _, _, _, _, _, _, _, _, _, _, _, _, _, _, _, _, _, _, _, _, _, _, _, _, _, _, _, _, _, _, _, _, _, _, _, _, _, _, _, _, _, _, _, _, _, _, _, _, _, _, _, _, _, _, _, _, _, _, _, _, _, _, _, _, _, _, .inl hfn, HS2.out, HDN.out, fun x => (sw_in han hfn x).trans (HIN.out x), fun h1 => sw_inj han hfn (HINJ.out h1), HK3.out, rfl⟩, ?_⟩
         refine Nat.lt_of_lt_of_eq ?_ HMU.out.symm
         show muS n _ _ < n - a
         unfold muS
         simp [intOf]
         omega
def qd (qs : List Part) (i : Nat) : Part := qs[i]?.getD default
def LlN (w : World) (A : Option Addr) (qs : List Part) : Prop :=
 ∀ i, i < qs.length → ∃ B O, A = some ⟨B, O, none⟩ ∧ w.cell? ⟨B, O + i, none⟩ = some (pv (qd qs i)) ∧ PIn w (qd qs i)
theorem LlN.next {w w' : World} {A : Option Addr} {qs : List Part} (h : LlN w A qs) (k : Below w.heap.size w w') : LlN w' A qs := fun i hi => by
 obtain ⟨B, O, e, hc, hp⟩ := h i hi
 exact ⟨B, O, e, (k.cell (block_lt_of_cell hc)).trans hc, hp.next k⟩
def rsOf (qs : List Part) : List (List Pr) := qs.map (·.2.2)
theorem rsOf_len (qs : List Part) : (rsOf qs).length = qs.length := by simp [rsOf]
theorem rn_qs (qs : List Part) (r : Nat) : rn (rsOf qs) r = (qd qs r).2.2 := by
 unfold rn rsOf qd
 rw [List.getElem?_map]
 cases qs[r]? <;> rfl
def sl (qs : List Part) (d : Nat → Nat) (r : Nat) : Value :=
 match (qd qs r).1 with
 | some ⟨B, O, none⟩ => .slice (some ⟨B, O + d r * 6, none⟩) ((qd qs r).2.2.length - d r) ((qd qs r).2.1 - d r)
 | _ => .slice none ((qd qs r).2.2.length - d r) ((qd qs r).2.1 - d r)
theorem sl_shape (qs : List Part) (d : Nat → Nat) (r : Nat) : ∃ A n c, sl qs d r = .slice A n c := by
 unfold sl
 split
 · exact ⟨_, _, _, rfl⟩
 · exact ⟨_, _, _, rfl⟩
def RL (W : World) (qs : List Part) (X : World) : Prop := ∀ r, r < qs.length → ∀ i j v, i < (qd qs r).2.2.length → (pcl (pd (qd qs r).2.2 i))[j]? = some v → ∃ B O, (qd qs r).1 = some ⟨B, O, none⟩ ∧ B < W.heap.size ∧ X.cell? ⟨B, O + i * 6 + j, none⟩ = some v
theorem RL.keep {W : World} {qs : List Part} {X Y : World} (h : RL W qs X) (k : Below W.heap.size X Y) : RL W qs Y := fun r hr i j v hi hv => by
 obtain ⟨B, O, e, hb, hc⟩ := h r hr i j v hi hv
 exact ⟨B, O, e, hb, (k.cell (p := ⟨B, O + i * 6 + j, none⟩) hb).trans hc⟩
theorem RL.of {W X : World} {A : Option Addr} {qs : List Part} (h0 : LlN W A qs) (h : LlN X A qs) : RL W qs X := fun r hr i j v hi hv => by
 obtain ⟨_, _, _, _, hp0⟩ := h0 r hr
 obtain ⟨_, _, _, _, hp⟩ := h r hr
 obtain ⟨B, O, e, hc⟩ := hp.1 (by omega)
 obtain ⟨B', O', e', hc'⟩ := hp0.1 (by omega)
 rw [e] at e'
 simp only [Option.some.injEq, Addr.mk.injEq, and_true] at e'
 obtain ⟨rfl, rfl⟩ := e'
 exact ⟨B, O, e, block_lt_of_cell (hc' i j v hi hv), hc i j v hi hv⟩
def Ok (qs : List Part) (d : Nat → Nat) (r : Nat) : Prop := r < qs.length ∧ d r < (qd qs r).2.2.length
theorem hd_qs (qs : List Part) (d : Nat → Nat) (r : Nat) : hd (rsOf qs) d r = pd (qd qs r).2.2 (d r) := by
 unfold hd pd; rw [rn_qs]
theorem sl_of {qs : List Part} {d : Nat → Nat} {r B O : Nat} (e : (qd qs r).1 = some ⟨B, O, none⟩) : sl qs d r = .slice (some ⟨B, O + d r * 6, none⟩) ((qd qs r).2.2.length - d r) ((qd qs r).2.1 - d r) := by
 unfold sl; rw [e]
theorem ord_runs (W : World) (qs : List Part) (d : Nat → Nat) : Ord W.heap.size (RL W qs) (Ok qs d) (sl qs d) (ah (rsOf qs) d) where
 swo := ah_swo _ _
 one := sl_shape qs d
 keep := fun X Y h k => h.keep k
 call := fun a b X ha hb hR => by
  obtain ⟨B, O, e, _, hc⟩ := hR a ha.1 (d a) 0 _ ha.2 rfl
  obtain ⟨B', O', e', _, hc'⟩ := hR b hb.1 (d b) 0 _ hb.2 rfl
  rw [sl_of e, sl_of e']
  have := ahead_any a b B (O + d a * 6) ((qd qs a).2.2.length - d a) ((qd qs a).2.1 - d a) B' (O' + d b * 6) ((qd qs b).2.2.length - d b) ((qd qs b).2.1 - d b) (pd (qd qs a).2.2 (d a)) (pd (qd qs b).2.2 (d b)) X hc hc' (by have := ha.2; omega) (by have := hb.2; omega)
  rw [← hd_qs, ← hd_qs] at this
  exact this
structure MM (qs : List Part) (d : Nat → Nat) (f : Nat → Nat) (n : Nat) (pre : List Pr) : Prop where
 hp : Hp (ah (rsOf qs) d) f n
 inj : Inj f n
 mem : ∀ r, In f n r ↔ Ok qs d r
 out : sr (rsOf qs).flatten = pre ++ sr (lft (rsOf qs) d qs.length)
theorem MM.ok {qs : List Part} {d f : Nat → Nat} {n : Nat} {pre : List Pr} (h : MM qs d f n pre) : ∀ i, i < n → Ok qs d (f i) := fun i hi => (h.mem _).1 ⟨i, hi, rfl⟩
theorem MM.next {qs : List Part} {d f : Nat → Nat} {n : Nat} {pre : List Pr} (h : MM qs d f (n + 1) pre) (ho : ∀ r, r < qs.length → Od (qd qs r).2.2) :
 sr (rsOf qs).flatten = (pre ++ [hd (rsOf qs) d (f 0)]) ++ sr (lft (rsOf qs) (nx d (f 0)) qs.length) := by
 have h0 := h.ok 0 (Nat.succ_pos n)
 have := next_sr (rs := rsOf qs) (d := d) (r0 := f 0) (fun r hr => by rw [rn_qs]; exact ho r (by rwa [rsOf_len] at hr)) (by rw [rsOf_len]; exact h0.1) (by rw [rn_qs]; exact h0.2)
  fun r hr hd' => by
   rw [rsOf_len] at hr; rw [rn_qs] at hd'
   obtain ⟨i, hi, e⟩ := (h.mem r).2 ⟨hr, hd'⟩
   rw [← e]
   exact hp_least (ah_swo _ _) h.hp i hi
 rw [rsOf_len] at this
 rw [h.out, this]
 simp
theorem MM.done {qs : List Part} {d f : Nat → Nat} {pre : List Pr} (h : MM qs d f 0 pre) : pre = sr (rsOf qs).flatten := by
 have e : lft (rsOf qs) d qs.length = [] := lft_none _ fun r hr => by
  rw [rn_qs]
  refine Nat.le_of_not_lt fun hl => ?_
  obtain ⟨i, hi, _⟩ := (h.mem r).2 ⟨hr, hl⟩
  exact absurd hi (Nat.not_lt_zero _)
 rw [h.out, e]
 simp [sr]
theorem MM.step {qs : List Part} {d f g g' : Nat → Nat} {n m : Nat} {pre : List Pr} (h : MM qs d f (n + 1) pre) (ho : ∀ r, r < qs.length → Od (qd qs r).2.2)
 (hg : ∀ x, In g n x ↔ In f (n + 1) x ∧ x ≠ f 0)
 (hcase : ((qd qs (f 0)).2.2.length ≤ d (f 0) + 1 ∧ m = n ∧ g' = g ∧ Hp (ah (rsOf qs) d) g n ∧ Inj g n) ∨
   (d (f 0) + 1 < (qd qs (f 0)).2.2.length ∧ m = n + 1 ∧ Hp (ah (rsOf qs) (nx d (f 0))) g' (n + 1) ∧ (∀ x, In g' (n + 1) x ↔ In g n x ∨ x = f 0) ∧ Inj g' (n + 1))) :
 MM qs (nx d (f 0)) g' m (pre ++ [hd (rsOf qs) d (f 0)]) := by
 have hne : ∀ r, r ≠ f 0 → nx d (f 0) r = d r := fun r hr => by unfold nx; rw [if_neg hr]
 have heq : nx d (f 0) (f 0) = d (f 0) + 1 := by unfold nx; rw [if_pos rfl]
 have h0 := h.ok 0 (Nat.succ_pos n)
 have hmem : ∀ r, In g n r ↔ (Ok qs d r ∧ r ≠ f 0) := fun r => by rw [hg r, h.mem r]
 rcases hcase with ⟨hl, rfl, rfl, hp, hi⟩ | ⟨hl, rfl, hp, hin, hi⟩
 · refine ⟨hp_congr hp fun i j hi hj => ah_nx _ _ _ _ _ ((hmem _).1 ⟨i, hi, rfl⟩).2 ((hmem _).1 ⟨j, hj, rfl⟩).2, hi, fun r => ?_, h.next ho⟩
   rw [hmem]
   unfold Ok
   by_cases e : r = f 0
   · subst e; rw [heq]; constructor
     · rintro ⟨_, h⟩; exact absurd rfl h
     · rintro ⟨_, h⟩; omega
   · rw [hne r e]; exact ⟨fun h => h.1, fun h => ⟨h, e⟩⟩
 · refine ⟨hp, hi, fun r => ?_, h.next ho⟩
   rw [hin, hmem]
   unfold Ok
   by_cases e : r = f 0
   · subst e; rw [heq]; exact ⟨fun _ => ⟨h0.1, hl⟩, fun _ => .inr rfl⟩
   · rw [hne r e]
     exact ⟨fun h => h.elim (fun h => h.1) (fun h => absurd h e), fun h => .inl ⟨h, e⟩⟩
structure M0 (qs : List Part) (f : Nat → Nat) (n i : Nat) : Prop where
 hp : Hp (ah (rsOf qs) fun _ => 0) f n
 inj : Inj f n
 mem : ∀ r, In f n r ↔ r < i ∧ 0 < (qd qs r).2.2.length
theorem M0.start (qs : List Part) (f : Nat → Nat) : M0 qs f 0 0 :=
 ⟨fun _ _ hi => absurd hi (Nat.not_lt_zero _), fun _ _ hi => absurd hi (Nat.not_lt_zero _), fun _ => ⟨fun ⟨_, hi, _⟩ => absurd hi (Nat.not_lt_zero _), fun h => absurd h.1 (Nat.not_lt_zero _)⟩⟩
theorem M0.skip {qs : List Part} {f : Nat → Nat} {n i : Nat} (h : M0 qs f n i) (hl : ¬ 0 < (qd qs i).2.2.length) : M0 qs f n (i + 1) :=
 ⟨h.hp, h.inj, fun r => (h.mem r).trans ⟨fun ⟨a, b⟩ => ⟨by omega, b⟩, fun ⟨a, b⟩ => ⟨by
  rcases Nat.lt_succ_iff_lt_or_eq.1 a with h | h
  · exact h
  · subst h; exact absurd b hl, b⟩⟩⟩
theorem M0.more {qs : List Part} {f g : Nat → Nat} {n i : Nat} (h : M0 qs f n i) (hl : 0 < (qd qs i).2.2.length) (hp : Hp (ah (rsOf qs) fun _ => 0) g (n + 1)) (hin : ∀ x, In g (n + 1) x ↔ In f n x ∨ x = i) (hi : Inj g (n + 1)) : M0 qs g (n + 1) (i + 1) :=
 ⟨hp, hi, fun r => by
  rw [hin, h.mem]
  exact ⟨fun h => h.elim (fun h => ⟨by omega, h.2⟩) (fun h => by subst h; exact ⟨Nat.lt_succ_self _, hl⟩), fun ⟨a, b⟩ => by
   rcases Nat.lt_succ_iff_lt_or_eq.1 a with h | h
   · exact .inl ⟨h, b⟩
   · exact .inr h⟩⟩
theorem M0.full {qs : List Part} {f : Nat → Nat} {n : Nat} (h : M0 qs f n qs.length) : MM qs (fun _ => 0) f n [] :=
 ⟨h.hp, h.inj, h.mem, by rw [List.nil_append, ← rsOf_len, lft_all]⟩
theorem HM.same {w w' : World} {hb lo n : Nat} {v : Value} {s : Nat → Value} {f : Nat → Nat} (h : HM w hb lo v s f n) (k : ∀ b, hO hb v b → b < w.heap.size → w'.heap[b]? = w.heap[b]?) : HM w' hb lo v s f n := by
 have hh := k hb (.inl rfl) h.h.lt
 have hlt : hb < w'.heap.size := by
  have : w.heap[hb]? = some (w.heap[hb]'h.h.lt) := Array.getElem?_eq_getElem h.h.lt
  rw [this] at hh
  exact (Array.getElem?_eq_some_iff.1 hh).1
 refine ⟨⟨fun i v e => (World.cell?_of_block (a := ⟨hb, i, none⟩) hh).trans (h.h.c i v e), fun i v e => (World.frozen?_of_block (a := ⟨hb, i, none⟩) hh).trans (h.h.f i v e), hlt⟩, ⟨h.o.1, ?_⟩, h.lo, h.ne⟩
 rcases h.o.2 with e | ⟨g, cap, cur, rfl, hg, hc, rest⟩
 · exact .inl e
 · exact .inr ⟨g, cap, cur, rfl, hg, (k g (.inr rfl) (Array.getElem?_eq_some_iff.1 hc).1).trans hc, rest⟩
theorem HM.resl {w : World} {hb lo n : Nat} {v : Value} {s s' : Nat → Value} {f : Nat → Nat} (h : HM w hb lo v s f n) (k : ∀ i, i < n → s (f i) = s' (f i)) : HM w hb lo v s' f n :=
 ⟨h.h, by rw [← ics_sl k]; exact h.o, h.lo, h.ne⟩
end Go.Proofs.Ytkbhnphkopgccaa.So
namespace Go.Proofs.Ytkbhnphkopgccaa.So
open Go.ChangeShapes Go.WideShapes Go.ChangeAt Go.RowKit Go.Sort Go.Shelf Go.Proofs Ov Va St Pr
theorem pcells_zero (n : Nat) : (madeCells (Value.agg (pcl pz).toArray).cells (n * 6)).toList = pcells (List.replicate n pz) := by
 apply List.ext_getElem?
 intro t
 by_cases ht : t < n * 6
 · have e : t = t / 6 * 6 + t % 6 := by omega
   have hm : t % 6 < 6 := Nat.mod_lt _ (by omega)
   have hl : (pcells (List.replicate n pz))[t]? = (pcl pz)[t % 6]? := by
    conv => lhs; rw [e]
    rw [pcells_at _ _ _ (by rw [List.length_replicate]; omega) hm]
    unfold pd
    rw [List.getElem?_replicate, if_pos (by omega)]; rfl
   rw [hl]
   have hz : (Value.agg (pcl pz).toArray).cells = (pcl pz).toArray := rfl
   rw [hz, Array.getElem?_toList]
   unfold madeCells
   rw [Array.getElem?_map, Array.getElem?_range, if_pos ht]
   show some ((pcl pz).toArray[t % 6]!) = _
   have h2 : t % 6 < (pcl pz).length := hm
   rw [List.getElem?_eq_getElem h2]
   simp [h2]
 · rw [List.getElem?_eq_none (by rw [Array.length_toList, size_madeCells]; omega), List.getElem?_eq_none (by rw [pcells_len, List.length_replicate]; omega)]
theorem prs_own' {w : World} {B g c n : Nat} {l : List Pr} (h : w.ownsRow B 49 6 (.slice (some ⟨g, 0, none⟩) n c) n (pcells l)) (hn : n = l.length) : ∀ i j v, i < l.length → (pcl (pd l i))[j]? = some v → w.cell? ⟨g, i * 6 + j, none⟩ = some v := fun i j v hi hv => by
 subst hn
 have hj : j < 6 := (List.getElem?_eq_some_iff.1 hv).1
 rw [h.cellAt _ (by omega), pcells_at l i j hi hj, hv]
def mp (m : List Pr) (i : Nat) : List Pr := m.take i ++ List.replicate (m.length - i) pz
theorem mp_len (m : List Pr) (i : Nat) (h : i ≤ m.length) : (mp m i).length = m.length := by
 unfold mp; rw [List.length_append, List.length_take, List.length_replicate]; omega
theorem mp_step (m : List Pr) (i : Nat) (h : i < m.length) : (mp m i).set i (pd m i) = mp m (i + 1) := by
 unfold mp
 have e : (m.take i).length = i := by rw [List.length_take]; omega
 rw [List.set_append_right _ _ (by omega), e, Nat.sub_self, show m.length - i = (m.length - (i + 1)) + 1 by omega, List.replicate_succ, List.set_cons_zero, List.take_succ_eq_append_getElem h, List.append_assoc, pd_at h]
 rfl
set_option maxRecDepth 100000 in
set_option maxHeartbeats 2000000 in
theorem ownPairs_any (A : Option Addr) (c : Nat) (m : List Pr) (w : World) (h : Prs w A m) (hl : m.length ≤ 100000) (hX : Tx m) :
 Calls Try.prog 32 #[.slice A m.length c] w fun e w' => e = .returned (.slice (some ⟨w.heap.size, 0, none⟩) m.length m.length) ∧ OwnL w.heap.size w' (some ⟨w.heap.size, 0, none⟩) m ∧ Below w.heap.size w w' := by
 have HN := Lib.hid h; have HX := Lib.hid hX
 clear h hX
 obtain ⟨iV, hi0, hi1, hi2, hi3⟩ := info_parts infoP
 obtain ⟨w1, hmk, hown, hgr⟩ := run_make_full (P := Try.prog) w w.heap.size 22 49 iV (.agg (pcl pz).toArray) 6 Try.underlying22 hi0 hi1 hi2 .i64 .i64 m.length (by rw [hi3]; omega) (by unfold maxLen; omega) (Nat.le_refl _)
 rw [pcells_zero] at hown
 have HO : Hid (w1.ownsRow w.heap.size 49 6 (.slice (some ⟨w.heap.size, 0, none⟩) m.length m.length) m.length (pcells (mp m 0))) := by unfold mp; exact hown
 have HB := Lib.hid ((Below.refl w.heap.size w).grown hgr (Nat.le_refl _) (by simp))
 clear hi0 hi1 hi2 hi3 hown hgr
 go_enter Try.func32, Try.ntmps32
 go_wp2_with (fail)
 clear hmk
 go_loopg [11] m.length (fun kx s11 wr => ∃ i : Nat, i ≤ m.length ∧ m.length - i ≤ kx ∧ s11 = .int .i64 i ∧ Hid (wr.ownsRow w.heap.size 49 6 (.slice (some ⟨w.heap.size, 0, none⟩) m.length m.length) m.length (pcells (mp m i))) ∧ Hid (Below w.heap.size w wr))
 case atStart => exact ⟨0, Nat.zero_le _, by omega, rfl, HO, HB⟩
 case round =>
  clear HO HB
  obtain ⟨i, hi, hkx, rfl, HO, HB⟩ := hrel
  by_cases hlt : i < m.length
  · have hltz : (i : Int) < (m.length : Int) := by omega
    obtain ⟨B, O, rfl⟩ := HN.out.shape (by omega)
    have hN : Prs wr (some ⟨B, O, none⟩) m := HN.out.next HB.out
    have k0 := hN.cell (i := i) hlt 0 _ rfl
    have k1 := hN.cell (i := i) hlt 1 _ rfl
    have k2 := hN.cell (i := i) hlt 2 _ rfl
    have k3 := hN.cell (i := i) hlt 3 _ rfl
    have k4 := hN.cell (i := i) hlt 4 _ rfl
    have k5 := hN.cell (i := i) hlt 5 _ rfl
    rw [Nat.add_zero] at k0
    have HT := Lib.hid (HX.out _ (pd_mem hlt))
    have HS := Lib.hid (mp_step m i hlt)
    have HL := Lib.hid (mp_len m i hi)
    clear hN
    generalize pd m i = p at *
    obtain ⟨pk, ⟨vk, vn, vs, vx, vy⟩⟩ := p
    dsimp only at k0 k1 k2 k3 k4 k5 HT HS
    go_upto_region 5 with fail
    have HP := Lib.hid (box6 wr 49 (.string (tx pk)) (.int .i64 vk) (.int .i64 vn) (.string (tx vs)) (.int .i64 vx) (.int .i64 vy))
    have HB1 := Lib.hid (below_obj HB.out (.cells #[.string (tx pk), .int .i64 vk, .int .i64 vn, .string (tx vs), .int .i64 vx, .int .i64 vy] 49))
    have HO1 := Lib.hid (HO.out.alloc (.cells #[.string (tx pk), .int .i64 vk, .int .i64 vn, .string (tx vs), .int .i64 vx, .int .i64 vy] 49))
    clear k0 k1 k2 k3 k4 k5 HO HB
    generalize wr.alloc (.cells #[.string (tx pk), .int .i64 vk, .int .i64 vn, .string (tx vs), .int .i64 vx, .int .i64 vy] 49) = w2 at *
    have p0 := HP.out.c 0 _ rfl
    have p1 := HP.out.c 1 _ rfl
    have p2 := HP.out.c 2 _ rfl
    have p3 := HP.out.c 3 _ rfl
    have p4 := HP.out.c 4 _ rfl
    have p5 := HP.out.c 5 _ rfl
    clear HP
    have hov := ownPair_any (pk, ⟨vk, vn, vs, vx, vy⟩) w2 HT.out.1 HT.out.2
    unfold pcl at hov
    dsimp only at hov
    go_wp2_with (fail)
    refine hov.mono ?_
    rintro e w3 ⟨rfl, hb⟩
    have HB3 := Lib.hid (Below.next HB1.out hb)
    have HO3 := Lib.hid (own_keep HO1.out hb)
    clear hov hb p0 p1 p2 p3 p4 p5 HB1 HO1
    have hV := prs_own' HO3.out HL.out.symm
    have hlm := HL.out
    rw [← hlm] at hlt
    obtain ⟨u0, d0, f0⟩ : ∃ u, w3.cell? ⟨w.heap.size, i * 6, none⟩ = some u ∧ w3.frozen? ⟨w.heap.size, i * 6, none⟩ = false := ⟨_, by have := hV i 0 _ (by omega) rfl; rwa [Nat.add_zero] at this, HO3.out.frozenAt _⟩
    obtain ⟨u1, d1, f1⟩ : ∃ u, w3.cell? ⟨w.heap.size, i * 6 + 1, none⟩ = some u ∧ w3.frozen? ⟨w.heap.size, i * 6 + 1, none⟩ = false := ⟨_, hV i 1 _ (by omega) rfl, HO3.out.frozenAt _⟩
    obtain ⟨u2, d2, f2⟩ : ∃ u, w3.cell? ⟨w.heap.size, i * 6 + 2, none⟩ = some u ∧ w3.frozen? ⟨w.heap.size, i * 6 + 2, none⟩ = false := ⟨_, hV i 2 _ (by omega) rfl, HO3.out.frozenAt _⟩
    obtain ⟨u3, d3, f3⟩ : ∃ u, w3.cell? ⟨w.heap.size, i * 6 + 3, none⟩ = some u ∧ w3.frozen? ⟨w.heap.size, i * 6 + 3, none⟩ = false := ⟨_, hV i 3 _ (by omega) rfl, HO3.out.frozenAt _⟩
    obtain ⟨u4, d4, f4⟩ : ∃ u, w3.cell? ⟨w.heap.size, i * 6 + 4, none⟩ = some u ∧ w3.frozen? ⟨w.heap.size, i * 6 + 4, none⟩ = false := ⟨_, hV i 4 _ (by omega) rfl, HO3.out.frozenAt _⟩
    obtain ⟨u5, d5, f5⟩ : ∃ u, w3.cell? ⟨w.heap.size, i * 6 + 5, none⟩ = some u ∧ w3.frozen? ⟨w.heap.size, i * 6 + 5, none⟩ = false := ⟨_, hV i 5 _ (by omega) rfl, HO3.out.frozenAt _⟩
    rw [hlm] at hlt
    clear hV hlm
    go_wp2_with (fail)
    go_roundg (m.length - (i + 1))
    case measure => omega
    case rel => exact ⟨i + 1, by omega, Nat.le_refl _, by go_num, own_set6s HO3.out HB3.out (Nat.le_refl _) i (by rw [HL.out]; exact hlt) rfl (pk, ⟨vk, vn, vs, vx, vy⟩) HS.out⟩
  · obtain rfl : i = m.length := by omega
    have hltz : ¬ (m.length : Int) < (m.length : Int) := by omega
    go_wp2_with (fail)
    go_ret
    refine ⟨rfl, ?_, HB.out⟩
    have e : mp m m.length = m := by unfold mp; rw [List.take_length, Nat.sub_self]; simp
    have ho := HO.out
    rw [e] at ho
    have := holds_of_own ho rfl
    exact .inr ⟨w.heap.size, rfl, this.1, this.2.1, this.2.2⟩
end Go.Proofs.Ytkbhnphkopgccaa.So
namespace Go.Proofs.Ytkbhnphkopgccaa.So
open Go.ChangeShapes Go.WideShapes Go.ChangeAt Go.RowKit Go.Sort Go.Proofs Ov Va St Pr
theorem _root_.Go.Proofs.Ytkbhnphkopgccaa.Ov.Kp.setCell0 {O : Nat → Prop} {w w' : World} (h : Kp O w w') {b : Nat} (hb : w.heap.size ≤ b) (j : Nat) (v : Value) : Kp O w (w'.setCell ⟨b, j, none⟩ v) :=
 h.trans (O' := fun k => k = b) ⟨rfl, rfl, rfl, by simp [World.setCell], fun k _ hk => Below.heap_setCell _ _ _ _ hk⟩ fun k e => .inr (by subst e; exact hb)
theorem HM.pop {w : World} {hb lo n g c : Nat} {s : Nat → Value} {f : Nat → Nat} (h : HM w hb lo (.slice (some ⟨g, 0, none⟩) (n + 1) c) s f (n + 1)) :
 HM (w.setCell ⟨hb, 0, none⟩ (.slice (some ⟨g, 0, none⟩) n c)) hb lo (.slice (some ⟨g, 0, none⟩) n c) s f n := by
 refine ⟨h.h.set 0 _, own_kp (O := fun b => b = hb) ?_ ((Kp.refl (fun b => b = hb) w).setCell (b := hb) rfl 0 _) fun b e hbb => h.ne (by rw [← hbb]; exact e), h.lo, h.ne⟩
 refine ⟨ics_len _ _ _, ?_⟩
 rcases h.o.2 with ⟨e, _⟩ | ⟨g', cap, cur, e, hg, hc, hn, hm, hs, ht⟩
 · cases e
 · injection e with e1 e2 e3
   injection e1 with e1
   injection e1 with e1
   subst e1; subst e3
   refine .inr ⟨g, c, cur, rfl, hg, hc, by omega, hm, hs, ?_⟩
   rw [← ics_take s f (n + 1) n (by omega), ← ht, List.take_take, Nat.min_eq_left (by omega)]
set_option maxRecDepth 100000 in
set_option maxHeartbeats 2000000 in
theorem take_none (hb lo : Nat) (v : Value) (sl : Nat → Value) (f : Nat → Nat) (w : World) (hm : HM w hb lo v sl f 0) :
 Calls Try.prog 50 #[.pointer (some ⟨hb, 0, none⟩)] w (Gives (.tuple #[.agg #[.int .i64 0, .slice none 0 0], .bool false]) w) := by
 have hv : ∃ A c, v = .slice A 0 c := by
  rcases hm.o.2 with ⟨rfl, _⟩ | ⟨g, cap, cur, rfl, _⟩
  · exact ⟨none, 0, rfl⟩
  · exact ⟨_, cap, rfl⟩
 obtain ⟨A, c, rfl⟩ := hv
 have HB := Lib.hid (box2 w (.cells #[.int .i64 0, .slice none 0 0] 86) (.cells #[.int .i64 0, .slice none 0 0] 86))
 have HA := Lib.hid ((Blk.made w 86 [.int .i64 0, .slice none 0 0] rfl).old (.cells #[.int .i64 0, .slice none 0 0] 86))
 have HC := Lib.hid (Blk.made (w.alloc (.cells #[.int .i64 0, .slice none 0 0] 86)) 86 [.int .i64 0, .slice none 0 0] (World.size_alloc _ _))
 have h0 := (hm.next HB.out).h.c 0 _ rfl
 go_enter Try.func50, Try.ntmps50
 go_wp2_with (fail)
 have c0 := HA.out.c 0 _ rfl
 have c1 := HA.out.c 1 _ rfl
 refine bodyPost_ret (v := .tuple #[.agg #[.int .i64 0, .slice none 0 0], .bool false]) (by simp [results, Try.results50, go_sem, c0, c1]) rfl ⟨rfl, HB.out⟩
def TakeQ (hb lo n : Nat) (v : Value) (sl : Nat → Value) (lt : Nat → Nat → Bool) (f : Nat → Nat) (w : World) (e : Ending) (w' : World) : Prop :=
 e = .returned (.tuple #[.agg #[.int .i64 (f 0), sl (f 0)], .bool true]) ∧ ∃ v' g, HM w' hb lo v' sl g n ∧ Hp lt g n ∧ (Inj f (n + 1) → (∀ x, In g n x ↔ In f (n + 1) x ∧ x ≠ f 0) ∧ Inj g n) ∧ Kp (hO hb v) w w' ∧ v'.ownBlock = v.ownBlock
set_option maxRecDepth 100000 in
set_option maxHeartbeats 4000000 in
theorem take_any (hb lo n : Nat) (v : Value) (sl : Nat → Value) (f : Nat → Nat) (lt : Nat → Nat → Bool) (R : World → Prop) (Q : Nat → Prop) (w : World) (hm : HM w hb lo v sl f (n + 1)) (hn : n + 1 ≤ 1000000) (hp : Hp lt f (n + 1))
 (hR : R w) (ho : Ord lo R Q sl lt) (hQ : ∀ i, i < n + 1 → Q (f i)) (hlo : lo ≤ w.heap.size) :
 Calls Try.prog 50 #[.pointer (some ⟨hb, 0, none⟩)] w (TakeQ hb lo n v sl lt f w) := by
 obtain ⟨gb, c, rfl, hgb, hglo, hnc⟩ := hm.shape (Nat.succ_pos n)
 obtain ⟨A0, n0, c0, hs0⟩ := ho.one (f 0)
 obtain ⟨A1, n1', c1, hs1⟩ := ho.one (f n)
 have HM0 := Lib.hid hm; have HP := Lib.hid hp; have HR := Lib.hid hR; have HO := Lib.hid ho; have HQ := Lib.hid hQ
 clear hm hp hR ho hQ
 have HB := Lib.hid (box2 w (.cells #[.int .i64 0, .slice none 0 0] 86) (.cells #[.int .i64 0, .slice none 0 0] 86))
 have HA := Lib.hid ((Blk.made w 86 [.int .i64 0, .slice none 0 0] rfl).old (.cells #[.int .i64 0, .slice none 0 0] 86))
 have HC := Lib.hid (Blk.made (w.alloc (.cells #[.int .i64 0, .slice none 0 0] 86)) 86 [.int .i64 0, .slice none 0 0] (World.size_alloc _ _))
 have HM1 := Lib.hid (HM0.out.next HB.out)
 have hh := HM0.out.h.lt
 have hg := HM0.out.old gb (.inr rfl)
 go_enter Try.func50, Try.ntmps50
 go_upto_region 2 with fail
 generalize (w.alloc (.cells #[.int .i64 0, .slice none 0 0] 86)).alloc (.cells #[.int .i64 0, .slice none 0 0] 86) = w0 at *
 have k0 := HM1.out.h.c 0 _ rfl
 go_wp2_with (fail)
 obtain ⟨b0, b1, b2, b3⟩ := HM1.out.cells (i := 0) (Nat.succ_pos n)
 obtain ⟨d0, d1, d2, d3⟩ := HM1.out.cells (i := n) (Nat.lt_succ_self n)
 rw [hs0] at b1
 rw [hs1] at d1
 rw [Nat.zero_mul] at b0 b1 b2 b3
 rw [Nat.zero_add] at b1 b3
 have x0 := HC.out.c 0 _ rfl; have x1 := HC.out.c 1 _ rfl; have y0 := HC.out.f 0 _ rfl; have y1 := HC.out.f 1 _ rfl
 have n1 : ¬ gb = w.heap.size + 1 := by omega
 have n2 : ¬ w.heap.size + 1 = gb := by omega
 have n3 : ¬ hb = w.heap.size + 1 := by omega
 have n4 : ¬ w.heap.size + 1 = hb := by omega
 have n7 : w.heap.size + 1 ≠ w.heap.size := by omega
 have n8 : gb ≠ w.heap.size := by omega
 have n5 : ¬ hb = gb := fun e => hgb e.symm
 have n6 : ¬ gb = hb := hgb
 have m1 : (0 : Int) < (n : Int) + 1 := by omega
 have m2 : (n : Int) < (n : Int) + 1 := by omega
 have HKB := Lib.hid (((((((Below.kp (hO hb (.slice (some ⟨gb, 0, none⟩) (n + 1) c)) HB.out).setCell0 (b := w.heap.size + 1) (by omega) 0 (.int .i64 (f 0))).setCell0 (b := w.heap.size + 1) (by omega) 1 (.slice A0 n0 c0)).setCell (b := gb) (.inr rfl) 0 (.int .i64 (f n))).setCell (b := gb) (.inr rfl) 1 (.slice A1 n1' c1))).drewN 1)
 have hmb := ((HM1.out.kp (O := fun b => b = w.heap.size + 1) (((Kp.refl (fun b => b = w.heap.size + 1) w0).setCell (b := w.heap.size + 1) rfl 0 (.int .i64 (f 0))).setCell (b := w.heap.size + 1) rfl 1 (.slice A0 n0 c0)) (fun b e h => by
  subst h
  rcases e with e | e
  · exact n4 e
  · have e' : some gb = some (w.heap.size + 1) := e
    injection e' with e'; exact n1 e')).put (i := 0) (Nat.succ_pos n) (f n)).next (below_drewN (Below.refl _ _) 1)
 rw [hs1, Nat.zero_mul, Nat.zero_add] at hmb
 have HMB := Lib.hid hmb
 have HCB := Lib.hid (((((HC.out.set 0 (.int .i64 (f 0))).set 1 (.slice A0 n0 c0)).put n1 0 (.int .i64 (f n))).put n1 1 (.slice A1 n1' c1)).drew)
 have HAB := Lib.hid (((((HA.out.put n7 0 (.int .i64 (f 0))).put n7 1 (.slice A0 n0 c0)).put n8 0 (.int .i64 (f n))).put n8 1 (.slice A1 n1' c1)).drew)
 go_region
 clear b0 b1 b2 b3 d0 d1 d2 d3 x0 x1 y0 y1 k0 HM1 HB HA HC hmb
 generalize ((((w0.setCell ⟨w.heap.size + 1, 0, none⟩ (.int .i64 (f 0))).setCell ⟨w.heap.size + 1, 1, none⟩ (.slice A0 n0 c0)).setCell ⟨gb, 0, none⟩ (.int .i64 (f n))).setCell ⟨gb, 1, none⟩ (.slice A1 n1' c1)) = w9 at *
 have e9 : w9.drewN 1 = w9.drew := rfl
 rw [e9] at HMB HKB
 clear e9
 generalize w9.drew = w1 at *
 have k0 := HMB.out.h.c 0 _ rfl
 have k1 := HMB.out.h.f 0 _ rfl
 have hnc' : (n : Int) ≤ (c : Int) := by omega
 have HMC := Lib.hid HMB.out.pop
 have HKC := Lib.hid (HKB.out.setCell (b := hb) (.inl rfl) 0 (.slice (some ⟨gb, 0, none⟩) n c))
 have HCC := Lib.hid (HCB.out.put n3 0 (.slice (some ⟨gb, 0, none⟩) n c))
 have HAC := Lib.hid (HAB.out.put (c := hb) (by omega) 0 (.slice (some ⟨gb, 0, none⟩) n c))
 clear HMB HKB HCB HAB
 go_upto_region 7 with fail
 generalize w1.setCell ⟨hb, 0, none⟩ (.slice (some ⟨gb, 0, none⟩) n c) = w2 at *
 have HFQ : Hid (∀ i, i < n → Q (if i = 0 then f n else f i)) := fun i hi => by
  split
  · exact HQ.out n (Nat.lt_succ_self n)
  · exact HQ.out i (by omega)
 have hsk := sink_any hb lo n (some ⟨gb, 0, none⟩) c sl (fun k => if k = 0 then f n else f k) lt R Q w2 HMC.out (by omega) (show Dn lt (fun k => if k = 0 then f n else f k) n 0 from dn_start HP.out) (HO.out.keep _ _ HR.out (HKC.out.below HM0.out.low hlo)) HO.out HFQ.out (Nat.le_trans hlo HKC.out.size)
 go_wp2_with (fail)
 refine hsk.mono ?_
 rintro e w3 ⟨rfl, g, hm3, hp3, hin3, hinj3, hk3⟩
 have nb4 : ¬ hO hb (.slice (some ⟨gb, 0, none⟩) n c) (w.heap.size + 1) := fun e => by
  rcases e with e | e
  · exact n4 e
  · have e' : some gb = some (w.heap.size + 1) := e
    injection e' with e'; exact n1 e'
 have nb2 : ¬ hO hb (.slice (some ⟨gb, 0, none⟩) n c) w.heap.size := fun e => by
  rcases e with e | e
  · omega
  · have e' : some gb = some w.heap.size := e
    injection e' with e'; exact n8 e'
 have hc3 := HCC.out.kp hk3 nb4
 have ha3 := HAC.out.kp hk3 nb2
 have HM3 := Lib.hid (hm3.kp (O := fun b => b = w.heap.size) (((Kp.refl (fun b => b = w.heap.size) w3).setCell (b := w.heap.size) rfl 0 (.int .i64 (f 0))).setCell (b := w.heap.size) rfl 1 (.slice A0 n0 c0)) (fun b e h => by subst h; exact nb2 e))
 have HK3 := Lib.hid (((HKC.out.trans hk3 (fun b e => .inl e)).setCell0 (b := w.heap.size) (Nat.le_refl _) 0 (.int .i64 (f 0))).setCell0 (b := w.heap.size) (Nat.le_refl _) 1 (.slice A0 n0 c0))
 have ha4 := (ha3.set 0 (.int .i64 (f 0))).set 1 (.slice A0 n0 c0)
 have HP3 := Lib.hid hp3; have HIN3 := Lib.hid hin3; have HINJ3 := Lib.hid hinj3
 have x0 := hc3.c 0 _ rfl; have x1 := hc3.c 1 _ rfl
 have y0 := ha3.c 0 _ rfl; have y1 := ha3.c 1 _ rfl; have y2 := ha3.f 0 _ rfl; have y3 := ha3.f 1 _ rfl
 clear hsk hm3 hp3 hin3 hinj3 hk3 hc3 ha3 nb4 nb2 k0 k1
 go_wp2_with (fail)
 have z0 := ha4.c 0 _ rfl
 have z1 := ha4.c 1 _ rfl
 generalize (w3.setCell ⟨w.heap.size, 0, none⟩ (.int .i64 (f 0))).setCell ⟨w.heap.size, 1, none⟩ (.slice A0 n0 c0) = w4 at *
 refine bodyPost_ret (v := .tuple #[.agg #[.int .i64 (f 0), .slice A0 n0 c0], .bool true]) (by simp [results, Try.results50, go_sem, z0, z1]) rfl ⟨by rw [hs0], _, g, HM3.out, HP3.out, fun hi => ?_, HK3.out, rfl⟩
 exact ⟨fun x => (HIN3.out x).trans (drop_in hi (Nat.succ_pos n) x), HINJ3.out (drop_inj hi)⟩
end Go.Proofs.Ytkbhnphkopgccaa.So
namespace Go.Proofs.Ytkbhnphkopgccaa.Ov
open Go.ChangeShapes Go.WideShapes Go.ChangeAt Go.RowKit Go.Proofs
theorem least {p : Nat → Prop} (h : ∃ k, p k) : ∃ k, p k ∧ ∀ j, j < k → ¬ p j := by
 obtain ⟨k, hk⟩ := h
 induction k using Nat.strongRecOn with
 | ind k ih =>
   by_cases e : ∃ j, j < k ∧ p j
   · obtain ⟨j, hj, hp⟩ := e; exact ih j hj hp
   · exact ⟨k, hk, fun j hj hp => e ⟨j, hj, hp⟩⟩
open Classical in
noncomputable def lst (J : Nat → Act → World → Prop) (a : Act) (w : World) : Nat := if h : ∃ k, J k a w then Classical.choose (least h) else 0
theorem lst_spec {J : Nat → Act → World → Prop} {a : Act} {w : World} (h : ∃ k, J k a w) : J (lst J a w) a w ∧ ∀ j, j < lst J a w → ¬ J j a w := by
 unfold lst
 rw [dif_pos h]
 exact Classical.choose_spec (least h)
theorem wpw_scope_n {P : Program} {n : Nat} {a : Act} {w : World} {Q : Exit → Act → World → Prop} {c rest : Code} (l : Nat) (J : Nat → Act → World → Prop) (hf : findLabel c l = some (.seq .skip rest))
 (first : Hid (∀ k a w, J k a w → rest.wpIn Fence.wide n P (Exit.jump l (fun a w => ∃ k, J k a w) Q) a w) → c.wpIn Fence.wide n P (Exit.jump l (fun a w => ∃ k, J k a w) Q) a w)
 (pass : ∀ k a w, J k a w → rest.wpIn Fence.wide n P (Exit.jump l (fun a' w' => ∃ k', k' < k ∧ J k' a' w') Q) a w) : (Code.scope c).wpIn Fence.wide n P Q a w := by
 refine wpw_scope_once l (fun a w => ∃ k, J k a w) (lst J) hf (fun h => first (Lib.hid fun k a w j => h.out a w ⟨k, j⟩)) fun a w j => ?_
 obtain ⟨h1, _⟩ := lst_spec j
 refine wpIn_mono (pass _ a w h1) fun e a' w' q => ?_
 cases e with
 | goto l' =>
   obtain ⟨e, k', hk, hj⟩ := q
   refine ⟨e, ⟨k', hj⟩, Nat.lt_of_le_of_lt ?_ hk⟩
   refine Nat.le_of_not_lt fun hlt => ?_
   exact (lst_spec ⟨k', hj⟩).2 k' hlt hj
 | _ => exact q
end Go.Proofs.Ytkbhnphkopgccaa.Ov
namespace Go.Proofs.Ytkbhnphkopgccaa.So
open Go.ChangeShapes Go.WideShapes Go.ChangeAt Go.RowKit Go.Sort Go.Proofs Ov Va St Pr
theorem rest_no (hb : Nat) (i : Int) (A : Option Addr) (c : Nat) (w : World) : Calls Try.prog 48 #[.int .i64 i, .slice A 0 c, .pointer (some ⟨hb, 0, none⟩)] w fun e w' => e = .returned (.tuple #[]) ∧ w = w' := by
 go_enter Try.func48, Try.ntmps48
 go_wp2_with (fail)
 go_end0
 exact ⟨rfl, rfl⟩
theorem rest_yes (hb lo n m : Nat) (A : Option Addr) (c : Nat) (v : Value) (s : Nat → Value) (f : Nat → Nat) (r : Nat) (lt : Nat → Nat → Bool) (R : World → Prop) (Q : Nat → Prop) (w : World) (hm : HM w hb lo v s f n) (hn : n ≤ 1000000) (hp : Hp lt f n)
 (hR : R w) (ho : Ord lo R Q s lt) (hQ : ∀ i, i < n → Q (f i)) (hr : Q r) (hlo : lo ≤ w.heap.size) (hs : s r = .slice A m c) (h0 : 0 < m) (hm1 : m ≤ 1000000000) :
 Calls Try.prog 48 #[.int .i64 r, .slice A m c, .pointer (some ⟨hb, 0, none⟩)] w (PutQ hb lo n v s lt f r w) := by
 have hpt := put_any hb lo n v s f r lt R Q w hm hn hp hR ho hQ hr hlo
 rw [hs] at hpt
 clear hm hp hR ho hQ hr
 have h0z : (0 : Int) < (m : Int) := by omega
 go_enter Try.func48, Try.ntmps48
 go_wp2_with (fail)
 refine hpt.mono ?_
 rintro e w1 ⟨rfl, h⟩
 have H := Lib.hid h
 clear h hpt
 go_wp2_with (fail)
 go_end0
 exact ⟨rfl, H.out⟩
end Go.Proofs.Ytkbhnphkopgccaa.So

/-
  Small texts of this claim, together: PrLaw, PrRight, PrGrp, PrJoin, SoSink, SoTake, SoRuns, JoRefF, SoSame.
-/
import Derived.Test.YtamhfjlffacakaaQPrOwn
import Derived.BigQuiet
import Derived.Shelf.GgClosure.Gives
import Derived.Test.YtamhfjlffacakaaQ2
import Derived.Test.YtamhfjlffacakaaQVaRight
import Derived.Shelf.SlicesQ.IndexFunc
import Derived.Test.YtamhfjlffacakaaQSoPut
import Derived.Test.YtamhfjlffacakaaQ3
import Derived.Test.YtamhfjlffacakaaQ1
import Derived.Test.YtamhfjlffacakaaQJoRefA1
import Derived.Test.YtamhfjlffacakaaQJoRefB1
namespace Go.Proofs.Ytamhfjlffacakaa.Pr
open Go.ChangeShapes Go.WideShapes Go.ChangeAt Go.RowKit Go.Sort Go.Proofs Ov Va St
theorem prs_made (w : World) (l : List Pr) (t : TypeId) : Prs (w.alloc (.cells (pcells l).toArray t)) (some ⟨w.heap.size, 0, none⟩) l := fun _ =>
 ⟨w.heap.size, 0, rfl, fun i j v hi hv => by
  have hj : j < 6 := (List.getElem?_eq_some_iff.1 hv).1
  rw [Nat.zero_add]
  exact (Blk.made w t (pcells l) rfl).c (i * 6 + j) v (by rw [pcells_at l i j hi hj]; exact hv)⟩
def SmallQ (l : List Pr) (w : World) (e : Ending) (w' : World) : Prop := ∃ b : Int, e = .returned (.int .i64 b) ∧ Below w.heap.size w w' ∧ (b = 0 ∨ (b = 1 ∧ l.length ≤ 100 ∧ ∀ p ∈ l, p.1.length ≤ 10000 ∧ p.2.s.length ≤ 10000))
set_option maxRecDepth 100000 in
set_option maxHeartbeats 2000000 in
theorem small_any (A : Option Addr) (c : Nat) (l : List Pr) (w : World) (h : Prs w A l) : Calls Try.prog 6 #[.slice A l.length c] w (SmallQ l w) := by
 have HN := Lib.hid h
 clear h
 go_enter Try.func6, Try.ntmps6
 go_wp2_with (fail)
 go_loopg [3, 4] (l.length + 1) (fun kx s3 s4 wr => ∃ (j q m : Nat), j ≤ l.length ∧ j ≤ 101 ∧ q ≤ j * 200000 ∧ l.length + 1 - j ≤ kx ∧ s3 = .int .i64 q ∧ s4 = .int .i64 j ∧ wr = w.drewN m ∧
  Hid (∀ i, i < j → min (pd l i).1.length 100000 + min (pd l i).2.s.length 100000 ≤ q))
 case atStart => exact ⟨0, 0, 0, Nat.zero_le _, by omega, by omega, by omega, rfl, rfl, rfl, fun i hi => absurd hi (Nat.not_lt_zero _)⟩
 case round =>
  obtain ⟨j, q, m, hj, hj1, hq, hkx, rfl, rfl, rfl, HQ⟩ := hrel
  by_cases hlt : j < l.length ∧ j ≤ 100
  · obtain ⟨hlt, hl1⟩ := hlt
    have hltz : (j : Int) < (l.length : Int) := by omega
    have hl1z : (j : Int) ≤ 100 := by omega
    obtain ⟨G, O, rfl⟩ := HN.out.shape (by omega)
    have hd : Prs (w.drewN m) (some ⟨G, O, none⟩) l := HN.out
    have a0 := hd.cell hlt 0 _ rfl
    have a3 := hd.cell hlt 3 _ rfl
    rw [Nat.add_zero] at a0
    have HZ := Lib.hid (tx_size (pd l j).1); have HY := Lib.hid (tx_size (pd l j).2.s)
    generalize tx (pd l j).1 = s0 at *
    generalize tx (pd l j).2.s = s1 at *
    obtain ⟨z, hz, hz1⟩ : ∃ z : Nat, min ((s0.size : Nat) : Int) 100000 = (z : Int) ∧ z = min s0.size 100000 := ⟨min s0.size 100000, by omega, rfl⟩
    obtain ⟨y, hy, hy1⟩ : ∃ y : Nat, min ((s1.size : Nat) : Int) 100000 = (y : Int) ∧ y = min s1.size 100000 := ⟨min s1.size 100000, by omega, rfl⟩
    have HZ1 := Lib.hid hz1; have HY1 := Lib.hid hy1
    have hz2 : z ≤ 100000 := by omega
    have hy2 : y ≤ 100000 := by omega
    clear hz1 hy1 hd
    generalize hwo : w.drewN m = wo at *
    have HWO := Lib.hid hwo; clear hwo
    go_wp2_with (fail)
    go_quiet (fail)
    go_wp2_with (fail)
    go_roundg (l.length + 1 - (j + 1))
    case measure => omega
    case rel => exact ⟨j + 1, q + z + y, m + _, by omega, by omega, by omega, Nat.le_refl _, by go_num, by go_num, by rw [← HWO.out, World.drewN_drewN], fun i hi => by
     by_cases hij : i = j
     · subst hij
       rw [← HZ.out, ← HY.out, ← HZ1.out, ← HY1.out]; omega
     · have := HQ.out i (by omega); omega⟩
  · have hb := below_drewN (Below.refl w.heap.size w) m
    by_cases hjl : j < l.length
    · have hltz : (j : Int) < (l.length : Int) := by omega
      have hj2 : ¬ ((j : Int) ≤ 100) := by omega
      have hl2 : (100 : Int) < (l.length : Int) := by omega
      go_wp2_with (fail)
      go_ret
      exact ⟨0, rfl, hb, .inl rfl⟩
    · have hltz : ¬ (j : Int) < (l.length : Int) := by omega
      obtain rfl : j = l.length := by omega
      clear hlt
      by_cases hl2 : (100 : Int) < (l.length : Int)
      · go_wp2_with (fail)
        go_ret
        exact ⟨0, rfl, hb, .inl rfl⟩
      by_cases hq2 : (10000 : Int) < (q : Int)
      · go_wp2_with (fail)
        go_ret
        exact ⟨0, rfl, hb, .inl rfl⟩
      have hq3 : q ≤ 10000 := by omega
      go_wp2_with (fail)
      go_ret
      refine ⟨1, rfl, hb, .inr ⟨rfl, by omega, fun p hp => ?_⟩⟩
      obtain ⟨i, hi, rfl⟩ := List.getElem_of_mem hp
      have := HQ.out i hi
      rw [pd_at hi] at this
      omega
set_option maxRecDepth 100000 in
set_option maxHeartbeats 1000000 in
theorem neq_pair (p : Pr) (w : World) : (binOp .neq 35 (.agg #[.string (tx p.1), .int .i64 p.2.k, .int .i64 p.2.n, .string (tx p.2.s), .int .i64 p.2.x, .int .i64 p.2.y]) (.agg #[.string (tx p.1), .int .i64 p.2.k, .int .i64 p.2.n, .string (tx p.2.s), .int .i64 p.2.x, .int .i64 p.2.y])).run Try.prog w = .ok (.bool false) w := by
 generalize tx p.1 = o
 generalize p.2.k = a
 generalize p.2.n = b
 generalize tx p.2.s = s
 generalize p.2.x = x
 generalize p.2.y = y
 have u := Try.underlying3
 have hN : Try.prog.underlying 35 = some (.struct (Try.prog.fieldsOf 35)) := by kernel_rfl
 have hS : Try.prog.underlying 33 = some (.struct (Try.prog.fieldsOf 33)) := by kernel_rfl
 have hS2 : Try.prog.underlying 31 = some (.struct (Try.prog.fieldsOf 31)) := by kernel_rfl
 have hp0 : Try.prog.stoodInHeld 35 = false := by kernel_rfl
 have hp : Try.prog.stoodInHeld 33 = false := by kernel_rfl
 have hp2 : Try.prog.stoodInHeld 31 = false := by kernel_rfl
 have hr := fun d xs ys w => run_equalIn_struct (P := Try.prog) w d 33 xs ys hS hp
 have hq := fun d xs ys w => run_equalIn_struct (P := Try.prog) w d 31 xs ys hS2 hp2
 rw [run_neq_struct, show (10000 : Nat) = 9999 + 1 from rfl, run_equalIn_struct w 9999 35 _ _ hN hp0]
 clear hN hS hS2 hp hp0 hp2
 simp only [Program.fieldsOf, Try.underlying35, Try.underlying33, Try.underlying31] at hq hr ⊢
 go_simp
set_option maxRecDepth 100000 in
set_option maxHeartbeats 2000000 in
theorem same_pairs (l : List Pr) (A B : Option Addr) (c d : Nat) (w : World) (ha : Prs w A l) (hb : Prs w B l) (hl : l.length ≤ 4294967296) : Calls Try.prog 13 #[.slice A l.length c, .slice B l.length d] w (Gives (.bool true) w) := by
 have HA := Lib.hid ha; have HB := Lib.hid hb
 clear ha hb
 go_enter Try.func13, Try.ntmps13
 go_wp2_with (fail)
 go_loopg [5] l.length (fun kx i wr => ∃ k m : Nat, k ≤ l.length ∧ l.length - k ≤ kx ∧ i = .int .i64 (k : Int) ∧ wr = w.drewN m)
 case atStart => exact ⟨0, 0, Nat.zero_le _, by omega, rfl, rfl⟩
 case round =>
  obtain ⟨k, m, hk, hkx, rfl, rfl⟩ := hrel
  by_cases hlt : k < l.length
  · have hltz : (k : Int) < (l.length : Int) := by omega
    obtain ⟨G, O, rfl⟩ := HA.out.shape (by omega)
    obtain ⟨G', O', rfl⟩ := HB.out.shape (by omega)
    have hda : Prs (w.drewN m) (some ⟨G, O, none⟩) l := HA.out
    have hdb : Prs (w.drewN m) (some ⟨G', O', none⟩) l := HB.out
    have a0 := hda.cell hlt 0 _ rfl
    have a1 := hda.cell hlt 1 _ rfl
    have a2 := hda.cell hlt 2 _ rfl
    have a3 := hda.cell hlt 3 _ rfl
    have a4 := hda.cell hlt 4 _ rfl
    have a5 := hda.cell hlt 5 _ rfl
    have b0 := hdb.cell hlt 0 _ rfl
    have b1 := hdb.cell hlt 1 _ rfl
    have b2 := hdb.cell hlt 2 _ rfl
    have b3 := hdb.cell hlt 3 _ rfl
    have b4 := hdb.cell hlt 4 _ rfl
    have b5 := hdb.cell hlt 5 _ rfl
    rw [Nat.add_zero] at a0 b0
    have hE := fun w => neq_pair (pd l k) w
    generalize pd l k = n at *
    clear hda hdb
    generalize hwo : w.drewN m = wo at *
    have HWO := Lib.hid hwo; clear hwo
    go_wp2_with (fail)
    go_quiet (fail)
    go_wp2_with (fail)
    go_roundg (l.length - (k + 1))
    case measure => omega
    case rel => exact ⟨k + 1, m + _, by omega, Nat.le_refl _, by go_num, by rw [← HWO.out, World.drewN_drewN]⟩
  · have hltz : ¬ (k : Int) < (l.length : Int) := by omega
    go_wp2_with (fail)
    go_ret
    exact ⟨rfl, below_drewN (Below.refl _ _) m⟩
theorem byKey_gives (a b : Pr) (w : World) : Calls Try.prog 42 #[.agg (pcl a).toArray, .agg (pcl b).toArray] w (Gives (.int .i64 (ck a b)) w) :=
 (byKey_any a b w).mono fun _ _ ⟨he, q, os, hw⟩ => ⟨he, by rw [hw]; exact below_grown w q os⟩
theorem od_near (l : List Pr) (h : ∀ j, 0 < j → j < l.length → kl (pd l j) (pd l (j - 1)) = false) : Od l := by
 have far : ∀ d i, i + d + 1 < l.length → kl (pd l (i + d + 1)) (pd l i) = false := by
  intro d
  induction d with
  | zero => intro i hi; exact h (i + 1) (by omega) hi
  | succ d ih => intro i hi; exact swo.ntrans _ _ _ (h (i + (d + 1) + 1) (by omega) hi) (ih i (by omega))
 rw [Od, List.pairwise_iff_getElem]
 intro i j hi hj hij
 have e := far (j - i - 1) i (by omega)
 rw [show i + (j - i - 1) + 1 = j by omega, pd_at hi, pd_at hj] at e
 exact e
theorem near_od (l : List Pr) (h : Od l) (j : Nat) (h0 : 0 < j) (hj : j < l.length) : kl (pd l j) (pd l (j - 1)) = false := by
 rw [pd_at hj, pd_at (show j - 1 < l.length by omega)]
 exact (List.pairwise_iff_getElem.1 h) (j - 1) j (by omega) hj (by omega)
def OrdQ (l : List Pr) (w : World) (e : Ending) (w' : World) : Prop := ∃ b : Bool, e = .returned (.bool b) ∧ (b = true ↔ Od l) ∧ Below w.heap.size w w'
set_option maxRecDepth 100000 in
set_option maxHeartbeats 2000000 in
theorem isSorted_any (A : Option Addr) (c : Nat) (l : List Pr) (w : World) (h : Prs w A l) (hl : l.length ≤ 1000000) : Calls Try.prog 41 #[.slice A l.length c, .func (.func 42) #[] #[]] w (OrdQ l w) := by
 have HN := Lib.hid h
 clear h
 go_enter Try.func41, Try.ntmps41
 go_wp2_with (fail)
 go_loopg [5] (l.length + 1) (fun kx s5 wr => ∃ j : Nat, j ≤ l.length ∧ j ≤ kx ∧ s5 = .int .i64 ((j : Int) - 1) ∧ Hid (Below w.heap.size w wr) ∧ Hid (∀ i, j ≤ i → 0 < i → i < l.length → kl (pd l i) (pd l (i - 1)) = false))
 case atStart => exact ⟨l.length, Nat.le_refl _, by omega, rfl, Below.refl _ _, fun i h1 _ h2 => by omega⟩
 case round =>
  obtain ⟨j, hj, hkx, rfl, HB, HQ⟩ := hrel
  by_cases hlt : 1 < j
  · obtain ⟨i, rfl⟩ : ∃ i, j = i + 2 := ⟨j - 2, by omega⟩
    have hltz : (0 : Int) < ((i + 2 : Nat) : Int) - 1 := by omega
    obtain ⟨G, O, rfl⟩ := HN.out.shape (by omega)
    have hd := HN.out.next HB.out
    have a0 := fun r : Over wr => over_cell r (hd.cell (i := i + 1) (by omega) 0 _ rfl)
    have a1 := fun r : Over wr => over_cell r (hd.cell (i := i + 1) (by omega) 1 _ rfl)
    have a2 := fun r : Over wr => over_cell r (hd.cell (i := i + 1) (by omega) 2 _ rfl)
    have a3 := fun r : Over wr => over_cell r (hd.cell (i := i + 1) (by omega) 3 _ rfl)
    have a4 := fun r : Over wr => over_cell r (hd.cell (i := i + 1) (by omega) 4 _ rfl)
    have a5 := fun r : Over wr => over_cell r (hd.cell (i := i + 1) (by omega) 5 _ rfl)
    have b0 := fun r : Over wr => over_cell r (hd.cell (i := i) (by omega) 0 _ rfl)
    have b1 := fun r : Over wr => over_cell r (hd.cell (i := i) (by omega) 1 _ rfl)
    have b2 := fun r : Over wr => over_cell r (hd.cell (i := i) (by omega) 2 _ rfl)
    have b3 := fun r : Over wr => over_cell r (hd.cell (i := i) (by omega) 3 _ rfl)
    have b4 := fun r : Over wr => over_cell r (hd.cell (i := i) (by omega) 4 _ rfl)
    have b5 := fun r : Over wr => over_cell r (hd.cell (i := i) (by omega) 5 _ rfl)
    simp only [Nat.add_zero] at a0 b0
    have HK := Lib.hid (fun w => byKey_gives (pd l (i + 1)) (pd l i) w)
    unfold pcl at HK
    have hck := ck_kl (pd l (i + 1)) (pd l i)
    have e1 : IntKind.i64.wrap (((i + 2 : Nat) : Int) - 1) = ((i + 1 : Nat) : Int) := by rw [IntKind.wrap_i64]; omega
    have HS : Hid (pd l (i + 1) = pd l (i + 1)) := rfl
    generalize hx : pd l (i + 1) = x at *
    generalize hy : pd l i = y at *
    have HXY := Lib.hid (And.intro hx hy)
    clear hx hy HS hd
    rw [show ((i + 2 : Nat) : Int) - 1 = ((i + 1 : Nat) : Int) by omega] at *
    have hix : ((i + 1 : Nat) : Int) < (l.length : Int) := by omega
    have hiy : (i : Int) < (l.length : Int) := by omega
    have e2 : ((i + 1 : Nat) : Int) - 1 = (i : Int) := by omega
    generalize ck x y = cc at *
    have hmix : Try.prog.follows .mixedOrders = true := by kernel_rfl
    cases hb0 : decide (cc < 0) with
    | true =>
      rw [hb0] at hck
      have HCK := Lib.hid hck
      clear hck
      go_upto_region 4 with fail
      refine wp_over (by kernel_rfl) (by kernel_rfl) ?_
      repeat (go_big_quiet_step (first | fail | with_reducible exact over_gives _ (HK.out _)))
      refine wpQuiet_nil ?_
      rintro w2 ⟨⟨w2, hb⟩, rfl⟩
      have HB2 := Lib.hid (Below.next HB.out hb)
      clear hb a0 a1 a2 a3 a4 a5 b0 b1 b2 b3 b4 b5
      go_wp2_with (fail)
      go_ret
      refine ⟨false, rfl, ⟨(fun h => nomatch h), fun h => ?_⟩, HB2.out⟩
      have := near_od l h (i + 1) (by omega) (by omega)
      rw [show i + 1 - 1 = i by omega, HXY.out.1, HXY.out.2, ← HCK.out] at this
      cases this
    | false =>
      rw [hb0] at hck
      have HCK := Lib.hid hck
      clear hck
      go_upto_region 4 with fail
      refine wp_over (by kernel_rfl) (by kernel_rfl) ?_
      repeat (go_big_quiet_step (first | fail | with_reducible exact over_gives _ (HK.out _)))
      refine wpQuiet_nil ?_
      rintro w2 ⟨⟨w2, hb⟩, rfl⟩
      have HB2 := Lib.hid (Below.next HB.out hb)
      clear hb a0 a1 a2 a3 a4 a5 b0 b1 b2 b3 b4 b5
      go_wp2_with (fail)
      go_roundg (i + 1)
      case measure => omega
      case rel => exact ⟨i + 1, by omega, Nat.le_refl _, by first | rfl | go_num | (congr 1; omega), HB2, fun t h1 h2 h3 => by
       by_cases ht : t = i + 1
       · subst ht
         rw [show i + 1 - 1 = i by omega, HXY.out.1, HXY.out.2]; exact HCK.out.symm
       · exact HQ.out t (by omega) h2 h3⟩
  · have hltz : ¬ (0 : Int) < (j : Int) - 1 := by omega
    go_wp2_with (fail)
    go_ret
    exact ⟨true, rfl, ⟨fun _ => od_near l fun t h1 h2 => HQ.out t (by omega) h1 h2, fun _ => rfl⟩, HB.out⟩
theorem ordered_any (A : Option Addr) (c : Nat) (l : List Pr) (w : World) (h : Prs w A l) (hl : l.length ≤ 1000000) : Calls Try.prog 26 #[.slice A l.length c] w (OrdQ l w) := by
 have hs := isSorted_any A c l w h hl
 go_enter Try.func26, Try.ntmps26
 go_wp2_with (fail)
 refine hs.mono ?_
 rintro e w1 ⟨b, rfl, hb, hB⟩
 have HB := Lib.hid hB; have HO := Lib.hid hb
 clear hb hB hs
 go_wp2_with (fail)
 go_ret
 exact ⟨b, rfl, HO.out, HB.out⟩
end Go.Proofs.Ytamhfjlffacakaa.Pr
namespace Go.Proofs.Ytamhfjlffacakaa.Pr
open Go.ChangeShapes Go.WideShapes Go.ChangeAt Go.RowKit Go.Sort Go.Shelf Go.Proofs Ov Va St
def cfRen : Ren := ⟨fun | 6 => 52 | 8 => 30 | n => n, fun | 0 => 0 | 3 => 3 | 4 => 4 | 22 => 22 | 23 => 35 | 25 => 67 | n => n, fun n => n⟩
theorem cfLays : SlLaysH0.n8 Try.prog cfRen :=
 { mixed := by kernel_rfl
   f6 := ⟨Try.f52.name, by kernel_rfl, by kernel_rfl⟩
   f8 := ⟨Try.f30.name, by kernel_rfl, by kernel_rfl⟩
   t0 := by kernel_rfl
   a0 := fun _ => by kernel_rfl
   z0 := fun _ => by kernel_rfl
   v0 := fun _ => by kernel_rfl
   t3 := by kernel_rfl
   a3 := fun _ => by kernel_rfl
   z3 := fun _ => by kernel_rfl
   v3 := fun _ => by kernel_rfl
   t4 := by kernel_rfl
   a4 := fun _ => by kernel_rfl
   z4 := fun _ => by kernel_rfl
   v4 := fun _ => by kernel_rfl
   t22 := by kernel_rfl
   a22 := fun _ => by kernel_rfl
   z22 := fun _ => by kernel_rfl
   v22 := fun _ => by kernel_rfl
   t25 := by kernel_rfl
   a25 := fun _ => by kernel_rfl
   z25 := fun _ => by kernel_rfl
   v25 := fun _ => by kernel_rfl }
set_option maxRecDepth 100000 in
set_option maxHeartbeats 1000000 in
theorem wrong_any (p : Pr) (w : World) : Calls Try.prog 31 #[.agg (pcl p).toArray] w (Gives (.bool (!rp p)) w) := by
 obtain ⟨pk, ⟨vk, vn, vs, vx, vy⟩⟩ := p
 have HR := Lib.hid (fun w => right_val vk vn vx vy (tx vs) w)
 have HP := Lib.hid (box6 w 35 (.string (tx pk)) (.int .i64 vk) (.int .i64 vn) (.string (tx vs)) (.int .i64 vx) (.int .i64 vy))
 have HB := Lib.hid (box1 w (.cells #[.string (tx pk), .int .i64 vk, .int .i64 vn, .string (tx vs), .int .i64 vx, .int .i64 vy] 35))
 rw [tx_list] at HR
 have hrp : rp (pk, ⟨vk, vn, vs, vx, vy⟩) = (decide (pk.length ≤ 64) && rt ⟨vk, vn, vs, vx, vy⟩) := rfl
 rw [hrp]
 clear hrp
 unfold pcl
 dsimp only
 have hz := tx_size pk
 generalize tx pk = tk at *
 generalize rt ⟨vk, vn, vs, vx, vy⟩ = r at *
 rw [← hz]
 clear hz
 generalize hbb : decide (tk.size ≤ 64) = b
 cases b with
 | true =>
   have hd : decide (64 < (tk.size : Int)) = false := decide_eq_false (by have := of_decide_eq_true hbb; omega)
   clear hbb
   cases r
   all_goals
    go_enter Try.func31, Try.ntmps31
    go_wp2_with (fail)
    refine (HR.out _).mono ?_
    rintro e w1 ⟨rfl, hb⟩
    replace HB := Lib.hid (Below.next HB.out hb)
    clear hb
    go_wp2_with (fail)
    go_ret
    exact ⟨rfl, HB.out⟩
 | false =>
   have hd : decide (64 < (tk.size : Int)) = true := decide_eq_true (by have := of_decide_eq_false hbb; omega)
   clear hbb
   go_enter Try.func31, Try.ntmps31
   go_wp2_with (fail)
   go_ret
   exact ⟨rfl, HB.out⟩
theorem index_none (A : Option Addr) (c : Nat) (g : Value) (w : World) : Calls Try.prog 52 #[.slice A 0 c, g] w fun e w' => e = .returned (.int .i64 (-1)) ∧ w' = w := by
 go_enter Try.func52, Try.ntmps52
 go_wp2_with (fail)
 refine wp_loop_rounds 1 ?_
 rw [rounds_succ]
 go_wp2_with (fail)
 go_ret
 exact ⟨rfl, rfl⟩
theorem contains_none (A : Option Addr) (c : Nat) (g : Value) (w : World) : Calls Try.prog 30 #[.slice A 0 c, g] w fun e w' => e = .returned (.bool false) ∧ w' = w := by
 go_enter Try.func30, Try.ntmps30
 go_wp2_with (fail)
 refine (index_none A c g _).mono ?_
 rintro e w1 ⟨rfl, rfl⟩
 go_wp2_with (fail)
 go_ret
 exact ⟨rfl, rfl⟩
theorem contains_any (A : Option Addr) (c : Nat) (l : List Pr) (w : World) (h : Prs w A l) (hl : l.length ≤ 1000000) :
 Calls Try.prog 30 #[.slice A l.length c, .func (.func 31) #[] #[]] w (Gives (.bool (l.any fun p => !rp p)) w) := by
 rcases Nat.eq_zero_or_pos l.length with h0 | h0
 · obtain rfl : l = [] := List.length_eq_zero_iff.1 h0
   exact (contains_none A c _ w).mono fun _ w' ⟨he, hw⟩ => ⟨he, by rw [hw]; exact Below.refl _ _⟩
 · obtain ⟨B, O, rfl, hc⟩ := h h0
   have hg : ∀ j, j < l.length → l[j]! = pd l j := fun j hj => by rw [pd_at hj]; exact getElem!_pos l j hj
   have := AnyQ.slices_ContainsFunc cfLays 6 (fun w => by kernel_rfl) (fun w => by kernel_rfl) pcl pcl_len (fun p => !rp p) 31 #[] (enters_of Try.func31 (by kernel_rfl) rfl) B O l.length c l w
    (fun W x hb => (wrong_any x W).mono fun _ _ ⟨he, hb'⟩ => ⟨he, Below.next hb hb'⟩) (Nat.le_refl _) (by omega) (block_lt_of_cell (hc 0 0 _ h0 rfl)) (fun j hj i v hv => hc j i v hj (by rw [← hg j hj]; exact hv))
   rw [List.take_length] at this
   exact this
theorem pright_any (A : Option Addr) (c : Nat) (l : List Pr) (w : World) (h : Prs w A l) (hl : l.length ≤ 1000000) :
 Calls Try.prog 19 #[.slice A l.length c] w (Gives (.bool (rl l)) w) := by
 have HC := Lib.hid (contains_any A c l w h hl)
 have e : rl l = !(l.any fun p => !rp p) := by unfold rl; rw [List.all_eq_not_any_not]
 rw [e]
 generalize (l.any fun p => !rp p) = b at *
 go_enter Try.func19, Try.ntmps19
 go_wp2_with (fail)
 refine HC.out.mono ?_
 rintro e w1 ⟨rfl, hb⟩
 have HB := Lib.hid hb
 clear hb
 go_wp2_with (fail)
 go_ret
 exact ⟨rfl, HB.out⟩
def IsG (l : List Pr) (k : Nat) : Prop := 0 < k ∧ k ≤ l.length ∧ (∀ j, j < k → (pd l j).1 = (pd l 0).1) ∧ (k < l.length → (pd l k).1 ≠ (pd l 0).1)
theorem tx_ne {a b : List UInt8} (h : a ≠ b) : ((tx a).toList == (tx b).toList) = false := by
 rw [ByteArray.toList_eq, ByteArray.toList_eq, tx_list, tx_list]
 exact beq_eq_false_iff_ne.2 h
set_option maxRecDepth 100000 in
set_option maxHeartbeats 1000000 in
theorem gs1_any (p : Pr) (k0 : List UInt8) (bx B O n c : Nat) (w : World) (h1 : w.cell? ⟨bx, 0, none⟩ = some (.slice (some ⟨B, O, none⟩) n c)) (h2 : w.cell? ⟨B, O, none⟩ = some (.string (tx k0))) (hn : 0 < n) :
 Calls Try.prog 62 #[.agg (pcl p).toArray, .pointer (some ⟨bx, 0, none⟩)] w (Gives (.bool (!decide (p.1 = k0))) w) := by
 obtain ⟨pk, ⟨vk, vn, vs, vx, vy⟩⟩ := p
 have HB := Lib.hid (box1 w (.cells #[.string (tx pk), .int .i64 vk, .int .i64 vn, .string (tx vs), .int .i64 vx, .int .i64 vy] 35))
 have HP := Lib.hid (box6 w 35 (.string (tx pk)) (.int .i64 vk) (.int .i64 vn) (.string (tx vs)) (.int .i64 vx) (.int .i64 vy))
 have g1 := (HB.out.cell (p := ⟨bx, 0, none⟩) (block_lt_of_cell h1)).trans h1
 have g2 := (HB.out.cell (p := ⟨B, O, none⟩) (block_lt_of_cell h2)).trans h2
 clear h1 h2
 have hnz : (0 : Int) < (n : Int) := by omega
 unfold pcl
 dsimp only
 obtain ⟨r, hr⟩ : ∃ r, r = !decide (pk = k0) := ⟨_, rfl⟩
 rw [← hr]
 have HR := Lib.hid hr; clear hr
 go_enter Try.func62, Try.ntmps62
 go_upto_region 1 with fail
 have p0 := HP.out.c 0 _ rfl
 clear HP
 generalize w.alloc (.cells #[.string (tx pk), .int .i64 vk, .int .i64 vn, .string (tx vs), .int .i64 vx, .int .i64 vy] 35) = w1 at *
 by_cases hk : pk = k0
 · subst hk
   have HE := Lib.hid (show r = false by have := HR.out; simpa using this)
   clear HR
   generalize tx pk = s at *
   go_wp2_with (fail)
   go_quiet (fail)
   go_wp2_with (fail)
   go_ret
   exact ⟨by rw [HE.out]; rfl, below_drewN HB.out _⟩
 · have HE := Lib.hid (show r = true by have := HR.out; simpa [hk] using this)
   clear HR
   have hne := tx_ne hk
   generalize tx pk = s at *
   generalize tx k0 = s0 at *
   go_wp2_with (fail)
   go_quiet (fail)
   go_wp2_with (fail)
   go_ret
   exact ⟨by rw [HE.out]; rfl, below_drewN HB.out _⟩
theorem idx_g (l : List Pr) (h0 : 0 < l.length) : ∃ q : Int, Lib.idxBy (fun _ y => !decide (y.1 = (pd l 0).1)) (l.take l.length) default = q ∧ ((q < 0 ∧ IsG l l.length) ∨ (0 ≤ q ∧ IsG l q.toNat ∧ q.toNat < l.length)) := by
 have hg : ∀ j, j < l.length → l[j]! = pd l j := fun j hj => by rw [pd_at hj]; exact getElem!_pos l j hj
 have first : ∀ n, (∀ j, j < n → j < l.length → (pd l j).1 = (pd l 0).1) ∨ ∃ k, k < n ∧ k < l.length ∧ (pd l k).1 ≠ (pd l 0).1 ∧ ∀ j, j < k → (pd l j).1 = (pd l 0).1 := by
  intro n
  induction n with
  | zero => exact .inl fun j hj => absurd hj (Nat.not_lt_zero _)
  | succ n ih =>
    rcases ih with h | ⟨k, h1, h2⟩
    · by_cases hn : n < l.length
      · by_cases he : (pd l n).1 = (pd l 0).1
        · exact .inl fun j hj hjl => by
           rcases Nat.lt_or_ge j n with h1 | h1
           · exact h j h1 hjl
           · obtain rfl : j = n := by omega
             exact he
        · exact .inr ⟨n, by omega, hn, he, fun j hj => h j hj (by omega)⟩
      · exact .inl fun j hj hjl => h j (by omega) hjl
    · exact .inr ⟨k, by omega, h2⟩
 rcases first l.length with h | ⟨k, h1, h2, h3, h4⟩
 · refine ⟨-1, Lib.idxBy_miss _ l l.length default fun j hj => ?_, .inl ⟨by omega, h0, Nat.le_refl _, fun j hj => h j hj hj, fun h => absurd h (Nat.lt_irrefl _)⟩⟩
   simp only [hg j hj, h j hj hj, decide_true, Bool.not_true]
 · have hk0 : 0 < k := by
    rcases Nat.eq_zero_or_pos k with rfl | h
    · exact absurd rfl h3
    · exact h
   refine ⟨(k : Int), Lib.idxBy_hit _ l l.length k default h1 (Nat.le_refl _) ?_ fun j hj => ?_, .inr ⟨by omega, ?_, by omega⟩⟩
   · simp only [hg k h1, decide_eq_false h3, Bool.not_false]
   · simp only [hg j (by omega), h4 j hj, decide_true, Bool.not_true]
   · rw [Int.toNat_natCast]; exact ⟨hk0, by omega, h4, fun _ => h3⟩
set_option maxRecDepth 100000 in
set_option maxHeartbeats 1000000 in
theorem groupSize_any (B O c : Nat) (l : List Pr) (w : World) (h : Prs w (some ⟨B, O, none⟩) l) (h0 : 0 < l.length) (hl : l.length ≤ 1000000) :
 Calls Try.prog 44 #[.slice (some ⟨B, O, none⟩) l.length c] w fun e w' => ∃ k : Nat, e = .returned (.int .i64 k) ∧ IsG l k ∧ Below w.heap.size w w' := by
 have hg : ∀ j, j < l.length → l[j]! = pd l j := fun j hj => by rw [pd_at hj]; exact getElem!_pos l j hj
 obtain ⟨w1, hw1⟩ : ∃ w1, w1 = w.alloc (.cells #[.slice (some ⟨B, O, none⟩) l.length c] 22) := ⟨_, rfl⟩
 have hB : Below w.heap.size w w1 := by rw [hw1]; exact box1 w _
 have hbx : w1.cell? ⟨w.heap.size, 0, none⟩ = some (.slice (some ⟨B, O, none⟩) l.length c) := by rw [hw1]; exact (Blk.made w _ [.slice (some ⟨B, O, none⟩) l.length c] rfl).c 0 _ rfl
 have hp1 := h.next hB
 have hc : ∀ i j v, i < l.length → (pcl (pd l i))[j]? = some v → w1.cell? ⟨B, O + i * 6 + j, none⟩ = some v := fun i j v hi hv => hp1.cell hi j v hv
 have hx := AnyQ.slices_IndexFunc (ρ := cfRen) { cfLays with } 6 (fun w => by kernel_rfl) (fun w => by kernel_rfl) pcl pcl_len (fun p => !decide (p.1 = (pd l 0).1)) 62 #[.pointer (some ⟨w.heap.size, 0, none⟩)] (enters_of Try.func62 (by kernel_rfl) rfl) B O l.length c l w1
  (fun W x hb => (gs1_any x (pd l 0).1 w.heap.size B O l.length c W ((hb.cell (block_lt_of_cell hbx)).trans hbx) (by
    have e := hc 0 0 _ h0 rfl
    rw [Nat.zero_mul, Nat.add_zero] at e
    exact (hb.cell (block_lt_of_cell e)).trans e) h0).mono fun _ _ ⟨he, hb'⟩ => ⟨he, Below.next hb hb'⟩) (Nat.le_refl _) (by omega) (block_lt_of_cell (hc 0 0 _ h0 rfl)) (fun j hj i v hv => hc j i v hj (by rw [← hg j hj]; exact hv))
 obtain ⟨q, hq, hQ⟩ := idx_g l h0
 rw [hq] at hx
 have HX := Lib.hid hx
 have HB := Lib.hid hB
 have HQ := Lib.hid hQ
 clear hx hc hp1 hq hg hB hQ
 have h0z : (0 : Int) < (l.length : Int) := by omega
 go_enter Try.func44, Try.ntmps44
 go_upto_region 1 with fail
 rw [← hw1]
 clear hw1
 go_wp2_with (fail)
 refine HX.out.mono ?_
 rintro e w2 ⟨rfl, hb⟩
 have hbx2 := (hb.cell (p := ⟨w.heap.size, 0, none⟩) (block_lt_of_cell hbx)).trans hbx
 have HB2 := Lib.hid (Below.next HB.out hb)
 clear hb hbx HX HB
 rcases HQ.out with ⟨hq, hG⟩ | ⟨hq, hG, hql⟩
 · have HG := Lib.hid hG
   clear hG HQ
   go_wp2_with (fail)
   go_ret
   exact ⟨l.length, rfl, HG.out, HB2.out⟩
 · have hq2 : ¬ q < 0 := by omega
   have HG := Lib.hid hG
   have HQL := Lib.hid hql
   have HQ0 := Lib.hid hq
   clear hG HQ hql hq
   go_wp2_with (fail)
   go_ret
   exact ⟨q.toNat, by rw [Int.toNat_of_nonneg HQ0.out]; rfl, HG.out, HB2.out⟩
end Go.Proofs.Ytamhfjlffacakaa.Pr
namespace Go.Proofs.Ytamhfjlffacakaa.Pr
open Go.ChangeShapes Go.WideShapes Go.ChangeAt Go.RowKit Go.Sort Go.Proofs Ov Va St
theorem wp_append_part {w : World} {ops : Array Oper} {rest : List Oper} {o : Oper} {a : Act} {Q : Exit → Act → World → Prop} (hgd : o.guard = none) (s x : Operand)
 (ho : o.op = .call { callee := .builtin .append, args := #[s, x], argTypes := #[22, 22] }) (base : Nat) (v : Value) (l : List Pr) (hs : a.eval s = v) (hown : w.ownsRow base 35 6 v l.length (pcells l))
 (q : Part) (hq : PIn w q) (hx : a.eval x = pv q) (h63 : l.length + q.2.2.length ≤ 1000000) (hbase : base ≤ w.heap.size)
 (h : ∀ v' w', w'.ownsRow base 35 6 v' (l ++ q.2.2).length (pcells (l ++ q.2.2)) → w.grownBy w' v.ownBlock → wpList Try.prog ops Q rest (a.put o.dst v') w') : wpList Try.prog ops Q (o :: rest) a w := by
 obtain ⟨i0, hi0, hi1, hi2, hi3⟩ := info_parts infoP
 obtain ⟨A, c, m⟩ := q
 dsimp only at h h63
 cases A with
 | none =>
   obtain ⟨e1, e2⟩ := hq.2 rfl
   dsimp only at e1 e2
   subst e1; subst e2
   refine wpList_append_own_none hgd s x 22 ho base 35 i0 6 Try.underlying22 hi0 v l.length (pcells l) hs hown hx (h v w ?_ ⟨rfl, rfl, rfl, Nat.le_refl _, fun _ _ _ => rfl⟩)
   rw [List.append_nil]; exact hown
 | some ad =>
   refine wpList_append_own w hgd s x 22 ho base 35 i0 (.agg (pcl pz).toArray) 6 64 Try.underlying22 hi0 hi1 hi2 hi3 rfl (by decide) v l.length (pcells l) hs hown ad m.length c (pcells m) hx (pcells_len m) ?_ (pcells_one m) (by unfold maxLen; omega) (by omega) hbase ?_
   · intro t u ht
     have hlt' : t < m.length * 6 := by have := (List.getElem?_eq_some_iff.1 ht).1; rwa [pcells_len] at this
     obtain ⟨G, O', e, hcc⟩ := hq.1 (show 0 < m.length by omega)
     dsimp only at e hcc
     obtain rfl := Option.some.inj e
     have e1 : t = t / 6 * 6 + t % 6 := by omega
     rw [e1, pcells_at m _ _ (by omega) (Nat.mod_lt _ (by omega))] at ht
     have := hcc (t / 6) (t % 6) u (by omega) ht
     rw [Addr.add_lit, e1, ← Nat.add_assoc]
     exact this
   · intro v' w' h1 h2 _
     refine h v' w' ?_ h2
     rw [List.length_append, pcells_append]; exact h1
theorem own_pin {w : World} {base : Nat} {v : Value} {l : List Pr} (h : w.ownsRow base 35 6 v l.length (pcells l)) : ∃ A c, v = .slice A l.length c ∧ PIn w (A, c, l) := by
 obtain ⟨A, c, rfl, hn⟩ := slice_of h
 rcases h.2 with ⟨e1, e2⟩ | ⟨g, cap, cur, e1, hg, _⟩
 · injection e1 with e1 _ e3
   subst e1; subst e3
   obtain rfl : l = [] := List.length_eq_zero_iff.1 e2
   exact ⟨none, 0, rfl, Prs.nil _ _, fun _ => ⟨rfl, rfl⟩⟩
 · injection e1 with e1 _ e3
   subst e1; subst e3
   obtain ⟨h1, h2, h3⟩ := holds_of_own (l := l) h rfl
   exact ⟨_, c, rfl, OwnL.prs (B := base) (.inr ⟨g, rfl, h1, h2, h3⟩), fun h => nomatch h⟩
theorem lls_made (w : World) (qs : List Part) (t : TypeId) (h : ∀ i, i < qs.length → PIn w (qs[i]?.getD default)) : Lls (w.alloc (.cells (qs.map pv).toArray t)) (some ⟨w.heap.size, 0, none⟩) qs :=
 ⟨w.heap.size, 0, rfl, fun i hi => by
  have := (Blk.made w t (qs.map pv) rfl).c i (pv (qs[i]?.getD default)) (by simp [hi])
  rwa [Nat.zero_add], fun i hi => (h i hi).next (box1 w _)⟩
end Go.Proofs.Ytamhfjlffacakaa.Pr
namespace Go.Proofs.Ytamhfjlffacakaa.So
open Go.ChangeShapes Go.WideShapes Go.ChangeAt Go.RowKit Go.Sort Go.Proofs Ov Va St Pr
def JS (hb lo n : Nat) (v : Value) (sl : Nat → Value) (lt : Nat → Nat → Bool) (f : Nat → Nat) (w : World) (a' : Act) (w' : World) : Prop := ∃ (a : Nat) (g : Nat → Nat) (u3 u4 u5 u6 u7 u8 u9 u10 u11 u12 u13 u14 u15 u16 u17 u18 u19 u20 u21 u22 u23 u24 u25 u26 u27 u28 u29 u30 u31 u32 u33 u34 u35 u36 u37 u38 u39 u40 u41 u42 u43 u44 u45 u46 u47 u48 u49 u50 u51 u52 u53 u54 u55 u56 u57 u58 u59 u60 u61 u62 u63 u64 u65 u66 u67 u68 u69 u70 u71 u72 u73 u74 u1 : Value),
 (a < n ∨ a = 0) ∧ HM w' hb lo v sl g n ∧ Dn lt g n a ∧ (∀ x, In g n x ↔ In f n x) ∧ (Inj f n → Inj g n) ∧ Kp (hO hb v) w w' ∧
 a' = { tmps := #[.pointer (some ⟨hb, 0, none⟩), u1, .int .i64 a, u3, u4, u5, u6, u7, u8, u9, u10, u11, u12, u13, u14, u15, u16, u17, u18, u19, u20, u21, u22, u23, u24, u25, u26, u27, u28, u29, u30, u31, u32, u33, u34, u35, u36, u37, u38, u39, u40, u41, u42, u43, u44, u45, u46, u47, u48, u49, u50, u51, u52, u53, u54, u55, u56, u57, u58, u59, u60, u61, u62, u63, u64, u65, u66, u67, u68, u69, u70, u71, u72, u73, u74], defers := [] }
def muS (n : Nat) (a' : Act) (_ : World) : Nat := n - (intOf (a'.tmps.getD 2 undef)).toNat
def Fst (lt : Nat → Nat → Bool) (g : Nat → Nat) (n a b f1 : Nat) : Prop :=
 (f1 = a ∨ ((f1 - 1) / 2 = a ∧ 0 < f1 ∧ f1 < n)) ∧ (f1 ≠ a → lt (g a) (g f1) = false) ∧ ∀ i, 0 < i → i < n → i < b → (i - 1) / 2 = a → lt (g i) (g f1) = false
theorem fst_start (lt : Nat → Nat → Bool) (g : Nat → Nat) (n a : Nat) : Fst lt g n a (2 * a + 1) a := ⟨.inl rfl, fun h => absurd rfl h, fun i h0 _ hi hp => by omega⟩
theorem fst_keep {lt : Nat → Nat → Bool} {g : Nat → Nat} {n a b f1 : Nat} (h : Fst lt g n a b f1) (hl : lt (g b) (g f1) = false) : Fst lt g n a (b + 1) f1 :=
 ⟨h.1, h.2.1, fun i h0 hn hi hp => by
  by_cases e : i = b
  · subst e; exact hl
  · exact h.2.2 i h0 hn (by omega) hp⟩
theorem fst_turn {lt : Nat → Nat → Bool} (w : SWO lt) {g : Nat → Nat} {n a b f1 : Nat} (h : Fst lt g n a b f1) (hb : b < n) (h0 : 2 * a + 1 ≤ b) (h2 : b ≤ 2 * a + 2) (hl : lt (g b) (g f1) = true) : Fst lt g n a (b + 1) b := by
 have hasy := w.asymmA hl
 refine ⟨.inr ⟨by omega, by omega, hb⟩, fun _ => ?_, fun i i0 hn hi hp => ?_⟩
 · by_cases e : f1 = a
   · rw [e] at hasy; exact hasy
   · exact w.ntrans _ _ _ (h.2.1 e) hasy
 · by_cases e : i = b
   · subst e; exact w.irrefl _
   · exact w.ntrans _ _ _ (h.2.2 i i0 hn (by omega) hp) hasy
def SinkQ (hb lo n : Nat) (v : Value) (sl : Nat → Value) (lt : Nat → Nat → Bool) (f : Nat → Nat) (w : World) (e : Ending) (w' : World) : Prop :=
 e = .returned (.tuple #[]) ∧ ∃ g, HM w' hb lo v sl g n ∧ Hp lt g n ∧ (∀ x, In g n x ↔ In f n x) ∧ (Inj f n → Inj g n) ∧ Kp (hO hb v) w w'
set_option maxRecDepth 100000 in
set_option maxHeartbeats 4000000 in
theorem sink_any (hb lo n : Nat) (A : Option Addr) (c : Nat) (sl : Nat → Value) (f : Nat → Nat) (lt : Nat → Nat → Bool) (R : World → Prop) (Q : Nat → Prop) (w : World) (hm : HM w hb lo (.slice A n c) sl f n) (hn : n ≤ 1000000) (hp : Dn lt f n 0)
 (hR : R w) (ho : Ord lo R Q sl lt) (hQ : ∀ i, i < n → Q (f i)) (hlo : lo ≤ w.heap.size) :
 Calls Try.prog 61 #[.pointer (some ⟨hb, 0, none⟩)] w (SinkQ hb lo n (.slice A n c) sl lt f w) := by
 have HM0 := Lib.hid hm; have HP := Lib.hid hp; have HR := Lib.hid hR; have HO := Lib.hid ho; have HQ := Lib.hid hQ
 clear hm hp hR ho hQ
 go_enter Try.func61, Try.ntmps61
 go_wp2_with (fail)
 refine wp_scope_once 0 (JS hb lo n (.slice A n c) sl lt f w) (muS n) rfl (fun NX => ?_) ?_
 · go_wp2_with (fail)
   go_step3
   rename_i hK1 hK2
   exact hK2 _ _ (NX.out _ _ ⟨0, f, _, _, _, _, _, _, _, _, _, _, _, _, _, _, _, _, _, _, _, _, _, _, _, _, _, _, _, _, _, _, _, _, _, _, _, _, _, _, _, _, _, _, _, _, _, _, _, _, _, _, _, _, _, _, _, _, _, _, _, _, _, _, _, _, _, _, _, _, _, _, _, _, _, .inr rfl, HM0.out, HP.out, fun _ => Iff.rfl, fun h => h, Kp.refl _ _, rfl⟩)
 · rintro a' w' ⟨a, g, u3, u4, u5, u6, u7, u8, u9, u10, u11, u12, u13, u14, u15, u16, u17, u18, u19, u20, u21, u22, u23, u24, u25, u26, u27, u28, u29, u30, u31, u32, u33, u34, u35, u36, u37, u38, u39, u40, u41, u42, u43, u44, u45, u46, u47, u48, u49, u50, u51, u52, u53, u54, u55, u56, u57, u58, u59, u60, u61, u62, u63, u64, u65, u66, u67, u68, u69, u70, u71, u72, u73, u74, u1, ha, hm, hu, hin, hinj, hk, rfl⟩
   have HM' := Lib.hid hm; have HU := Lib.hid hu; have HIN := Lib.hid hin; have HINJ := Lib.hid hinj; have HK := Lib.hid hk
   clear hm hu hin hinj hk
   have HMU : Hid (muS n { tmps := #[.pointer (some ⟨hb, 0, none⟩), u1, .int .i64 a, u3, u4, u5, u6, u7, u8, u9, u10, u11, u12, u13, u14, u15, u16, u17, u18, u19, u20, u21, u22, u23, u24, u25, u26, u27, u28, u29, u30, u31, u32, u33, u34, u35, u36, u37, u38, u39, u40, u41, u42, u43, u44, u45, u46, u47, u48, u49, u50, u51, u52, u53, u54, u55, u56, u57, u58, u59, u60, u61, u62, u63, u64, u65, u66, u67, u68, u69, u70, u71, u72, u73, u74], defers := [] } w' = n - a) := by
    show muS _ _ _ = _
    rfl
   have HR' := Lib.hid (HO.out.keep _ _ HR.out (HK.out.below HM0.out.low hlo))
   have HLO' := Lib.hid (Nat.le_trans hlo HK.out.size)
   have ha1 : a ≤ 1000000 := by omega
   have HQG : Hid (∀ i, i < n → Q (g i)) := fun i hi => by
    obtain ⟨j, hj, e⟩ := (HIN.out (g i)).1 ⟨i, hi, rfl⟩
    rw [← e]; exact HQ.out j hj
   go_wp2_with (fail)
   go_loopg [3, 4] (2 * a + 3) (fun kx s3 s4 wr => ∃ (f1 b : Nat), 2 * a + 1 ≤ b ∧ b ≤ 2 * a + 3 ∧ 2 * a + 3 - b ≤ kx ∧ s3 = .int .i64 f1 ∧ s4 = .int .i64 b ∧ (f1 < n ∨ f1 = 0) ∧ Hid (Fst lt g n a b f1) ∧ Hid (Below w'.heap.size w' wr))
   case atStart => exact ⟨a, 2 * a + 1, Nat.le_refl _, by omega, by omega, rfl, by go_num, ha, fst_start lt g n a, Below.refl _ _⟩
   case round =>
    obtain ⟨f1, b, hb1, hb2, hkx, rfl, rfl, hf1, HF, HB⟩ := hrel
    have hm := HM'.out.next HB.out
    have c0 := hm.h.c 0 _ rfl
    by_cases hin : b ≤ 2 * a + 2 ∧ b < n
    · obtain ⟨hb3, hbn⟩ := hin
      have hb3z : (b : Int) ≤ 2 * (a : Int) + 2 := by omega
      have hbnz : (b : Int) < (n : Int) := by omega
      have hfn : f1 < n := by omega
      have hfnz : (f1 : Int) < (n : Int) := by omega
      obtain ⟨gb, c', e, _, _, _⟩ := hm.shape (by omega)
      injection e with e1 e2 e3
      subst e1; subst e3
      have a0 := fun q : Over wr => over_cell q c0
      have a1 := fun q : Over wr => over_cell q (hm.h.c 1 _ rfl)
      have b0 := fun q : Over wr => over_cell q (hm.cells hbn).1
      have b1 := fun q : Over wr => over_cell q (hm.cells hbn).2.1
      have d0 := fun q : Over wr => over_cell q (hm.cells hfn).1
      have d1 := fun q : Over wr => over_cell q (hm.cells hfn).2.1
      have HC := Lib.hid (fun q : Over wr => HO.out.call (g b) (g f1) q.val (HQG.out b hbn) (HQG.out f1 hfn) (HO.out.keep _ _ HR'.out (((Below.next HB.out q.property)).mono HLO'.out)))
      clear hm
      cases hlt : lt (g b) (g f1) with
      | false =>
        rw [hlt] at HC
        have HL := Lib.hid hlt; clear hlt
        go_upto_region 5 with fail
        refine wp_over (by kernel_rfl) (by kernel_rfl) ?_
        repeat (go_big_quiet_step (first | fail | with_reducible exact over_gives _ (HC.out _)))
        refine wpQuiet_nil ?_
        rintro w2 ⟨⟨w2, hb2⟩, rfl⟩
        have HB2 := Lib.hid (Below.next HB.out hb2)
        clear a0 a1 b0 b1 d0 d1 hb2 c0 HC HB
        go_wp2_with (fail)
        go_roundg (2 * a + 3 - (b + 1))
        case measure => omega
        case rel => exact ⟨f1, b + 1, by omega, by omega, Nat.le_refl _, rfl, by go_num, hf1, fst_keep HF.out HL.out, HB2⟩
      | true =>
        rw [hlt] at HC
        have HL := Lib.hid hlt; clear hlt
        go_upto_region 5 with fail
        refine wp_over (by kernel_rfl) (by kernel_rfl) ?_
        repeat (go_big_quiet_step (first | fail | with_reducible exact over_gives _ (HC.out _)))
        refine wpQuiet_nil ?_
        rintro w2 ⟨⟨w2, hb2⟩, rfl⟩
        have HB2 := Lib.hid (Below.next HB.out hb2)
        clear a0 a1 b0 b1 d0 d1 hb2 c0 HC HB
        go_wp2_with (fail)
        go_roundg (2 * a + 3 - (b + 1))
        case measure => omega
        case rel => exact ⟨b, b + 1, by omega, by omega, Nat.le_refl _, rfl, by go_num, .inl hbn, fst_turn HO.out.swo HF.out hbn hb1 hb3 HL.out, HB2⟩
    · have HALL : Hid (∀ i, 0 < i → i < n → (i - 1) / 2 = a → lt (g i) (g f1) = false) := fun i i0 hi hp => HF.out.2.2 i i0 hi (by omega) hp
      have HK2 := Lib.hid (HK.out.next HB.out)
      have HM2 := Lib.hid hm
      clear hm
      by_cases hb3 : b ≤ 2 * a + 2
      case' pos =>
       have hbnz : ¬ (b : Int) < (n : Int) := by omega
       have hb3z : (b : Int) ≤ 2 * (a : Int) + 2 := by omega
      case' neg =>
       have hb3z : ¬ (b : Int) ≤ 2 * (a : Int) + 2 := by omega
      all_goals
       clear hin hb3 hkx
       by_cases hfa : f1 = a
       · subst hfa
         have hbne : ((f1 : Int) != (f1 : Int)) = false := by simp
         go_wp2_with (fail)
         simp only [Exit.jump]
         go_end0
         exact ⟨rfl, g, HM2.out, dn_done HU.out HALL.out, HIN.out, HINJ.out, HK2.out⟩
       · have hbne : ((f1 : Int) != (a : Int)) = true := by simp; omega
         have hF := HF.out.1
         have hpar : (f1 - 1) / 2 = a ∧ 0 < f1 ∧ f1 < n := by
          rcases hF with h | h
          · exact absurd h hfa
          · exact h
         have hfn := hpar.2.2
         have han : a < n := by omega
         have haf : a < f1 := by omega
         have HDN := Lib.hid (dn_step HU.out hfn hpar.1 hpar.2.1 (HF.out.2.1 hfa) HALL.out)
         clear hF hpar hfa
         go_upto_region 8 with fail
         have hm2 := HM2.out
         obtain ⟨gb, c', e, hgb, _, _⟩ := hm2.shape (by omega)
         injection e with e1 e2 e3
         subst e1; subst e3
         have HSW := Lib.hid (hm2.sw han hfn)
         have c0 := hm2.h.c 0 _ rfl
         obtain ⟨b0, b1, b2, b3⟩ := hm2.cells han
         obtain ⟨d0, d1, d2, d3⟩ := hm2.cells hfn
         have e1 : ¬ a * 2 = f1 * 2 := by omega
         have e2 : ¬ a * 2 = f1 * 2 + 1 := by omega
         have e3 : ¬ a * 2 + 1 = f1 * 2 := by omega
         have e4 : ¬ a * 2 + 1 = f1 * 2 + 1 := by omega
         have e5 : ¬ f1 * 2 = a * 2 := by omega
         have e6 : ¬ f1 * 2 = a * 2 + 1 := by omega
         have e7 : ¬ f1 * 2 + 1 = a * 2 := by omega
         have e8 : ¬ f1 * 2 + 1 = a * 2 + 1 := by omega
         clear hm2
         have HKK := Lib.hid fun (W : World) (x0 x1 x2 x3 : Value) => ((((((Kp.refl (hO hb (.slice (some ⟨gb, 0, none⟩) n c)) W).setCell (b := gb) (.inr rfl) (a * 2) x0).setCell (b := gb) (.inr rfl) (a * 2 + 1) x1).setCell (b := gb) (.inr rfl) (f1 * 2) x2).setCell (b := gb) (.inr rfl) (f1 * 2 + 1) x3).drewN 1)
         obtain ⟨A1, n1, c1, hs1⟩ := HO.out.one (g a)
         obtain ⟨A2, n2, c2, hs2⟩ := HO.out.one (g f1)
         rw [hs1] at b1
         rw [hs2] at d1
         rw [hs1, hs2] at HSW
         clear hs1 hs2
         have hfz : (f1 : Int) < (n : Int) := by omega
         have haz : (a : Int) < (n : Int) := by omega
         go_region
         have HS2 := Lib.hid (HSW.out.next (below_drewN (Below.refl _ _) 1))
         have HK3 := Lib.hid (HK2.out.trans (HKK.out wr (.int .i64 (g f1)) (.slice A2 n2 c2) (.int .i64 (g a)) (.slice A1 n1 c1)) fun b e => .inl e)
         clear b0 b1 b2 b3 d0 d1 d2 d3 c0 HKK HSW HK2
         generalize ((((wr.setCell ⟨gb, a * 2, none⟩ (.int .i64 (g f1))).setCell ⟨gb, a * 2 + 1, none⟩ (.slice A2 n2 c2)).setCell ⟨gb, f1 * 2, none⟩ (.int .i64 (g a))).setCell ⟨gb, f1 * 2 + 1, none⟩ (.slice A1 n1 c1)) = w3 at *
         go_wp2_with (fail)
         go_step3
         refine ⟨rfl, ⟨f1, sw g a f1, _, _, _, _, _, _, _, _, _, _, _, _, _, _, _, _, _, _, _, _, _, _, _, _, _, _, _, _, _, _, _, _, _, _, _, _, _, _, _, _, _, _, _, _, _, _, _, _, _, _, _, _, _, _, _, _, _, _, _, _, _, _, _, _, _, _, _, _, _, _, _, _, _, .inl hfn, HS2.out, HDN.out, fun x => (sw_in han hfn x).trans (HIN.out x), fun h1 => sw_inj han hfn (HINJ.out h1), HK3.out, rfl⟩, ?_⟩
         refine Nat.lt_of_lt_of_eq ?_ HMU.out.symm
         show muS n _ _ < n - a
         unfold muS
         simp [intOf]
         omega
theorem _root_.Go.Proofs.Ytamhfjlffacakaa.Ov.Kp.setCell0 {O : Nat → Prop} {w w' : World} (h : Kp O w w') {b : Nat} (hb : w.heap.size ≤ b) (j : Nat) (v : Value) : Kp O w (w'.setCell ⟨b, j, none⟩ v) :=
 h.trans (O' := fun k => k = b) ⟨rfl, rfl, rfl, by simp [World.setCell], fun k _ hk => Below.heap_setCell _ _ _ _ hk⟩ fun k e => .inr (by subst e; exact hb)
theorem HM.pop {w : World} {hb lo n g c : Nat} {s : Nat → Value} {f : Nat → Nat} (h : HM w hb lo (.slice (some ⟨g, 0, none⟩) (n + 1) c) s f (n + 1)) :
 HM (w.setCell ⟨hb, 0, none⟩ (.slice (some ⟨g, 0, none⟩) n c)) hb lo (.slice (some ⟨g, 0, none⟩) n c) s f n := by
 refine ⟨h.h.set 0 _, own_kp (O := fun b => b = hb) ?_ ((Kp.refl (fun b => b = hb) w).setCell (b := hb) rfl 0 _) fun b e hbb => h.ne (by rw [← hbb]; exact e), h.lo, h.ne⟩
 refine ⟨ics_len _ _ _, ?_⟩
 rcases h.o.2 with ⟨e, _⟩ | ⟨g', cap, cur, e, hg, hc, hn, hm, hs, ht⟩
 · cases e
 · injection e with e1 e2 e3
   injection e1 with e1
   injection e1 with e1
   subst e1; subst e3
   refine .inr ⟨g, c, cur, rfl, hg, hc, by omega, hm, hs, ?_⟩
   rw [← ics_take s f (n + 1) n (by omega), ← ht, List.take_take, Nat.min_eq_left (by omega)]
set_option maxRecDepth 100000 in
set_option maxHeartbeats 2000000 in
theorem take_none (hb lo : Nat) (v : Value) (sl : Nat → Value) (f : Nat → Nat) (w : World) (hm : HM w hb lo v sl f 0) :
 Calls Try.prog 40 #[.pointer (some ⟨hb, 0, none⟩)] w (Gives (.tuple #[.agg #[.int .i64 0, .slice none 0 0], .bool false]) w) := by
 have hv : ∃ A c, v = .slice A 0 c := by
  rcases hm.o.2 with ⟨rfl, _⟩ | ⟨g, cap, cur, rfl, _⟩
  · exact ⟨none, 0, rfl⟩
  · exact ⟨_, cap, rfl⟩
 obtain ⟨A, c, rfl⟩ := hv
 have HB := Lib.hid (box2 w (.cells #[.int .i64 0, .slice none 0 0] 78) (.cells #[.int .i64 0, .slice none 0 0] 78))
 have HA := Lib.hid ((Blk.made w 78 [.int .i64 0, .slice none 0 0] rfl).old (.cells #[.int .i64 0, .slice none 0 0] 78))
 have HC := Lib.hid (Blk.made (w.alloc (.cells #[.int .i64 0, .slice none 0 0] 78)) 78 [.int .i64 0, .slice none 0 0] (World.size_alloc _ _))
 have h0 := (hm.next HB.out).h.c 0 _ rfl
 go_enter Try.func40, Try.ntmps40
 go_wp2_with (fail)
 have c0 := HA.out.c 0 _ rfl
 have c1 := HA.out.c 1 _ rfl
 refine bodyPost_ret (v := .tuple #[.agg #[.int .i64 0, .slice none 0 0], .bool false]) (by simp [results, Try.results40, go_sem, c0, c1]) rfl ⟨rfl, HB.out⟩
def TakeQ (hb lo n : Nat) (v : Value) (sl : Nat → Value) (lt : Nat → Nat → Bool) (f : Nat → Nat) (w : World) (e : Ending) (w' : World) : Prop :=
 e = .returned (.tuple #[.agg #[.int .i64 (f 0), sl (f 0)], .bool true]) ∧ ∃ v' g, HM w' hb lo v' sl g n ∧ Hp lt g n ∧ (Inj f (n + 1) → (∀ x, In g n x ↔ In f (n + 1) x ∧ x ≠ f 0) ∧ Inj g n) ∧ Kp (hO hb v) w w' ∧ v'.ownBlock = v.ownBlock
set_option maxRecDepth 100000 in
set_option maxHeartbeats 4000000 in
theorem take_any (hb lo n : Nat) (v : Value) (sl : Nat → Value) (f : Nat → Nat) (lt : Nat → Nat → Bool) (R : World → Prop) (Q : Nat → Prop) (w : World) (hm : HM w hb lo v sl f (n + 1)) (hn : n + 1 ≤ 1000000) (hp : Hp lt f (n + 1))
 (hR : R w) (ho : Ord lo R Q sl lt) (hQ : ∀ i, i < n + 1 → Q (f i)) (hlo : lo ≤ w.heap.size) :
 Calls Try.prog 40 #[.pointer (some ⟨hb, 0, none⟩)] w (TakeQ hb lo n v sl lt f w) := by
 obtain ⟨gb, c, rfl, hgb, hglo, hnc⟩ := hm.shape (Nat.succ_pos n)
 obtain ⟨A0, n0, c0, hs0⟩ := ho.one (f 0)
 obtain ⟨A1, n1', c1, hs1⟩ := ho.one (f n)
 have HM0 := Lib.hid hm; have HP := Lib.hid hp; have HR := Lib.hid hR; have HO := Lib.hid ho; have HQ := Lib.hid hQ
 clear hm hp hR ho hQ
 have HB := Lib.hid (box2 w (.cells #[.int .i64 0, .slice none 0 0] 78) (.cells #[.int .i64 0, .slice none 0 0] 78))
 have HA := Lib.hid ((Blk.made w 78 [.int .i64 0, .slice none 0 0] rfl).old (.cells #[.int .i64 0, .slice none 0 0] 78))
 have HC := Lib.hid (Blk.made (w.alloc (.cells #[.int .i64 0, .slice none 0 0] 78)) 78 [.int .i64 0, .slice none 0 0] (World.size_alloc _ _))
 have HM1 := Lib.hid (HM0.out.next HB.out)
 have hh := HM0.out.h.lt
 have hg := HM0.out.old gb (.inr rfl)
 go_enter Try.func40, Try.ntmps40
 go_upto_region 2 with fail
 generalize (w.alloc (.cells #[.int .i64 0, .slice none 0 0] 78)).alloc (.cells #[.int .i64 0, .slice none 0 0] 78) = w0 at *
 have k0 := HM1.out.h.c 0 _ rfl
 go_wp2_with (fail)
 obtain ⟨b0, b1, b2, b3⟩ := HM1.out.cells (i := 0) (Nat.succ_pos n)
 obtain ⟨d0, d1, d2, d3⟩ := HM1.out.cells (i := n) (Nat.lt_succ_self n)
 rw [hs0] at b1
 rw [hs1] at d1
 rw [Nat.zero_mul] at b0 b1 b2 b3
 rw [Nat.zero_add] at b1 b3
 have x0 := HC.out.c 0 _ rfl; have x1 := HC.out.c 1 _ rfl; have y0 := HC.out.f 0 _ rfl; have y1 := HC.out.f 1 _ rfl
 have n1 : ¬ gb = w.heap.size + 1 := by omega
 have n2 : ¬ w.heap.size + 1 = gb := by omega
 have n3 : ¬ hb = w.heap.size + 1 := by omega
 have n4 : ¬ w.heap.size + 1 = hb := by omega
 have n7 : w.heap.size + 1 ≠ w.heap.size := by omega
 have n8 : gb ≠ w.heap.size := by omega
 have n5 : ¬ hb = gb := fun e => hgb e.symm
 have n6 : ¬ gb = hb := hgb
 have m1 : (0 : Int) < (n : Int) + 1 := by omega
 have m2 : (n : Int) < (n : Int) + 1 := by omega
 have HKB := Lib.hid (((((((Below.kp (hO hb (.slice (some ⟨gb, 0, none⟩) (n + 1) c)) HB.out).setCell0 (b := w.heap.size + 1) (by omega) 0 (.int .i64 (f 0))).setCell0 (b := w.heap.size + 1) (by omega) 1 (.slice A0 n0 c0)).setCell (b := gb) (.inr rfl) 0 (.int .i64 (f n))).setCell (b := gb) (.inr rfl) 1 (.slice A1 n1' c1))).drewN 1)
 have hmb := ((HM1.out.kp (O := fun b => b = w.heap.size + 1) (((Kp.refl (fun b => b = w.heap.size + 1) w0).setCell (b := w.heap.size + 1) rfl 0 (.int .i64 (f 0))).setCell (b := w.heap.size + 1) rfl 1 (.slice A0 n0 c0)) (fun b e h => by
  subst h
  rcases e with e | e
  · exact n4 e
  · have e' : some gb = some (w.heap.size + 1) := e
    injection e' with e'; exact n1 e')).put (i := 0) (Nat.succ_pos n) (f n)).next (below_drewN (Below.refl _ _) 1)
 rw [hs1, Nat.zero_mul, Nat.zero_add] at hmb
 have HMB := Lib.hid hmb
 have HCB := Lib.hid (((((HC.out.set 0 (.int .i64 (f 0))).set 1 (.slice A0 n0 c0)).put n1 0 (.int .i64 (f n))).put n1 1 (.slice A1 n1' c1)).drew)
 have HAB := Lib.hid (((((HA.out.put n7 0 (.int .i64 (f 0))).put n7 1 (.slice A0 n0 c0)).put n8 0 (.int .i64 (f n))).put n8 1 (.slice A1 n1' c1)).drew)
 go_region
 clear b0 b1 b2 b3 d0 d1 d2 d3 x0 x1 y0 y1 k0 HM1 HB HA HC hmb
 generalize ((((w0.setCell ⟨w.heap.size + 1, 0, none⟩ (.int .i64 (f 0))).setCell ⟨w.heap.size + 1, 1, none⟩ (.slice A0 n0 c0)).setCell ⟨gb, 0, none⟩ (.int .i64 (f n))).setCell ⟨gb, 1, none⟩ (.slice A1 n1' c1)) = w9 at *
 have e9 : w9.drewN 1 = w9.drew := rfl
 rw [e9] at HMB HKB
 clear e9
 generalize w9.drew = w1 at *
 have k0 := HMB.out.h.c 0 _ rfl
 have k1 := HMB.out.h.f 0 _ rfl
 have hnc' : (n : Int) ≤ (c : Int) := by omega
 have HMC := Lib.hid HMB.out.pop
 have HKC := Lib.hid (HKB.out.setCell (b := hb) (.inl rfl) 0 (.slice (some ⟨gb, 0, none⟩) n c))
 have HCC := Lib.hid (HCB.out.put n3 0 (.slice (some ⟨gb, 0, none⟩) n c))
 have HAC := Lib.hid (HAB.out.put (c := hb) (by omega) 0 (.slice (some ⟨gb, 0, none⟩) n c))
 clear HMB HKB HCB HAB
 go_upto_region 7 with fail
 generalize w1.setCell ⟨hb, 0, none⟩ (.slice (some ⟨gb, 0, none⟩) n c) = w2 at *
 have HFQ : Hid (∀ i, i < n → Q (if i = 0 then f n else f i)) := fun i hi => by
  split
  · exact HQ.out n (Nat.lt_succ_self n)
  · exact HQ.out i (by omega)
 have hsk := sink_any hb lo n (some ⟨gb, 0, none⟩) c sl (fun k => if k = 0 then f n else f k) lt R Q w2 HMC.out (by omega) (show Dn lt (fun k => if k = 0 then f n else f k) n 0 from dn_start HP.out) (HO.out.keep _ _ HR.out (HKC.out.below HM0.out.low hlo)) HO.out HFQ.out (Nat.le_trans hlo HKC.out.size)
 go_wp2_with (fail)
 refine hsk.mono ?_
 rintro e w3 ⟨rfl, g, hm3, hp3, hin3, hinj3, hk3⟩
 have nb4 : ¬ hO hb (.slice (some ⟨gb, 0, none⟩) n c) (w.heap.size + 1) := fun e => by
  rcases e with e | e
  · exact n4 e
  · have e' : some gb = some (w.heap.size + 1) := e
    injection e' with e'; exact n1 e'
 have nb2 : ¬ hO hb (.slice (some ⟨gb, 0, none⟩) n c) w.heap.size := fun e => by
  rcases e with e | e
  · omega
  · have e' : some gb = some w.heap.size := e
    injection e' with e'; exact n8 e'
 have hc3 := HCC.out.kp hk3 nb4
 have ha3 := HAC.out.kp hk3 nb2
 have HM3 := Lib.hid (hm3.kp (O := fun b => b = w.heap.size) (((Kp.refl (fun b => b = w.heap.size) w3).setCell (b := w.heap.size) rfl 0 (.int .i64 (f 0))).setCell (b := w.heap.size) rfl 1 (.slice A0 n0 c0)) (fun b e h => by subst h; exact nb2 e))
 have HK3 := Lib.hid (((HKC.out.trans hk3 (fun b e => .inl e)).setCell0 (b := w.heap.size) (Nat.le_refl _) 0 (.int .i64 (f 0))).setCell0 (b := w.heap.size) (Nat.le_refl _) 1 (.slice A0 n0 c0))
 have ha4 := (ha3.set 0 (.int .i64 (f 0))).set 1 (.slice A0 n0 c0)
 have HP3 := Lib.hid hp3; have HIN3 := Lib.hid hin3; have HINJ3 := Lib.hid hinj3
 have x0 := hc3.c 0 _ rfl; have x1 := hc3.c 1 _ rfl
 have y0 := ha3.c 0 _ rfl; have y1 := ha3.c 1 _ rfl; have y2 := ha3.f 0 _ rfl; have y3 := ha3.f 1 _ rfl
 clear hsk hm3 hp3 hin3 hinj3 hk3 hc3 ha3 nb4 nb2 k0 k1
 go_wp2_with (fail)
 have z0 := ha4.c 0 _ rfl
 have z1 := ha4.c 1 _ rfl
 generalize (w3.setCell ⟨w.heap.size, 0, none⟩ (.int .i64 (f 0))).setCell ⟨w.heap.size, 1, none⟩ (.slice A0 n0 c0) = w4 at *
 refine bodyPost_ret (v := .tuple #[.agg #[.int .i64 (f 0), .slice A0 n0 c0], .bool true]) (by simp [results, Try.results40, go_sem, z0, z1]) rfl ⟨by rw [hs0], _, g, HM3.out, HP3.out, fun hi => ?_, HK3.out, rfl⟩
 exact ⟨fun x => (HIN3.out x).trans (drop_in hi (Nat.succ_pos n) x), HINJ3.out (drop_inj hi)⟩
def qd (qs : List Part) (i : Nat) : Part := qs[i]?.getD default
def LlN (w : World) (A : Option Addr) (qs : List Part) : Prop :=
 ∀ i, i < qs.length → ∃ B O, A = some ⟨B, O, none⟩ ∧ w.cell? ⟨B, O + i, none⟩ = some (pv (qd qs i)) ∧ PIn w (qd qs i)
theorem Lls.lln {w : World} {A : Option Addr} {qs : List Part} (h : Lls w A qs) : LlN w A qs := fun i hi => by
 obtain ⟨B, O, e, hc, hp⟩ := h
 exact ⟨B, O, e, hc i hi, hp i hi⟩
theorem LlN.next {w w' : World} {A : Option Addr} {qs : List Part} (h : LlN w A qs) (k : Below w.heap.size w w') : LlN w' A qs := fun i hi => by
 obtain ⟨B, O, e, hc, hp⟩ := h i hi
 exact ⟨B, O, e, (k.cell (block_lt_of_cell hc)).trans hc, hp.next k⟩
def rsOf (qs : List Part) : List (List Pr) := qs.map (·.2.2)
theorem rsOf_len (qs : List Part) : (rsOf qs).length = qs.length := by simp [rsOf]
theorem rn_qs (qs : List Part) (r : Nat) : rn (rsOf qs) r = (qd qs r).2.2 := by
 unfold rn rsOf qd
 rw [List.getElem?_map]
 cases qs[r]? <;> rfl
def sl (qs : List Part) (d : Nat → Nat) (r : Nat) : Value :=
 match (qd qs r).1 with
 | some ⟨B, O, none⟩ => .slice (some ⟨B, O + d r * 6, none⟩) ((qd qs r).2.2.length - d r) ((qd qs r).2.1 - d r)
 | _ => .slice none ((qd qs r).2.2.length - d r) ((qd qs r).2.1 - d r)
theorem sl_shape (qs : List Part) (d : Nat → Nat) (r : Nat) : ∃ A n c, sl qs d r = .slice A n c := by
 unfold sl
 split
 · exact ⟨_, _, _, rfl⟩
 · exact ⟨_, _, _, rfl⟩
def RL (W : World) (qs : List Part) (X : World) : Prop := ∀ r, r < qs.length → ∀ i j v, i < (qd qs r).2.2.length → (pcl (pd (qd qs r).2.2 i))[j]? = some v → ∃ B O, (qd qs r).1 = some ⟨B, O, none⟩ ∧ B < W.heap.size ∧ X.cell? ⟨B, O + i * 6 + j, none⟩ = some v
theorem RL.keep {W : World} {qs : List Part} {X Y : World} (h : RL W qs X) (k : Below W.heap.size X Y) : RL W qs Y := fun r hr i j v hi hv => by
 obtain ⟨B, O, e, hb, hc⟩ := h r hr i j v hi hv
 exact ⟨B, O, e, hb, (k.cell (p := ⟨B, O + i * 6 + j, none⟩) hb).trans hc⟩
theorem RL.of {W X : World} {A : Option Addr} {qs : List Part} (h0 : LlN W A qs) (h : LlN X A qs) : RL W qs X := fun r hr i j v hi hv => by
 obtain ⟨_, _, _, _, hp0⟩ := h0 r hr
 obtain ⟨_, _, _, _, hp⟩ := h r hr
 obtain ⟨B, O, e, hc⟩ := hp.1 (by omega)
 obtain ⟨B', O', e', hc'⟩ := hp0.1 (by omega)
 rw [e] at e'
 simp only [Option.some.injEq, Addr.mk.injEq, and_true] at e'
 obtain ⟨rfl, rfl⟩ := e'
 exact ⟨B, O, e, block_lt_of_cell (hc' i j v hi hv), hc i j v hi hv⟩
def Ok (qs : List Part) (d : Nat → Nat) (r : Nat) : Prop := r < qs.length ∧ d r < (qd qs r).2.2.length
theorem hd_qs (qs : List Part) (d : Nat → Nat) (r : Nat) : hd (rsOf qs) d r = pd (qd qs r).2.2 (d r) := by
 unfold hd pd; rw [rn_qs]
theorem sl_of {qs : List Part} {d : Nat → Nat} {r B O : Nat} (e : (qd qs r).1 = some ⟨B, O, none⟩) : sl qs d r = .slice (some ⟨B, O + d r * 6, none⟩) ((qd qs r).2.2.length - d r) ((qd qs r).2.1 - d r) := by
 unfold sl; rw [e]
theorem ord_runs (W : World) (qs : List Part) (d : Nat → Nat) : Ord W.heap.size (RL W qs) (Ok qs d) (sl qs d) (ah (rsOf qs) d) where
 swo := ah_swo _ _
 one := sl_shape qs d
 keep := fun X Y h k => h.keep k
 call := fun a b X ha hb hR => by
  obtain ⟨B, O, e, _, hc⟩ := hR a ha.1 (d a) 0 _ ha.2 rfl
  obtain ⟨B', O', e', _, hc'⟩ := hR b hb.1 (d b) 0 _ hb.2 rfl
  rw [sl_of e, sl_of e']
  have := ahead_any a b B (O + d a * 6) ((qd qs a).2.2.length - d a) ((qd qs a).2.1 - d a) B' (O' + d b * 6) ((qd qs b).2.2.length - d b) ((qd qs b).2.1 - d b) (pd (qd qs a).2.2 (d a)) (pd (qd qs b).2.2 (d b)) X hc hc' (by have := ha.2; omega) (by have := hb.2; omega)
  rw [← hd_qs, ← hd_qs] at this
  exact this
structure MM (qs : List Part) (d : Nat → Nat) (f : Nat → Nat) (n : Nat) (pre : List Pr) : Prop where
 hp : Hp (ah (rsOf qs) d) f n
 inj : Inj f n
 mem : ∀ r, In f n r ↔ Ok qs d r
 out : sr (rsOf qs).flatten = pre ++ sr (lft (rsOf qs) d qs.length)
theorem MM.ok {qs : List Part} {d f : Nat → Nat} {n : Nat} {pre : List Pr} (h : MM qs d f n pre) : ∀ i, i < n → Ok qs d (f i) := fun i hi => (h.mem _).1 ⟨i, hi, rfl⟩
theorem MM.next {qs : List Part} {d f : Nat → Nat} {n : Nat} {pre : List Pr} (h : MM qs d f (n + 1) pre) (ho : ∀ r, r < qs.length → Od (qd qs r).2.2) :
 sr (rsOf qs).flatten = (pre ++ [hd (rsOf qs) d (f 0)]) ++ sr (lft (rsOf qs) (nx d (f 0)) qs.length) := by
 have h0 := h.ok 0 (Nat.succ_pos n)
 have := next_sr (rs := rsOf qs) (d := d) (r0 := f 0) (fun r hr => by rw [rn_qs]; exact ho r (by rwa [rsOf_len] at hr)) (by rw [rsOf_len]; exact h0.1) (by rw [rn_qs]; exact h0.2)
  fun r hr hd' => by
   rw [rsOf_len] at hr; rw [rn_qs] at hd'
   obtain ⟨i, hi, e⟩ := (h.mem r).2 ⟨hr, hd'⟩
   rw [← e]
   exact hp_least (ah_swo _ _) h.hp i hi
 rw [rsOf_len] at this
 rw [h.out, this]
 simp
theorem MM.done {qs : List Part} {d f : Nat → Nat} {pre : List Pr} (h : MM qs d f 0 pre) : pre = sr (rsOf qs).flatten := by
 have e : lft (rsOf qs) d qs.length = [] := lft_none _ fun r hr => by
  rw [rn_qs]
  refine Nat.le_of_not_lt fun hl => ?_
  obtain ⟨i, hi, _⟩ := (h.mem r).2 ⟨hr, hl⟩
  exact absurd hi (Nat.not_lt_zero _)
 rw [h.out, e]
 simp [sr]
theorem MM.step {qs : List Part} {d f g g' : Nat → Nat} {n m : Nat} {pre : List Pr} (h : MM qs d f (n + 1) pre) (ho : ∀ r, r < qs.length → Od (qd qs r).2.2)
 (hg : ∀ x, In g n x ↔ In f (n + 1) x ∧ x ≠ f 0)
 (hcase : ((qd qs (f 0)).2.2.length ≤ d (f 0) + 1 ∧ m = n ∧ g' = g ∧ Hp (ah (rsOf qs) d) g n ∧ Inj g n) ∨
   (d (f 0) + 1 < (qd qs (f 0)).2.2.length ∧ m = n + 1 ∧ Hp (ah (rsOf qs) (nx d (f 0))) g' (n + 1) ∧ (∀ x, In g' (n + 1) x ↔ In g n x ∨ x = f 0) ∧ Inj g' (n + 1))) :
 MM qs (nx d (f 0)) g' m (pre ++ [hd (rsOf qs) d (f 0)]) := by
 have hne : ∀ r, r ≠ f 0 → nx d (f 0) r = d r := fun r hr => by unfold nx; rw [if_neg hr]
 have heq : nx d (f 0) (f 0) = d (f 0) + 1 := by unfold nx; rw [if_pos rfl]
 have h0 := h.ok 0 (Nat.succ_pos n)
 have hmem : ∀ r, In g n r ↔ (Ok qs d r ∧ r ≠ f 0) := fun r => by rw [hg r, h.mem r]
 rcases hcase with ⟨hl, rfl, rfl, hp, hi⟩ | ⟨hl, rfl, hp, hin, hi⟩
 · refine ⟨hp_congr hp fun i j hi hj => ah_nx _ _ _ _ _ ((hmem _).1 ⟨i, hi, rfl⟩).2 ((hmem _).1 ⟨j, hj, rfl⟩).2, hi, fun r => ?_, h.next ho⟩
   rw [hmem]
   unfold Ok
   by_cases e : r = f 0
   · subst e; rw [heq]; constructor
     · rintro ⟨_, h⟩; exact absurd rfl h
     · rintro ⟨_, h⟩; omega
   · rw [hne r e]; exact ⟨fun h => h.1, fun h => ⟨h, e⟩⟩
 · refine ⟨hp, hi, fun r => ?_, h.next ho⟩
   rw [hin, hmem]
   unfold Ok
   by_cases e : r = f 0
   · subst e; rw [heq]; exact ⟨fun _ => ⟨h0.1, hl⟩, fun _ => .inr rfl⟩
   · rw [hne r e]
     exact ⟨fun h => h.elim (fun h => h.1) (fun h => absurd h e), fun h => .inl ⟨h, e⟩⟩
structure M0 (qs : List Part) (f : Nat → Nat) (n i : Nat) : Prop where
 hp : Hp (ah (rsOf qs) fun _ => 0) f n
 inj : Inj f n
 mem : ∀ r, In f n r ↔ r < i ∧ 0 < (qd qs r).2.2.length
theorem M0.start (qs : List Part) (f : Nat → Nat) : M0 qs f 0 0 :=
 ⟨fun _ _ hi => absurd hi (Nat.not_lt_zero _), fun _ _ hi => absurd hi (Nat.not_lt_zero _), fun _ => ⟨fun ⟨_, hi, _⟩ => absurd hi (Nat.not_lt_zero _), fun h => absurd h.1 (Nat.not_lt_zero _)⟩⟩
theorem M0.skip {qs : List Part} {f : Nat → Nat} {n i : Nat} (h : M0 qs f n i) (hl : ¬ 0 < (qd qs i).2.2.length) : M0 qs f n (i + 1) :=
 ⟨h.hp, h.inj, fun r => (h.mem r).trans ⟨fun ⟨a, b⟩ => ⟨by omega, b⟩, fun ⟨a, b⟩ => ⟨by
  rcases Nat.lt_succ_iff_lt_or_eq.1 a with h | h
  · exact h
  · subst h; exact absurd b hl, b⟩⟩⟩
theorem M0.more {qs : List Part} {f g : Nat → Nat} {n i : Nat} (h : M0 qs f n i) (hl : 0 < (qd qs i).2.2.length) (hp : Hp (ah (rsOf qs) fun _ => 0) g (n + 1)) (hin : ∀ x, In g (n + 1) x ↔ In f n x ∨ x = i) (hi : Inj g (n + 1)) : M0 qs g (n + 1) (i + 1) :=
 ⟨hp, hi, fun r => by
  rw [hin, h.mem]
  exact ⟨fun h => h.elim (fun h => ⟨by omega, h.2⟩) (fun h => by subst h; exact ⟨Nat.lt_succ_self _, hl⟩), fun ⟨a, b⟩ => by
   rcases Nat.lt_succ_iff_lt_or_eq.1 a with h | h
   · exact .inl ⟨h, b⟩
   · exact .inr h⟩⟩
theorem M0.full {qs : List Part} {f : Nat → Nat} {n : Nat} (h : M0 qs f n qs.length) : MM qs (fun _ => 0) f n [] :=
 ⟨h.hp, h.inj, h.mem, by rw [List.nil_append, ← rsOf_len, lft_all]⟩
theorem HM.same {w w' : World} {hb lo n : Nat} {v : Value} {s : Nat → Value} {f : Nat → Nat} (h : HM w hb lo v s f n) (k : ∀ b, hO hb v b → b < w.heap.size → w'.heap[b]? = w.heap[b]?) : HM w' hb lo v s f n := by
 have hh := k hb (.inl rfl) h.h.lt
 have hlt : hb < w'.heap.size := by
  have : w.heap[hb]? = some (w.heap[hb]'h.h.lt) := Array.getElem?_eq_getElem h.h.lt
  rw [this] at hh
  exact (Array.getElem?_eq_some_iff.1 hh).1
 refine ⟨⟨fun i v e => (World.cell?_of_block (a := ⟨hb, i, none⟩) hh).trans (h.h.c i v e), fun i v e => (World.frozen?_of_block (a := ⟨hb, i, none⟩) hh).trans (h.h.f i v e), hlt⟩, ⟨h.o.1, ?_⟩, h.lo, h.ne⟩
 rcases h.o.2 with e | ⟨g, cap, cur, rfl, hg, hc, rest⟩
 · exact .inl e
 · exact .inr ⟨g, cap, cur, rfl, hg, (k g (.inr rfl) (Array.getElem?_eq_some_iff.1 hc).1).trans hc, rest⟩
theorem HM.resl {w : World} {hb lo n : Nat} {v : Value} {s s' : Nat → Value} {f : Nat → Nat} (h : HM w hb lo v s f n) (k : ∀ i, i < n → s (f i) = s' (f i)) : HM w hb lo v s' f n :=
 ⟨h.h, by rw [← ics_sl k]; exact h.o, h.lo, h.ne⟩
end Go.Proofs.Ytamhfjlffacakaa.So
namespace Go.Proofs.Ytamhfjlffacakaa.Jo
open Go.ChangeShapes Go.WideShapes Go.ChangeAt Go.RowKit Ov Ga Va
theorem rt_size {k n x y : Int} {s : ByteArray} (h : rt ⟨k, n, s.data.toList, x, y⟩ = true) : s.size ≤ 6000 :=
 Nat.le_trans (Nat.le_of_eq (Array.length_toList (xs := s.data)).symm) (Nat.le_trans (rt_len h) (by decide))
theorem text_gcd (c : ByteArray) : (c.toList == [103, 99, 100]) = decide (c.data.toList = wGcd) := by
 rw [ByteArray.toList_eq, Bool.eq_iff_iff, beq_iff_eq, decide_eq_true_iff]; rfl
theorem rfold_any (c : ByteArray) (k n x y k' n' x' y' : Int) (s s' : ByteArray) (w : World) :
 Calls Try.prog 29 #[.string c, .agg #[.int .i64 k, .int .i64 n, .string s, .int .i64 x, .int .i64 y], .agg #[.int .i64 k', .int .i64 n', .string s', .int .i64 x', .int .i64 y']] w (Gives (.tuple #[.agg #[.int .i64 (fo c.data.toList ⟨k, n, s.data.toList, x, y⟩ ⟨k', n', s'.data.toList, x', y'⟩).1.k, .int .i64 (fo c.data.toList ⟨k, n, s.data.toList, x, y⟩ ⟨k', n', s'.data.toList, x', y'⟩).1.n, .string (tx (fo c.data.toList ⟨k, n, s.data.toList, x, y⟩ ⟨k', n', s'.data.toList, x', y'⟩).1.s), .int .i64 (fo c.data.toList ⟨k, n, s.data.toList, x, y⟩ ⟨k', n', s'.data.toList, x', y'⟩).1.x, .int .i64 (fo c.data.toList ⟨k, n, s.data.toList, x, y⟩ ⟨k', n', s'.data.toList, x', y'⟩).1.y], .int .i64 (fo c.data.toList ⟨k, n, s.data.toList, x, y⟩ ⟨k', n', s'.data.toList, x', y'⟩).2]) w) := by
 have HF := rfolds_any c
 have HA := rright_val k n x y s
 have HQ := rright_val k' n' x' y' s'
 by_cases h1 : isF c.data.toList = true
 rotate_left
 · rw [fo_no (fun h => h1 h.1)]
   rw [Bool.not_eq_true] at h1
   rw [h1] at HF
   exact rf_e1 c k k' n x y n' x' y' s s' w (Lib.hid HF)
 rw [h1] at HF
 by_cases h2 : rt ⟨k, n, s.data.toList, x, y⟩ = true
 rotate_left
 · rw [fo_no (fun h => h2 h.2.1)]
   rw [Bool.not_eq_true] at h2
   rw [h2] at HA
   exact rf_e2 c k k' n x y n' x' y' s s' w (Lib.hid HF) (Lib.hid HA)
 rw [h2] at HA
 by_cases h3 : rt ⟨k', n', s'.data.toList, x', y'⟩ = true
 rotate_left
 · rw [fo_no (fun h => h3 h.2.2)]
   rw [Bool.not_eq_true] at h3
   rw [h3] at HQ
   exact rf_e3 c k k' n x y n' x' y' s s' w (Lib.hid HF) (Lib.hid HA) (Lib.hid HQ)
 rw [h3] at HQ
 rw [fo_yes ⟨h1, h2, h3⟩]
 by_cases h4 : k = k'
 rotate_left
 · rw [if_neg (fun h => h4 h.1)]
   exact rf_k c k k' n x y n' x' y' s s' w (Lib.hid HF) (Lib.hid HA) (Lib.hid HQ) h4
 subst h4
 have qs := sum_text c; have qm := text_max c; have qi := text_min c; have qg := text_gcd c
 have z1 : s.size ≤ 6000 := rt_size h2
 have z2 : s'.size ≤ 6000 := rt_size h3
 have HO := fun w => rorder_val k n x y k n' x' y' s s' w h2 h3 z1 z2
 have hc : (c.data.toList = wMax ∨ c.data.toList = wMin) → opf c.data.toList ⟨k, n, s.data.toList, x, y⟩ ⟨k, n', s'.data.toList, x', y'⟩ = if decide (ord ⟨k, n, s.data.toList, x, y⟩ ⟨k, n', s'.data.toList, x', y'⟩ < 0) = decide (c.data.toList = wMax) then ⟨k, n', s'.data.toList, x', y'⟩ else ⟨k, n, s.data.toList, x, y⟩ := fun h => by unfold opf; rw [if_pos h]
 by_cases h5 : c.data.toList = wMax
 · rw [if_pos ⟨rfl, decide_eq_true (.inl h5)⟩, hc (.inl h5)]
   rw [h5] at qs qm qg ⊢
   rcases ord_rng ⟨k, n, s.data.toList, x, y⟩ ⟨k, n', s'.data.toList, x', y'⟩ with ho | ho | ho
   · simp only [ho] at HO ⊢
     rw [if_pos (by decide)]
     simp only [tx_self]
     exact rf_maxn c k n x y n' x' y' s s' w (Lib.hid HF) (Lib.hid HA) (Lib.hid HQ) qs qm qg (Lib.hid HO)
   · have he := (ord_zero _ _).1 ho
     simp only [ho] at HO ⊢
     rw [if_neg (by decide), he]
     simp only [tx_self]
     exact rf_maxz c k n x y n' x' y' s s' w (Lib.hid HF) (Lib.hid HA) (Lib.hid HQ) qs qm qg (Lib.hid HO)
   · simp only [ho] at HO ⊢
     rw [if_neg (by decide)]
     simp only [tx_self]
     exact rf_maxp c k n x y n' x' y' s s' w (Lib.hid HF) (Lib.hid HA) (Lib.hid HQ) qs qm qg (Lib.hid HO)
 by_cases h6 : c.data.toList = wMin
 · rw [if_pos ⟨rfl, decide_eq_true (.inr (.inl h6))⟩, hc (.inr h6)]
   rw [h6] at qs qm qi qg ⊢
   rcases ord_rng ⟨k, n, s.data.toList, x, y⟩ ⟨k, n', s'.data.toList, x', y'⟩ with ho | ho | ho
   · simp only [ho] at HO ⊢
     rw [if_neg (by decide)]
     simp only [tx_self]
     exact rf_minn c k n x y n' x' y' s s' w (Lib.hid HF) (Lib.hid HA) (Lib.hid HQ) qs qm qi qg (Lib.hid HO)
   · simp only [ho] at HO ⊢
     rw [if_pos (by decide)]
     simp only [tx_self]
     exact rf_minz c k n x y n' x' y' s s' w (Lib.hid HF) (Lib.hid HA) (Lib.hid HQ) qs qm qi qg (Lib.hid HO)
   · simp only [ho] at HO ⊢
     rw [if_pos (by decide)]
     simp only [tx_self]
     exact rf_minp c k n x y n' x' y' s s' w (Lib.hid HF) (Lib.hid HA) (Lib.hid HQ) qs qm qi qg (Lib.hid HO)
 have hno : ¬ (c.data.toList = wMax ∨ c.data.toList = wMin) := fun h => h.elim h5 h6
 rw [decide_eq_false h5] at qm
 rw [decide_eq_false h6] at qi
 have hsg : c.data.toList = wSum ∨ (c.data.toList ≠ wSum ∧ c.data.toList = wGcd) := by
  rcases of_decide_eq_true h1 with h | h | h | h
  · exact .inl h
  · exact absurd h h5
  · exact absurd h h6
  · exact .inr ⟨fun e => by rw [e] at h; exact absurd h (by decide), h⟩
 rcases rt_yes h2 with hk | hk | hk
 · obtain ⟨hk, -⟩ := hk
   change k = 0 at hk
   subst hk
   rw [if_pos ⟨rfl, decide_eq_true (.inr (.inr (.inl rfl)))⟩]
   have b1 : -9007199254740992 ≤ n ∧ n ≤ 9007199254740992 := (rt_k0 h2 rfl).1
   have b2 : -9007199254740992 ≤ n' ∧ n' ≤ 9007199254740992 := (rt_k0 h3 rfl).1
   rcases hsg with h7 | ⟨h8, h7⟩
   · have e : opf c.data.toList ⟨0, n, s.data.toList, x, y⟩ ⟨0, n', s'.data.toList, x', y'⟩ = vn (rg (n + n') 9007199254740992) := by unfold opf; rw [if_neg hno, if_pos rfl, if_pos h7]
     rw [e]
     rw [h7] at qs
     exact rf_sn c n x y n' x' y' s s' w (Lib.hid HF) (Lib.hid HA) (Lib.hid HQ) qs qm qi _ _ (Lib.hid HO) (IntWalk.wrap64_in _ (by omega)) (Lib.hid fun w => rwrap_any (n + n') 9007199254740992 (by decide) (by omega) w)
   · have e : opf c.data.toList ⟨0, n, s.data.toList, x, y⟩ ⟨0, n', s'.data.toList, x', y'⟩ = vn (Int.gcd n n' : Int) := by unfold opf; rw [if_neg hno, if_pos rfl, if_neg h8]
     rw [e]
     rw [decide_eq_false h8] at qs
     rw [h7] at qg
     have m1 : max n (wrap64 (-n)) = (n.natAbs : Int) := by rw [IntWalk.wrap64_in _ (by omega)]; omega
     have m2 : max n' (wrap64 (-n')) = (n'.natAbs : Int) := by rw [IntWalk.wrap64_in _ (by omega)]; omega
     exact rf_gn c n x y n' x' y' s s' w (Lib.hid HF) (Lib.hid HA) (Lib.hid HQ) qs qm qi _ _ (Lib.hid HO) m1 m2 (Lib.hid fun w => rgcd_any n'.natAbs n.natAbs w (by omega) (by omega))
 · obtain ⟨hk, -⟩ := hk
   change k = 1 at hk
   subst hk
   rw [if_neg (fun h => by rcases of_decide_eq_true h.2 with h | h | h | h <;> first | exact h5 h | exact h6 h | exact absurd (show (1 : Int) = 0 from h) (by decide) | exact absurd (show (1 : Int) = 2 from h) (by decide))]
   rcases hsg with h7 | ⟨h8, h7⟩
   · rw [h7] at qs
     exact rf_tsum c n x y n' x' y' s s' w (Lib.hid HF) (Lib.hid HA) (Lib.hid HQ) qs
   · rw [decide_eq_false h8] at qs
     rw [h7] at qg
     exact rf_tgcd c n x y n' x' y' s s' w (Lib.hid HF) (Lib.hid HA) (Lib.hid HQ) qs qg
 · obtain ⟨hk, -⟩ := hk
   change k = 2 at hk
   subst hk
   rw [if_pos ⟨rfl, decide_eq_true (.inr (.inr (.inr rfl)))⟩]
   have g1 : rb ⟨x, y⟩ = true := (rt_k2 h2 rfl).1
   have g2 : rb ⟨x', y'⟩ = true := (rt_k2 h3 rfl).1
   rcases hsg with h7 | ⟨h8, h7⟩
   · have e : opf c.data.toList ⟨2, n, s.data.toList, x, y⟩ ⟨2, n', s'.data.toList, x', y'⟩ = vp ⟨rg (x + x') 16777216, rg (y + y') 16777216⟩ := by unfold opf; rw [if_neg hno, if_neg (show ¬ (2 : Int) = 0 by decide), if_pos h7]
     rw [e]
     rw [h7] at qs
     have b1 := rb_xy g1; have b2 := rb_xy g2
     exact rf_sp c n x y n' x' y' s s' w (Lib.hid HF) (Lib.hid HA) (Lib.hid HQ) qs qm qi _ _ _ (Lib.hid HO) (IntWalk.wrap64_in _ (by omega)) (IntWalk.wrap64_in _ (by omega)) (Lib.hid fun w => rwrap_any (x + x') 16777216 (by decide) (by omega) w) (Lib.hid fun w => rwrap_any (y + y') 16777216 (by decide) (by omega) w)
   · have e : opf c.data.toList ⟨2, n, s.data.toList, x, y⟩ ⟨2, n', s'.data.toList, x', y'⟩ = vp (Pt.cg ⟨x, y⟩ ⟨x', y'⟩) := by unfold opf; rw [if_neg hno, if_neg (show ¬ (2 : Int) = 0 by decide), if_neg h8]; rfl
     rw [e]
     rw [decide_eq_false h8] at qs
     rw [h7] at qg
     exact rf_gp c n x y n' x' y' s s' w (Lib.hid HF) (Lib.hid HA) (Lib.hid HQ) qs qm qi _ _ _ (Lib.hid HO) (Lib.hid fun w => rcommon_any g1 g2 w)
end Go.Proofs.Ytamhfjlffacakaa.Jo
namespace Go.Proofs.Ytamhfjlffacakaa.So
open Go.ChangeShapes Go.WideShapes Go.ChangeAt Go.RowKit Go.Sort Go.Shelf Go.Proofs Ov Va St Pr
def pne (p q : Pr) : Bool := !(((tx p.1).toList == (tx q.1).toList) && ((p.2.k == q.2.k) && ((p.2.n == q.2.n) && (((tx p.2.s).toList == (tx q.2.s).toList) && ((p.2.x == q.2.x) && (p.2.y == q.2.y))))))
theorem pne_iff (p q : Pr) : pne p q = false ↔ p = q := by
 unfold pne
 rw [ByteArray.toList_eq, ByteArray.toList_eq, ByteArray.toList_eq, ByteArray.toList_eq, tx_list, tx_list, tx_list, tx_list]
 obtain ⟨a, ⟨b, c, d, e, f⟩⟩ := p
 obtain ⟨a', ⟨b', c', d', e', f'⟩⟩ := q
 simp
set_option maxRecDepth 100000 in
set_option maxHeartbeats 1000000 in
theorem neq_pairs (p q : Pr) (w : World) : (binOp .neq 35 (.agg #[.string (tx p.1), .int .i64 p.2.k, .int .i64 p.2.n, .string (tx p.2.s), .int .i64 p.2.x, .int .i64 p.2.y]) (.agg #[.string (tx q.1), .int .i64 q.2.k, .int .i64 q.2.n, .string (tx q.2.s), .int .i64 q.2.x, .int .i64 q.2.y])).run Try.prog w = .ok (.bool (pne p q)) w := by
 unfold pne
 generalize tx p.1 = o
 generalize p.2.k = a
 generalize p.2.n = b
 generalize tx p.2.s = s
 generalize p.2.x = x
 generalize p.2.y = y
 generalize tx q.1 = o'
 generalize q.2.k = a'
 generalize q.2.n = b'
 generalize tx q.2.s = s'
 generalize q.2.x = x'
 generalize q.2.y = y'
 have u := Try.underlying3
 have hN : Try.prog.underlying 35 = some (.struct (Try.prog.fieldsOf 35)) := by kernel_rfl
 have hS : Try.prog.underlying 33 = some (.struct (Try.prog.fieldsOf 33)) := by kernel_rfl
 have hS2 : Try.prog.underlying 31 = some (.struct (Try.prog.fieldsOf 31)) := by kernel_rfl
 have hp0 : Try.prog.stoodInHeld 35 = false := by kernel_rfl
 have hp : Try.prog.stoodInHeld 33 = false := by kernel_rfl
 have hp2 : Try.prog.stoodInHeld 31 = false := by kernel_rfl
 have hr := fun d xs ys w => run_equalIn_struct (P := Try.prog) w d 33 xs ys hS hp
 have hq := fun d xs ys w => run_equalIn_struct (P := Try.prog) w d 31 xs ys hS2 hp2
 rw [run_neq_struct, show (10000 : Nat) = 9999 + 1 from rfl, run_equalIn_struct w 9999 35 _ _ hN hp0]
 clear hN hS hS2 hp hp0 hp2
 simp only [Program.fieldsOf, Try.underlying35, Try.underlying33, Try.underlying31] at hq hr ⊢
 go_simp
 clear hq hr u
 by_cases h0 : o.toList = o'.toList <;> by_cases h1 : a = a' <;> by_cases h2 : b = b' <;> by_cases h3 : s.toList = s'.toList <;> by_cases h4 : x = x' <;> by_cases h5 : y = y' <;> simp [h0, h1, h2, h3, h4, h5]
theorem pd_ext {a b : List Pr} (hl : a.length = b.length) (h : ∀ j, j < a.length → pd a j = pd b j) : a = b := by
 refine List.ext_getElem hl fun i h1 h2 => ?_
 have := h i h1
 rw [pd_at h1, pd_at h2] at this
 exact this
set_option maxRecDepth 100000 in
set_option maxHeartbeats 2000000 in
theorem samepairs_any (la lb : List Pr) (A B : Option Addr) (c d : Nat) (w : World) (ha : Prs w A la) (hb : Prs w B lb) (hl : la.length ≤ 4294967296) :
 Calls Try.prog 13 #[.slice A la.length c, .slice B lb.length d] w fun e w' => ∃ b, e = .returned (.bool b) ∧ (b = true ↔ la = lb) ∧ Below w.heap.size w w' := by
 have HA := Lib.hid ha; have HB := Lib.hid hb
 clear ha hb
 go_enter Try.func13, Try.ntmps13
 by_cases hlen : la.length = lb.length
 case neg =>
  have hne : ((la.length : Int) != (lb.length : Int)) = true := by simp; omega
  have hne2 : ((la.length : Int) == (lb.length : Int)) = false := beq_eq_false_iff_ne.2 (by omega)
  go_wp2_with (fail)
  go_ret
  exact ⟨false, rfl, ⟨(fun h => nomatch h), fun h => absurd (congrArg List.length h) hlen⟩, Below.refl _ _⟩
 have hne2 : ((la.length : Int) == (lb.length : Int)) = true := beq_iff_eq.2 (by omega)
 go_wp2_with (fail)
 go_loopg [5] la.length (fun kx i wr => ∃ k m : Nat, k ≤ la.length ∧ la.length - k ≤ kx ∧ i = .int .i64 (k : Int) ∧ Hid (∀ j, j < k → pd la j = pd lb j) ∧ wr = w.drewN m)
 case atStart => exact ⟨0, 0, Nat.zero_le _, by omega, rfl, (fun j hj => absurd hj (Nat.not_lt_zero _)), rfl⟩
 case round =>
  obtain ⟨k, m, hk, hkx, rfl, HE, rfl⟩ := hrel
  by_cases hlt : k < la.length
  · have hltz : (k : Int) < (la.length : Int) := by omega
    have hltz2 : (k : Int) < (lb.length : Int) := by omega
    have hlt2 : k < lb.length := by omega
    obtain ⟨G, O, rfl⟩ := HA.out.shape (by omega)
    obtain ⟨G', O', rfl⟩ := HB.out.shape (by omega)
    have hda : Prs (w.drewN m) (some ⟨G, O, none⟩) la := HA.out
    have hdb : Prs (w.drewN m) (some ⟨G', O', none⟩) lb := HB.out
    have a0 := hda.cell hlt 0 _ rfl
    have a1 := hda.cell hlt 1 _ rfl
    have a2 := hda.cell hlt 2 _ rfl
    have a3 := hda.cell hlt 3 _ rfl
    have a4 := hda.cell hlt 4 _ rfl
    have a5 := hda.cell hlt 5 _ rfl
    have b0 := hdb.cell hlt2 0 _ rfl
    have b1 := hdb.cell hlt2 1 _ rfl
    have b2 := hdb.cell hlt2 2 _ rfl
    have b3 := hdb.cell hlt2 3 _ rfl
    have b4 := hdb.cell hlt2 4 _ rfl
    have b5 := hdb.cell hlt2 5 _ rfl
    rw [Nat.add_zero] at a0 b0
    have hE := fun w => neq_pairs (pd la k) (pd lb k) w
    have HP := Lib.hid (pne_iff (pd la k) (pd lb k))
    have HS : Hid (pd la k = pd lb k → ∀ j, j < k + 1 → pd la j = pd lb j) := fun h j hj => by
     rcases Nat.lt_succ_iff_lt_or_eq.1 hj with h' | rfl
     · exact HE.out j h'
     · exact h
    have HF : Hid (la = lb → pd la k = pd lb k) := fun h => by rw [h]
    generalize pd la k = n at *
    generalize pd lb k = n' at *
    clear hda hdb
    generalize hwo : w.drewN m = wo at *
    have HWO := Lib.hid hwo; clear hwo
    cases hpn : pne n n' with
    | false =>
      rw [hpn] at hE
      go_wp2_with (fail)
      go_quiet (fail)
      go_wp2_with (fail)
      go_roundg (la.length - (k + 1))
      case measure => omega
      case rel => exact ⟨k + 1, m + _, by omega, Nat.le_refl _, by go_num, HS.out (HP.out.1 hpn), by rw [← HWO.out, World.drewN_drewN]⟩
    | true =>
      rw [hpn] at hE
      have hz : ¬ n = n' := fun h => by rw [HP.out.2 h] at hpn; cases hpn
      go_wp2_with (fail)
      go_quiet (fail)
      go_wp2_with (fail)
      go_ret
      refine ⟨false, rfl, ⟨(fun h => nomatch h), fun h => absurd (HF.out h) hz⟩, ?_⟩
      rw [← HWO.out]
      exact below_drewN (below_drewN (Below.refl _ _) m) _
  · have hltz : ¬ (k : Int) < (la.length : Int) := by omega
    obtain rfl : k = la.length := by omega
    go_wp2_with (fail)
    go_ret
    exact .inr ⟨rfl, pd_ext hlen HE.out, below_drewN (Below.refl _ _) m⟩
end Go.Proofs.Ytamhfjlffacakaa.So

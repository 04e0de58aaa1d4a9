/-
  The laws' helpers: the document's example, lists of a size that is looked at, whether two lists are the same, Ordered.
-/
import Derived.Test.YtgakcpcpfkoaiaaPrOwn
import Derived.BigQuiet
import Derived.Shelf.GgClosure.Gives
namespace Go.Proofs.Ytgakcpcpfkoaiaa.Pr
open Go.ChangeShapes Go.WideShapes Go.ChangeAt Go.RowKit Go.Sort Go.Proofs Go.Proofs.Ytgakcpcpfkoaiaa.Ov Go.Proofs.Ytgakcpcpfkoaiaa.Va Go.Proofs.Ytgakcpcpfkoaiaa.St

/-- A list laid just now. -/
theorem prs_made (w : World) (l : List Pr) (t : TypeId) : Prs (w.alloc (.cells (pcells l).toArray t)) (some ⟨w.heap.size, 0, none⟩) l := fun _ =>
  ⟨w.heap.size, 0, rfl, fun i j v hi hv => by
    have hj : j < 6 := (List.getElem?_eq_some_iff.1 hv).1
    rw [Nat.zero_add]
    exact (Blk.made w t (pcells l) rfl).c (i * 6 + j) v (by rw [pcells_at l i j hi hj]; exact hv)⟩
/-- The example's list, sorted. -/
def egl : List Pr := [([98], ⟨0, 1, [], 0, 0⟩), ([97], ⟨0, 2, [], 0, 0⟩), ([98], ⟨0, 0, [], 0, 0⟩)]
theorem egl_sr : sr egl = [([97], ⟨0, 2, [], 0, 0⟩), ([98], ⟨0, 1, [], 0, 0⟩), ([98], ⟨0, 0, [], 0, 0⟩)] := by decide
set_option maxRecDepth 100000 in
set_option maxHeartbeats 1000000 in
theorem awake_any (w : World) : Calls Try.prog 8 #[] w (Gives (.bool true) w) := by
  have hp := prs_made w egl 44
  have hs := sort_any (some ⟨w.heap.size, 0, none⟩) 3 egl (w.alloc (.cells (pcells egl).toArray 44)) ⟨hp, fun h => nomatch h⟩ (by decide) (by unfold Tx egl; decide)
  have hb := box1 w (.cells (pcells egl).toArray 44)
  rw [egl_sr] at hs
  have HS := Lib.hid hs; have HB := Lib.hid hb
  clear hs hb hp
  go_enter Try.func8, Try.ntmps8
  go_wp2_with (fail)
  refine HS.out.mono ?_
  rintro e w1 ⟨A, c, rfl, ho, _, _, hb⟩
  have hpr := ho.prs
  obtain ⟨G, O, rfl⟩ := hpr.shape (by decide)
  have c0 : w1.cell? ⟨G, O, none⟩ = some (.string ⟨#[97]⟩) := hpr.cell (i := 0) (by decide) 0 _ rfl
  have c1 : w1.cell? ⟨G, O + 8, none⟩ = some (.int .i64 1) := hpr.cell (i := 1) (by decide) 2 _ rfl
  have c2 : w1.cell? ⟨G, O + 14, none⟩ = some (.int .i64 0) := hpr.cell (i := 2) (by decide) 2 _ rfl
  have HB2 := Lib.hid (Below.next HB.out hb)
  clear hb ho hpr HB HS
  go_wp2_with (fail)
  go_ret
  exact ⟨rfl, HB2.out⟩
/-- What Small says. -/
def SmallQ (l : List Pr) (w : World) (e : Ending) (w' : World) : Prop := ∃ b : Int, e = .returned (.int .i64 b) ∧ Below w.heap.size w w' ∧ (b = 0 ∨ (b = 1 ∧ l.length ≤ 100 ∧ ∀ p ∈ l, p.1.length ≤ 10000 ∧ p.2.s.length ≤ 10000))
set_option maxRecDepth 100000 in
set_option maxHeartbeats 2000000 in
theorem small_any (A : Option Addr) (c : Nat) (l : List Pr) (w : World) (h : Prs w A l) : Calls Try.prog 9 #[.slice A l.length c] w (SmallQ l w) := by
  have HN := Lib.hid h
  clear h
  go_enter Try.func9, Try.ntmps9
  go_wp2_with (fail)
  go_loopg [3, 4] (l.length + 1) (fun kx s3 s4 wr => ∃ (j q m : Nat), j ≤ l.length ∧ j ≤ 101 ∧ q ≤ j * 200000 ∧ l.length + 1 - j ≤ kx ∧ s3 = .int .i64 q ∧ s4 = .int .i64 j ∧ wr = w.drewN m ∧
    Hid (∀ i, i < j → min (pd l i).1.length 100000 + min (pd l i).2.s.length 100000 ≤ q))
  case atStart => exact ⟨0, 0, 0, Nat.zero_le _, by omega, by omega, by omega, rfl, rfl, rfl, fun i hi => absurd hi (Nat.not_lt_zero _)⟩
  case round =>
    obtain ⟨j, q, m, hj, hj1, hq, hkx, rfl, rfl, rfl, HQ⟩ := hrel
    by_cases hlt : j < l.length ∧ j ≤ 100
    · obtain ⟨hlt, hl1⟩ := hlt
      have hltz : (j : Int) < (l.length : Int) := by omega
      have hl1z : (j : Int) ≤ 100 := by omega
      obtain ⟨G, O, rfl⟩ := HN.out.shape (by omega)
      have hd : Prs (w.drewN m) (some ⟨G, O, none⟩) l := HN.out
      have a0 := hd.cell hlt 0 _ rfl
      have a3 := hd.cell hlt 3 _ rfl
      rw [Nat.add_zero] at a0
      have HZ := Lib.hid (tx_size (pd l j).1); have HY := Lib.hid (tx_size (pd l j).2.s)
      generalize tx (pd l j).1 = s0 at *
      generalize tx (pd l j).2.s = s1 at *
      obtain ⟨z, hz, hz1⟩ : ∃ z : Nat, min ((s0.size : Nat) : Int) 100000 = (z : Int) ∧ z = min s0.size 100000 := ⟨min s0.size 100000, by omega, rfl⟩
      obtain ⟨y, hy, hy1⟩ : ∃ y : Nat, min ((s1.size : Nat) : Int) 100000 = (y : Int) ∧ y = min s1.size 100000 := ⟨min s1.size 100000, by omega, rfl⟩
      have HZ1 := Lib.hid hz1; have HY1 := Lib.hid hy1
      have hz2 : z ≤ 100000 := by omega
      have hy2 : y ≤ 100000 := by omega
      clear hz1 hy1 hd
      generalize hwo : w.drewN m = wo at *
      have HWO := Lib.hid hwo; clear hwo
      go_wp2_with (fail)
      go_quiet (fail)
      go_wp2_with (fail)
      go_roundg (l.length + 1 - (j + 1))
      case measure => omega
      case rel => exact ⟨j + 1, q + z + y, m + _, by omega, by omega, by omega, Nat.le_refl _, by go_num, by go_num, by rw [← HWO.out, World.drewN_drewN], fun i hi => by
          by_cases hij : i = j
          · subst hij
            rw [← HZ.out, ← HY.out, ← HZ1.out, ← HY1.out]; omega
          · have := HQ.out i (by omega); omega⟩
    · have hb := below_drewN (Below.refl w.heap.size w) m
      by_cases hjl : j < l.length
      · have hltz : (j : Int) < (l.length : Int) := by omega
        have hj2 : ¬ ((j : Int) ≤ 100) := by omega
        have hl2 : (100 : Int) < (l.length : Int) := by omega
        go_wp2_with (fail)
        go_ret
        exact ⟨0, rfl, hb, .inl rfl⟩
      · have hltz : ¬ (j : Int) < (l.length : Int) := by omega
        obtain rfl : j = l.length := by omega
        clear hlt
        by_cases hl2 : (100 : Int) < (l.length : Int)
        · go_wp2_with (fail)
          go_ret
          exact ⟨0, rfl, hb, .inl rfl⟩
        by_cases hq2 : (10000 : Int) < (q : Int)
        · go_wp2_with (fail)
          go_ret
          exact ⟨0, rfl, hb, .inl rfl⟩
        have hq3 : q ≤ 10000 := by omega
        go_wp2_with (fail)
        go_ret
        refine ⟨1, rfl, hb, .inr ⟨rfl, by omega, fun p hp => ?_⟩⟩
        obtain ⟨i, hi, rfl⟩ := List.getElem_of_mem hp
        have := HQ.out i hi
        rw [pd_at hi] at this
        omega
set_option maxRecDepth 100000 in
set_option maxHeartbeats 1000000 in
theorem neq_pair (p : Pr) (w : World) : (binOp .neq 44 (.agg #[.string (tx p.1), .int .i64 p.2.k, .int .i64 p.2.n, .string (tx p.2.s), .int .i64 p.2.x, .int .i64 p.2.y]) (.agg #[.string (tx p.1), .int .i64 p.2.k, .int .i64 p.2.n, .string (tx p.2.s), .int .i64 p.2.x, .int .i64 p.2.y])).run Try.prog w = .ok (.bool false) w := by
  generalize tx p.1 = o
  generalize p.2.k = a
  generalize p.2.n = b
  generalize tx p.2.s = s
  generalize p.2.x = x
  generalize p.2.y = y
  have u := Try.underlying3
  have hN : Try.prog.underlying 44 = some (.struct (Try.prog.fieldsOf 44)) := by kernel_rfl
  have hS : Try.prog.underlying 42 = some (.struct (Try.prog.fieldsOf 42)) := by kernel_rfl
  have hS2 : Try.prog.underlying 40 = some (.struct (Try.prog.fieldsOf 40)) := by kernel_rfl
  have hp0 : Try.prog.stoodInHeld 44 = false := by kernel_rfl
  have hp : Try.prog.stoodInHeld 42 = false := by kernel_rfl
  have hp2 : Try.prog.stoodInHeld 40 = false := by kernel_rfl
  have hr := fun d xs ys w => run_equalIn_struct (P := Try.prog) w d 42 xs ys hS hp
  have hq := fun d xs ys w => run_equalIn_struct (P := Try.prog) w d 40 xs ys hS2 hp2
  rw [run_neq_struct, show (10000 : Nat) = 9999 + 1 from rfl, run_equalIn_struct w 9999 44 _ _ hN hp0]
  clear hN hS hS2 hp hp0 hp2
  simp only [Program.fieldsOf, Try.underlying44, Try.underlying42, Try.underlying40] at hq hr ⊢
  go_simp
set_option maxRecDepth 100000 in
set_option maxHeartbeats 2000000 in
theorem same_pairs (l : List Pr) (A B : Option Addr) (c d : Nat) (w : World) (ha : Prs w A l) (hb : Prs w B l) (hl : l.length ≤ 4294967296) : Calls Try.prog 13 #[.slice A l.length c, .slice B l.length d] w (Gives (.bool true) w) := by
  have HA := Lib.hid ha; have HB := Lib.hid hb
  clear ha hb
  go_enter Try.func13, Try.ntmps13
  go_wp2_with (fail)
  go_loopg [5] l.length (fun kx i wr => ∃ k m : Nat, k ≤ l.length ∧ l.length - k ≤ kx ∧ i = .int .i64 (k : Int) ∧ wr = w.drewN m)
  case atStart => exact ⟨0, 0, Nat.zero_le _, by omega, rfl, rfl⟩
  case round =>
    obtain ⟨k, m, hk, hkx, rfl, rfl⟩ := hrel
    by_cases hlt : k < l.length
    · have hltz : (k : Int) < (l.length : Int) := by omega
      obtain ⟨G, O, rfl⟩ := HA.out.shape (by omega)
      obtain ⟨G', O', rfl⟩ := HB.out.shape (by omega)
      have hda : Prs (w.drewN m) (some ⟨G, O, none⟩) l := HA.out
      have hdb : Prs (w.drewN m) (some ⟨G', O', none⟩) l := HB.out
      have a0 := hda.cell hlt 0 _ rfl
      have a1 := hda.cell hlt 1 _ rfl
      have a2 := hda.cell hlt 2 _ rfl
      have a3 := hda.cell hlt 3 _ rfl
      have a4 := hda.cell hlt 4 _ rfl
      have a5 := hda.cell hlt 5 _ rfl
      have b0 := hdb.cell hlt 0 _ rfl
      have b1 := hdb.cell hlt 1 _ rfl
      have b2 := hdb.cell hlt 2 _ rfl
      have b3 := hdb.cell hlt 3 _ rfl
      have b4 := hdb.cell hlt 4 _ rfl
      have b5 := hdb.cell hlt 5 _ rfl
      rw [Nat.add_zero] at a0 b0
      have hE := fun w => neq_pair (pd l k) w
      generalize pd l k = n at *
      clear hda hdb
      generalize hwo : w.drewN m = wo at *
      have HWO := Lib.hid hwo; clear hwo
      go_wp2_with (fail)
      go_quiet (fail)
      go_wp2_with (fail)
      go_roundg (l.length - (k + 1))
      case measure => omega
      case rel => exact ⟨k + 1, m + _, by omega, Nat.le_refl _, by go_num, by rw [← HWO.out, World.drewN_drewN]⟩
    · have hltz : ¬ (k : Int) < (l.length : Int) := by omega
      go_wp2_with (fail)
      go_ret
      exact ⟨rfl, below_drewN (Below.refl _ _) m⟩
theorem byKey_gives (a b : Pr) (w : World) : Calls Try.prog 32 #[.agg (pcl a).toArray, .agg (pcl b).toArray] w (Gives (.int .i64 (ck a b)) w) :=
  (byKey_any a b w).mono fun _ _ ⟨he, q, os, hw⟩ => ⟨he, by rw [hw]; exact below_grown w q os⟩
/-- In order, neighbour by neighbour. -/
theorem od_near (l : List Pr) (h : ∀ j, 0 < j → j < l.length → kl (pd l j) (pd l (j - 1)) = false) : Od l := by
  have far : ∀ d i, i + d + 1 < l.length → kl (pd l (i + d + 1)) (pd l i) = false := by
    intro d
    induction d with
    | zero => intro i hi; exact h (i + 1) (by omega) hi
    | succ d ih => intro i hi; exact swo.ntrans _ _ _ (h (i + (d + 1) + 1) (by omega) hi) (ih i (by omega))
  rw [Od, List.pairwise_iff_getElem]
  intro i j hi hj hij
  have e := far (j - i - 1) i (by omega)
  rw [show i + (j - i - 1) + 1 = j by omega, pd_at hi, pd_at hj] at e
  exact e
theorem near_od (l : List Pr) (h : Od l) (j : Nat) (h0 : 0 < j) (hj : j < l.length) : kl (pd l j) (pd l (j - 1)) = false := by
  rw [pd_at hj, pd_at (show j - 1 < l.length by omega)]
  exact (List.pairwise_iff_getElem.1 h) (j - 1) j (by omega) hj (by omega)
/-- What Ordered says. -/
def OrdQ (l : List Pr) (w : World) (e : Ending) (w' : World) : Prop := ∃ b : Bool, e = .returned (.bool b) ∧ (b = true ↔ Od l) ∧ Below w.heap.size w w'
set_option maxRecDepth 100000 in
set_option maxHeartbeats 2000000 in
theorem isSorted_any (A : Option Addr) (c : Nat) (l : List Pr) (w : World) (h : Prs w A l) (hl : l.length ≤ 1000000) : Calls Try.prog 35 #[.slice A l.length c, .func (.func 32) #[] #[]] w (OrdQ l w) := by
  have HN := Lib.hid h
  clear h
  go_enter Try.func35, Try.ntmps35
  go_wp2_with (fail)
  go_loopg [5] (l.length + 1) (fun kx s5 wr => ∃ j : Nat, j ≤ l.length ∧ j ≤ kx ∧ s5 = .int .i64 ((j : Int) - 1) ∧ Hid (Below w.heap.size w wr) ∧ Hid (∀ i, j ≤ i → 0 < i → i < l.length → kl (pd l i) (pd l (i - 1)) = false))
  case atStart => exact ⟨l.length, Nat.le_refl _, by omega, rfl, Below.refl _ _, fun i h1 _ h2 => by omega⟩
  case round =>
    obtain ⟨j, hj, hkx, rfl, HB, HQ⟩ := hrel
    by_cases hlt : 1 < j
    · obtain ⟨i, rfl⟩ : ∃ i, j = i + 2 := ⟨j - 2, by omega⟩
      have hltz : (0 : Int) < ((i + 2 : Nat) : Int) - 1 := by omega
      obtain ⟨G, O, rfl⟩ := HN.out.shape (by omega)
      have hd := HN.out.next HB.out
      have a0 := fun r : Over wr => over_cell r (hd.cell (i := i + 1) (by omega) 0 _ rfl)
      have a1 := fun r : Over wr => over_cell r (hd.cell (i := i + 1) (by omega) 1 _ rfl)
      have a2 := fun r : Over wr => over_cell r (hd.cell (i := i + 1) (by omega) 2 _ rfl)
      have a3 := fun r : Over wr => over_cell r (hd.cell (i := i + 1) (by omega) 3 _ rfl)
      have a4 := fun r : Over wr => over_cell r (hd.cell (i := i + 1) (by omega) 4 _ rfl)
      have a5 := fun r : Over wr => over_cell r (hd.cell (i := i + 1) (by omega) 5 _ rfl)
      have b0 := fun r : Over wr => over_cell r (hd.cell (i := i) (by omega) 0 _ rfl)
      have b1 := fun r : Over wr => over_cell r (hd.cell (i := i) (by omega) 1 _ rfl)
      have b2 := fun r : Over wr => over_cell r (hd.cell (i := i) (by omega) 2 _ rfl)
      have b3 := fun r : Over wr => over_cell r (hd.cell (i := i) (by omega) 3 _ rfl)
      have b4 := fun r : Over wr => over_cell r (hd.cell (i := i) (by omega) 4 _ rfl)
      have b5 := fun r : Over wr => over_cell r (hd.cell (i := i) (by omega) 5 _ rfl)
      simp only [Nat.add_zero] at a0 b0
      have HK := Lib.hid (fun w => byKey_gives (pd l (i + 1)) (pd l i) w)
      unfold pcl at HK
      have hck := ck_kl (pd l (i + 1)) (pd l i)
      have e1 : IntKind.i64.wrap (((i + 2 : Nat) : Int) - 1) = ((i + 1 : Nat) : Int) := by rw [IntKind.wrap_i64]; omega
      have HS : Hid (pd l (i + 1) = pd l (i + 1)) := rfl
      generalize hx : pd l (i + 1) = x at *
      generalize hy : pd l i = y at *
      have HXY := Lib.hid (And.intro hx hy)
      clear hx hy HS hd
      rw [show ((i + 2 : Nat) : Int) - 1 = ((i + 1 : Nat) : Int) by omega] at *
      have hix : ((i + 1 : Nat) : Int) < (l.length : Int) := by omega
      have hiy : (i : Int) < (l.length : Int) := by omega
      have e2 : ((i + 1 : Nat) : Int) - 1 = (i : Int) := by omega
      generalize ck x y = cc at *
      have hmix : Try.prog.follows .mixedOrders = true := by kernel_rfl
      cases hb0 : decide (cc < 0) with
      | true =>
        rw [hb0] at hck
        have HCK := Lib.hid hck
        clear hck
        go_upto_region 4 with fail
        refine wp_over (by kernel_rfl) (by kernel_rfl) ?_
        repeat (go_big_quiet_step (first | fail | with_reducible exact over_gives _ (HK.out _)))
        refine wpQuiet_nil ?_
        rintro w2 ⟨⟨w2, hb⟩, rfl⟩
        have HB2 := Lib.hid (Below.next HB.out hb)
        clear hb a0 a1 a2 a3 a4 a5 b0 b1 b2 b3 b4 b5
        go_wp2_with (fail)
        go_ret
        refine ⟨false, rfl, ⟨(fun h => nomatch h), fun h => ?_⟩, HB2.out⟩
        have := near_od l h (i + 1) (by omega) (by omega)
        rw [show i + 1 - 1 = i by omega, HXY.out.1, HXY.out.2, ← HCK.out] at this
        cases this
      | false =>
        rw [hb0] at hck
        have HCK := Lib.hid hck
        clear hck
        go_upto_region 4 with fail
        refine wp_over (by kernel_rfl) (by kernel_rfl) ?_
        repeat (go_big_quiet_step (first | fail | with_reducible exact over_gives _ (HK.out _)))
        refine wpQuiet_nil ?_
        rintro w2 ⟨⟨w2, hb⟩, rfl⟩
        have HB2 := Lib.hid (Below.next HB.out hb)
        clear hb a0 a1 a2 a3 a4 a5 b0 b1 b2 b3 b4 b5
        go_wp2_with (fail)
        go_roundg (i + 1)
        case measure => omega
        case rel => exact ⟨i + 1, by omega, Nat.le_refl _, by first | rfl | go_num | (congr 1; omega), HB2, fun t h1 h2 h3 => by
            by_cases ht : t = i + 1
            · subst ht
              rw [show i + 1 - 1 = i by omega, HXY.out.1, HXY.out.2]; exact HCK.out.symm
            · exact HQ.out t (by omega) h2 h3⟩
    · have hltz : ¬ (0 : Int) < (j : Int) - 1 := by omega
      go_wp2_with (fail)
      go_ret
      exact ⟨true, rfl, ⟨fun _ => od_near l fun t h1 h2 => HQ.out t (by omega) h1 h2, fun _ => rfl⟩, HB.out⟩
theorem ordered_any (A : Option Addr) (c : Nat) (l : List Pr) (w : World) (h : Prs w A l) (hl : l.length ≤ 1000000) : Calls Try.prog 16 #[.slice A l.length c] w (OrdQ l w) := by
  have hs := isSorted_any A c l w h hl
  go_enter Try.func16, Try.ntmps16
  go_wp2_with (fail)
  refine hs.mono ?_
  rintro e w1 ⟨b, rfl, hb, hB⟩
  have HB := Lib.hid hB; have HO := Lib.hid hb
  clear hb hB hs
  go_wp2_with (fail)
  go_ret
  exact ⟨b, rfl, HO.out, HB.out⟩
end Go.Proofs.Ytgakcpcpfkoaiaa.Pr

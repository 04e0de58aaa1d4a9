/-
  A text of each row: multiply.
-/
import Derived.Test.YtkgfkchdbbeljaaCdTexts
import Derived.Deep.RegionWith
namespace Go.Proofs.Ytkgfkchdbbeljaa.Cd
open Go.ChangeShapes Go.WideShapes Go.ChangeAt Go.RowKit Go.Proofs.Ytkgfkchdbbeljaa.Gf Go.Proofs.Ytkgfkchdbbeljaa.Mx

/-- The products and the column. -/
structure MulAt (w : World) (PB CB q m k : Nat) (r : Nat → Nat) (y : Nat → Nat → K) (v : Nat → K) (wr : World) : Prop where
  own : Own wr w.heap.size PB q m r y
  col : RowK wr CB k v
  below : Below w.heap.size w wr
  ne : ∀ i, i < q → r i ≠ CB
  lo : w.heap.size ≤ CB
section
variable {w wr : World} {PB CB q m k : Nat} {r : Nat → Nat} {y y' : Nat → Nat → K} {v v' : Nat → K}
theorem MulAt.drewN (h : MulAt w PB CB q m k r y v wr) (a : Nat) : MulAt w PB CB q m k r y v (wr.drewN a) := ⟨h.own.drewN a, h.col, below_drewN h.below a, h.ne, h.lo⟩
theorem MulAt.congr (h : MulAt w PB CB q m k r y v wr) (e : ∀ a, a < q → ∀ b, b < m → y a b = y' a b) (e2 : ∀ j, j < k → v j = v' j) : MulAt w PB CB q m k r y' v' wr := ⟨h.own.congr e, h.col.congr e2, h.below, h.ne, h.lo⟩
theorem MulAt.pne (h : MulAt w PB CB q m k r y v wr) : PB ≠ CB := rowIs_ne h.own.top h.col (by decide)
theorem MulAt.colset {u : Nat → K} {j : Nat} (h : MulAt w PB CB q m k r y (Mx.part v u j) wr) : MulAt w PB CB q m k r y (Mx.part v u (j + 1)) (wr.setCell ⟨CB, j, none⟩ (.int .u8 ((u j).n : Int))) :=
  ⟨⟨h.own.top.setOther h.pne _, fun i hi => (h.own.row i hi).setOther (h.ne i hi) _, h.own.low, h.own.los, h.own.inj⟩, h.col.set, h.below.setCell h.lo _, h.ne, h.lo⟩
theorem MulAt.set {i j : Nat} (h : MulAt w PB CB q m k r y v wr) (hi : i < q) (u : K) (e : ∀ a, a < q → ∀ b, b < m → upd y i j u a b = y' a b) : MulAt w PB CB q m k r y' v (wr.setCell ⟨r i, j, none⟩ (.int .u8 (u.n : Int))) :=
  ⟨(h.own.set hi j u).congr e, World.rowIs.setOther h.col (fun q => h.ne i hi q.symm) _, h.below.setCell (h.own.los i hi) _, h.ne, h.lo⟩
end
theorem blank_mul {w wr : World} {n m k : Nat} (h : BlankAt w wr n m n) : MulAt w w.heap.size wr.heap.size n m k (fun i => w.heap.size + 1 + i) (fun _ _ => 0) (fun _ => 0) (wr.alloc (.cells (madeCells #[.int .u8 0] k) 5)) :=
  ⟨⟨(h.top.congr fun i hi => by rw [if_pos hi]).alloc _, fun i hi => (h.row i hi).alloc _, Nat.le_refl _, fun i _ => by omega, fun i _ j _ e => by omega⟩,
   World.rowIs_made wr _ k _, h.below.alloc (by rw [h.size]; omega) _, fun i hi => by rw [h.size]; omega, by rw [h.size]; omega⟩
theorem part0 (v u : Nat → K) (j : Nat) : v j = Mx.part v u 0 j := (if_neg (by omega)).symm
theorem part_all (v u : Nat → K) (k j : Nat) (h : j < k) : Mx.part v u k j = u j := if_pos h
def RelM1 (w : World) (n m : Nat) (I : Value) (wr : World) : Prop := ∃ k : Nat, k ≤ n ∧ I = .int .i64 (k : Int) ∧ BlankAt w wr n m k
def RelM2 (w : World) (PB CB q m k : Nat) (r : Nat → Nat) (Y : Nat → Nat → K) (I : Value) (wr : World) : Prop := ∃ (p : Nat) (v : Nat → K), p ≤ m ∧ I = .int .i64 (p : Int) ∧ MulAt w PB CB q m k r (fillCol Y p 0) v wr
def RelM3 (w : World) (PB CB q m k : Nat) (r : Nat → Nat) (Y : Nat → Nat → K) (p : Nat) (v u : Nat → K) (I : Value) (wr : World) : Prop := ∃ j : Nat, j ≤ k ∧ I = .int .i64 (j : Int) ∧ MulAt w PB CB q m k r (fillCol Y p 0) (Mx.part v u j) wr
def RelM4 (w : World) (PB CB q m k : Nat) (r : Nat → Nat) (Y : Nat → Nat → K) (p : Nat) (u : Nat → K) (I : Value) (wr : World) : Prop := ∃ i : Nat, i ≤ q ∧ I = .int .i64 (i : Int) ∧ MulAt w PB CB q m k r (fillCol Y p i) u wr
set_option maxRecDepth 100000 in
set_option maxHeartbeats 2000000 in
theorem multiply_any (c fb P O q k m cq B0 O0 ck : Nat) (b o d : Nat → Nat) (x : Nat → Nat → K) (t : Nat → ByteArray) (w : World) (hq : q ≤ 32) (hk : 1 ≤ k) (hk' : k ≤ 32) (hm : m ≤ 4096)
    (hcf : w.cell? ⟨c, 2, none⟩ = some (.pointer (some ⟨fb, 0, none⟩))) (hF : IsF w fb) (hM : Mat w P O q k b o d x) (hS : Strs w (some ⟨B0, O0, none⟩) k t) (hs : ∀ j, j < k → (t j).size = m) :
    Calls Try.prog 26 #[.pointer (some ⟨c, 0, none⟩), .slice (some ⟨P, O, none⟩) q cq, .slice (some ⟨B0, O0, none⟩) k ck] w (MadeT q (pc k m x t) w) := by
  have HCF := Lib.hid hcf; have HF := Lib.hid hF; have HM := Lib.hid hM; have HS := Lib.hid hS; have HZ := Lib.hid hs
  clear hcf hF hM hS hs
  have hmk := run_make_row' (P := Try.prog) 46 23 (.slice none 0 0) 24 Try.underlying46 infoR rfl .i64 .i64 q (by omega) (by omega)
  have k00 : (0 : Int) < (k : Int) := by omega
  go_enter Try.func26, Try.ntmps26
  go_wp2
  clear hmk
  go_loopw [20] (fun I wr => RelM1 w q m I wr) (fun I _ => q - (intOf I).toNat)
  case atStart => exact ⟨0, by omega, rfl, blank_start w q m⟩
  case round =>
    obtain ⟨i, hi, rfl, hB⟩ := hrel
    have HB := Lib.hid hB; clear hB
    have c0 := (HS.out.below HB.out.below).at0 (by omega)
    have HZ0 := Lib.hid (HZ.out 0 (by omega))
    by_cases hlt : i < q
    · have hmk := run_make_row' (P := Try.prog) 23 5 (.int .u8 0) 1 Try.underlying23 info8 rfl .i64 .i64 m (by omega) (by omega)
      rw [← HZ0.out] at hmk
      have hc : ∀ o, (wr.alloc o).cell? ⟨w.heap.size, i, none⟩ = some (.slice none 0 0) := fun o => by
        have := (HB.out.top.alloc o).cell hlt; rwa [if_neg (by omega)] at this
      have hf : ∀ o, (wr.alloc o).frozen? ⟨w.heap.size, i, none⟩ = false := fun o => (HB.out.top.alloc o).frozen i
      have i0 : (i : Int) < (q : Int) := by omega
      generalize t 0 = t0 at *
      go_wp2
      go_roundw
      case rel => exact ⟨i + 1, by omega, by go_num, by rw [HZ0.out]; exact blank_step HB.out⟩
      case measure => simp [intOf]; omega
    · obtain rfl : q = i := by omega
      have hmk := run_make_row' (P := Try.prog) 23 5 (.int .u8 0) 1 Try.underlying23 info8 rfl .i64 .i64 k (by omega) (by omega)
      have HA : Hid (MulAt w w.heap.size wr.heap.size q m k (fun j => w.heap.size + 1 + j) (fillCol (mm k x (U t)) 0 0) (fun _ => 0) (wr.alloc (.cells (madeCells #[.int .u8 0] k) 5))) := (blank_mul HB.out).congr (fun a _ b _ => (fillc_start _ _ _).symm) (fun _ _ => rfl)
      have c1 := (HS.out.below HA.out.below).at0 (by omega)
      go_wp2
      generalize (fun j => w.heap.size + 1 + j) = rr at HA
      generalize w.heap.size = PB at HA ⊢
      generalize wr.heap.size = CB at HA ⊢
      generalize wr.alloc (.cells (madeCells #[.int .u8 0] k) 5) = w1 at *
      clear hmk c0 c1 HB
      go_loopw [39] (fun I wr => RelM2 w PB CB q m k rr (mm k x (U t)) I wr) (fun I _ => m - (intOf I).toNat)
      case atStart => exact ⟨0, _, by omega, rfl, HA.out⟩
      case round =>
        clear HA
        obtain ⟨p, v, hp, rfl, hA⟩ := hrel
        have HA := Lib.hid hA; clear hA
        by_cases hlt : p < m
        · have p0 : (p : Int) < ((t 0).size : Int) := by rw [HZ0.out]; omega
          have p1 : p < (t 0).size := by rw [HZ0.out]; omega
          go_wp2_with fail
          clear p0 p1
          generalize wr = wo at *
          go_loopw [44] (fun I wr => RelM3 w PB CB q m k rr (mm k x (U t)) p v (fun j => U t j p) I wr) (fun I _ => k - (intOf I).toNat)
          case atStart => exact ⟨0, by omega, rfl, HA.out.congr (fun _ _ _ _ => rfl) (fun j _ => part0 _ _ _)⟩
          case round =>
            clear HA
            obtain ⟨j, hj, rfl, hA⟩ := hrel
            have HA := Lib.hid hA; clear hA
            by_cases hll : j < k
            · have j0 : (j : Int) < (k : Int) := by omega
              have cj := (HS.out.below HA.out.below).at_ hll
              have hsz := HZ.out j hll
              have p1 : p < (t j).size := by omega
              have p0 : (p : Int) < ((t j).size : Int) := by omega
              have cc := World.rowIs.cell HA.out.col hll
              have cf := World.rowIs.frozen HA.out.col j
              have HN : Hid (MulAt w PB CB q m k rr (fillCol (mm k x (U t)) p 0) (Mx.part v (fun j => U t j p) (j + 1)) (wr.setCell ⟨CB, j, none⟩ (.int .u8 ((t j)[p].toNat : Int)))) := by
                rw [← kt_at p1]; exact HA.out.colset
              clear hsz
              generalize t j = tj at cj p0 p1 HN
              go_wp2
              go_roundw
              case rel => exact ⟨j + 1, by omega, by go_num, HN.out⟩
              case measure => simp [intOf]; omega
            · obtain rfl : k = j := by omega
              have HA0 : Hid (MulAt w PB CB q m k rr (fillCol (mm k x (U t)) p 0) (fun j => U t j p) wr) := HA.out.congr (fun _ _ _ _ => rfl) (fun j hj => part_all _ _ _ _ hj)
              clear HA
              go_wp2_with fail
              generalize wr = wo2 at *
              go_loopw [58] (fun I wr => RelM4 w PB CB q m k rr (mm k x (U t)) p (fun j => U t j p) I wr) (fun I _ => q - (intOf I).toNat)
              case atStart => exact ⟨0, by omega, rfl, HA0.out⟩
              case round =>
                clear HA0
                obtain ⟨i, hi, rfl, hA⟩ := hrel
                have HA := Lib.hid hA; clear hA
                by_cases hl3 : i < q
                · have i0 : (i : Int) < (q : Int) := by omega
                  have ct := (HM.out.below HA.out.below).top i hl3
                  have cp := HA.out.own.top.cell hl3
                  have cf2 : wr.cell? ⟨c, 2, none⟩ = some (.pointer (some ⟨fb, 0, none⟩)) := by
                    rw [HA.out.below.cell (p := ⟨c, 2, none⟩) (block_lt_of_cell HCF.out)]; exact HCF.out
                  have HX := Lib.hid ((HM.out.below HA.out.below).bytes hl3)
                  have HY : Hid (Bytes wr CB 0 k (fun j => (U t j p).n)) := fun j hj => ⟨by rw [Nat.zero_add]; exact World.rowIs.cell HA.out.col hj, (U t j p).h⟩
                  have HF3 := Lib.hid (IsF.old HF.out HA.out.below)
                  have HE := Lib.hid (dot_S (x i) (fun j => U t j p) k)
                  go_wp2_with fail
                  go_region_with ((go_at_call 39; refine (dot_some fb (b i) CB (o i) 0 k _ _ (fun j => (x i j).n) (fun j => (U t j p).n) _ (by omega) (by exact HF3.out.drewN 1) (by exact HX.out) (by exact HY.out)).mono ?_; rintro e w3 ⟨rfl, a, ha⟩; (have HG : Hid (MulAt w PB CB q m k rr (fillCol (mm k x (U t)) p i) (fun j => U t j p) w3) := by rw [ha]; exact (HA.out.drewN 1).drewN a); clear ha; have ct3 := HG.out.own.top.cell hl3; have cr3 := (HG.out.own.row i hl3).cell hlt; have fr3 := (HG.out.own.row i hl3).frozen p; rw [HE.out]))
                  all_goals
                    have HN := Lib.hid (HG.out.set hl3 (mm k x (U t) i p) fun a _ b _ => fillc_step (mm k x (U t)) p i a b)
                    go_wp2
                    go_roundw
                    case rel => exact ⟨i + 1, by omega, by go_num, HN.out⟩
                    case measure => simp [intOf]; omega
                · obtain rfl : q = i := by omega
                  go_wp2
                  go_roundw
                  case rel => exact ⟨p + 1, _, by omega, by go_num, HA.out.congr (fun a ha b _ => fillc_col _ _ _ _ _ ha) (fun _ _ => rfl)⟩
                  case measure => simp [intOf]; omega
        · obtain rfl : m = p := by omega
          have p0 : ¬ (m : Int) < ((t 0).size : Int) := by rw [HZ0.out]; omega
          have p1 : ¬ m < (t 0).size := by rw [HZ0.out]; omega
          have HO : Hid (Mat wr PB 0 q m rr (fun _ => 0) (fun _ => m) (mm k x (U t))) := HA.out.own.mat.congr fun a _ b hb => fillc_done _ _ _ _ hb
          have HB := Lib.hid HA.out.below
          clear HA
          go_wp2_with fail
          refine (texts_any PB 0 q m _ _ _ _ (mm k x (U t)) _ (by omega) HO.out).mono ?_
          rintro e w2 ⟨B, rfl, hr, hlo, hb⟩
          have HR := Lib.hid hr; have HL := Lib.hid hlo; have HB2 := Lib.hid hb
          clear hr hlo hb
          go_wp2_with fail
          go_ret
          exact ⟨B, rfl, HR.out, Nat.le_trans HB.out.size HL.out, Below.next HB.out HB2.out⟩
end Go.Proofs.Ytkgfkchdbbeljaa.Cd

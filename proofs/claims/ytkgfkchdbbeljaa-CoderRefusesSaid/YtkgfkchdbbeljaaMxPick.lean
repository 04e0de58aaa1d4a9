/-
  Rows that are picked: Pick.
-/
import Derived.Test.YtkgfkchdbbeljaaMxBehind
namespace Go.Proofs.Ytkgfkchdbbeljaa.Mx
open Go.ChangeShapes Go.WideShapes Go.ChangeAt Go.RowKit Go.Proofs.Ytkgfkchdbbeljaa.Gf

/-- n whole numbers behind a pointer. -/
def Ints (w : World) (p : Option Addr) (n : Nat) (z : Nat → Int) : Prop :=
  0 < n → ∃ B O, p = some ⟨B, O, none⟩ ∧ ∀ i, i < n → w.cell? ⟨B, O + i, none⟩ = some (.int .i64 (z i))
theorem Ints.below {w w' : World} {p : Option Addr} {n : Nat} {z : Nat → Int} (h : Ints w p n z) (k : Below w.heap.size w w') : Ints w' p n z := fun hn => by
  obtain ⟨B, O, e, hc⟩ := h hn
  exact ⟨B, O, e, fun i hi => by rw [k.cell (p := ⟨B, O + i, none⟩) (block_lt_of_cell (hc i hi))]; exact hc i hi⟩
def InL (n nl : Nat) (z : Nat → Int) : Prop := ∀ i, i < nl → 0 ≤ z i ∧ z i < (n : Int)
def Nope (v : Int) (w : World) (e : Ending) (w' : World) : Prop := e = .returned (.tuple #[.slice none 0 0, .int .i64 v]) ∧ Below w.heap.size w w'
/-- What Pick answers of right rows and 1 to 32 numbers. -/
def PickPost (n nl m : Nat) (x : Nat → Nat → K) (z : Nat → Int) (w : World) (e : Ending) (w' : World) : Prop :=
  (InL n nl z → Made2 nl m (fun i j => x (z i).toNat j) (.int .i64 0) w e w') ∧ (¬ InL n nl z → Nope 1 w e w')
def RelPk (w : World) (B n nl m : Nat) (r : Nat → Nat) (x : Nat → Nat → K) (z : Nat → Int) (I : Value) (wr : World) : Prop :=
  ∃ k : Nat, k ≤ nl ∧ I = .int .i64 (k : Int) ∧ InL n k z ∧ Fil w B nl m r (fillTo (fun i j => x (z i).toNat j) k 0) wr
set_option maxRecDepth 100000 in
set_option maxHeartbeats 1000000 in
theorem pick_any (P O n m cn : Nat) (b o c : Nat → Nat) (x : Nat → Nat → K) (p : Option Addr) (nl cl : Nat) (z : Nat → Int) (w : World) (hn : 1 ≤ n) (hn' : n ≤ 32) (hm : 1 ≤ m) (hm' : m ≤ 32) (hl : 1 ≤ nl) (hl' : nl ≤ 32)
    (hM : Mat w P O n m b o c x) (hI : Ints w p nl z) :
    Calls Try.prog 19 #[.slice (some ⟨P, O, none⟩) n cn, .slice p nl cl] w (PickPost n nl m x z w) := by
  have c0 := hM.top0 (by omega)
  obtain ⟨Q, T, rfl, hc⟩ := hI (by omega)
  have HM := Lib.hid hM; have HC := Lib.hid hc
  have hI2 : Ints w (some ⟨Q, T, none⟩) nl z := hI
  have HI := Lib.hid hI2
  clear hM hc hI hI2
  have n0 : (0 : Int) < (n : Int) := by omega
  go_enter Try.func19, Try.ntmps19
  go_wp2_with fail
  refine (right_yes _ _ _ _ _ _ _ HM.out.rag ⟨hn, hn', hm, hm', fun _ _ => rfl⟩).mono ?_
  rintro e w' ⟨rfl, rfl⟩
  go_wp2_with fail
  refine (fits_yes _ (by omega) (by omega) _).mono ?_
  rintro e w'' ⟨rfl, rfl⟩
  go_wp2_with fail
  refine (blank_any nl m (by omega) (by omega) _).mono ?_
  rintro e w1 ⟨B, r, rfl, ho, hb⟩
  have HO : Hid (Fil w'' B nl m r (fillTo (fun i j => x (z i).toNat j) 0 0) w1) := ⟨ho.congr fun a _ b _ => (fill_start _ _ _).symm, hb⟩
  clear ho hb c0
  go_wp2_with fail
  go_loopw [27] (fun I wr => RelPk w'' B n nl m r x z I wr) (fun I _ => nl - (intOf I).toNat)
  case atStart => exact ⟨0, by omega, rfl, fun i hi => by omega, HO.out⟩
  case round =>
    clear HO
    obtain ⟨k, hk, rfl, hin, hF⟩ := hrel
    have HF := Lib.hid hF; have HN := Lib.hid hin; clear hF hin
    by_cases hlt : k < nl
    · have cz : wr.cell? ⟨Q, T + k, none⟩ = some (.int .i64 (z k)) := by
        rw [HF.out.2.cell (p := ⟨Q, T + k, none⟩) (block_lt_of_cell (HC.out k hlt))]; exact HC.out k hlt
      have k0 : (k : Int) < (nl : Int) := by omega
      by_cases hz1 : z k < 0
      · have HX : Hid (¬ InL n nl z) := fun h => by have := h k hlt; omega
        have t1 : decide (z k < 0) = true := by simpa using hz1
        generalize z k = u at *
        go_wp2
        go_ret2
        exact ⟨fun h => absurd h HX.out, fun _ => ⟨rfl, HF.out.2⟩⟩
      · have t1 : decide (z k < 0) = false := by simpa using hz1
        by_cases hz2 : (n : Int) ≤ z k
        · have HX : Hid (¬ InL n nl z) := fun h => by have := h k hlt; omega
          clear hz1
          have hz0 : 0 ≤ z k := by omega
          generalize z k = u at *
          go_wp2
          go_ret2
          exact ⟨fun h => absurd h HX.out, fun _ => ⟨rfl, HF.out.2⟩⟩
        · have t2 : decide ((n : Int) ≤ z k) = false := by simpa using hz2
          have zk0 : 0 ≤ z k := by omega
          have zk1 : z k < (n : Int) := by omega
          have HX : Hid (InL n (k + 1) z) := fun i hi => by
            by_cases e : i = k
            · subst e; omega
            · exact HN.out i (by omega)
          clear hz1 hz2
          have cs := (HM.out.below HF.out.2).top (z k).toNat (by omega)
          have ct := HF.out.1.top.cell hlt
          obtain ⟨w2, hrun, hbut, hrow⟩ := copy_row (wr := wr.drew) (v := fun j => x (z k).toNat j) (c := m) (c' := c (z k).toNat) ((HF.out.1.row k hlt).drew) (fun j hj => (HM.out.below HF.out.2).row (z k).toNat (by omega) j hj) (Nat.le_refl m)
          have HS : Hid (Fil w'' B nl m r (fillTo (fun i j => x (z i).toNat j) (k + 1) 0) w2) := by
            refine (HF.out.drewN 1).turn hlt (v := fun j => x (z k).toNat j) hbut (hrow.congr fun j hj => by rw [if_pos hj]) (fun a _ b _ => fill_rows _ _ _ _)
          have HB := Lib.hid hbut; have HR := Lib.hid hrow
          clear hbut hrow
          generalize z k = u at *
          go_wp2_with fail
          go_region
          go_wp2
          go_roundw
          case rel => exact ⟨k + 1, by omega, by go_num, HX.out, HS.out⟩
          case measure => simp [intOf]; omega
    · obtain rfl : k = nl := by omega
      go_wp2
      go_ret2
      exact ⟨fun _ => ⟨B, r, rfl, HF.out.1.congr fun a ha b _ => fill_done _ _ _ _ ha, HF.out.2⟩, fun h => absurd HN.out h⟩
set_option maxHeartbeats 400000 in
theorem pick_no (p q : Option Addr) (n cn nl cl : Nat) (A : Nat → Option Addr) (L C : Nat → Nat) (w : World) (hn : n ≤ 4294967296) (hl : ∀ i, i < n → L i ≤ 4294967296) (hnl : nl ≤ 4294967296) (hr : Rag w p n A L C) (h : ¬ RightP n L ∨ nl < 1 ∨ 32 < nl) :
    Calls Try.prog 19 #[.slice p n cn, .slice q nl cl] w (Nope 1 w) := by
  have HL := Lib.hid hl; have HR := Lib.hid hr; have H := Lib.hid h
  clear hl hr h
  by_cases hR : RightP n L
  · have HRp := Lib.hid hR; clear hR
    go_enter Try.func19, Try.ntmps19
    go_wp2_with fail
    refine (right_yes _ _ _ _ _ _ _ HR.out HRp.out).mono ?_
    rintro e w' ⟨rfl, rfl⟩
    go_wp2_with fail
    refine (fits_no _ (by rcases H.out with h | h; exact absurd HRp.out h; omega) _).mono ?_
    rintro e w'' ⟨rfl, rfl⟩
    go_wp2_with fail
    go_ret2
    exact ⟨rfl, Below.refl _ _⟩
  · have HRp := Lib.hid hR; clear hR
    go_enter Try.func19, Try.ntmps19
    go_wp2_with fail
    refine (right_no _ _ _ _ _ _ _ hn HL.out HR.out HRp.out).mono ?_
    rintro e w' ⟨rfl, rfl⟩
    go_wp2_with fail
    go_ret2
    exact ⟨rfl, Below.refl _ _⟩
end Go.Proofs.Ytkgfkchdbbeljaa.Mx

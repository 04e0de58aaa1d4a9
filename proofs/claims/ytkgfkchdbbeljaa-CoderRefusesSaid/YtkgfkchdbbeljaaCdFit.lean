/-
  Whether pieces may stand beside each other: fit; the numbers that were met stand in a map.
-/
import Derived.Test.YtkgfkchdbbeljaaCdSmall
import Derived.Maps.Own
import Derived.Maps.OwnOps
import Derived.Maps.Views
namespace Go.Proofs.Ytkgfkchdbbeljaa.Cd
open Go.ChangeShapes Go.WideShapes Go.ChangeAt Go.RowKit Go.Maps Go.Proofs.Ytkgfkchdbbeljaa.Gf Go.Proofs.Ytkgfkchdbbeljaa.Mx

theorem lawI : Keyed Try.prog 3 := int_keyed Try.underlying3
theorem zeroI (w : World) : (zeroValue 3).run Try.prog w = .ok (.int .i64 0) w := by kernel_rfl
theorem wfI {a : Int} (h : -9223372036854775808 ≤ a ∧ a ≤ 9223372036854775807) : (Lit.int .i64 a).wf = true := by
  simpa [Lit.wf, IntKind.min, IntKind.max, IntKind.bits, IntKind.signed] using h
/-- Block b is a map of the first k numbers. -/
def Met (w : World) (b k : Nat) (z : Nat → Int) : Prop := ∃ D : DataW Unit, w.ownsMap Try.prog 3 (plainElem Try.prog 3) b k D ∧ IsMap D ∧
  (∀ i, i < k → D.atKey (.int .i64 (z i)) (.lit (.int .i64 0)) = .lit (.int .i64 1)) ∧ (∀ a, (∀ i, i < k → z i ≠ a) → D.atKey (.int .i64 a) (.lit (.int .i64 0)) = .lit (.int .i64 0))
section
variable {w w' : World} {b k : Nat} {z : Nat → Int}
theorem Met.made (w : World) (z : Nat → Int) : Met (w.alloc (.map #[] 0)) w.heap.size 0 z :=
  ⟨_, World.ownsMap_made w _ _ _, isMap_empty, fun i hi => by omega, fun a _ => rfl⟩
theorem Met.drewN (h : Met w b k z) (m : Nat) : Met (w.drewN m) b k z := h
theorem Met.alloc (h : Met w b k z) (o : Obj) : Met (w.alloc o) b k z := by
  obtain ⟨D, h1, h2⟩ := h
  exact ⟨D, h1.alloc o, h2⟩
theorem Met.yes (h : Met w b k z) {i : Nat} (hi : i < k) (hw : (Lit.int .i64 (z i)).wf = true) : (Instr.lookup 80 (.map (some b)) (.int .i64 (z i)) false).run Try.prog w = .ok (.int .i64 1) w := by
  obtain ⟨D, h1, _, h3, _⟩ := h
  obtain ⟨c, hr, hat, _⟩ := h1.lookup_int lawI Try.underlying80 Try.underlying3 (zeroI _) (keyOf_int_mk Try.underlying3 hw)
  rw [h3 i hi] at hat
  injection hat with hat
  injection hat with _ hat
  rw [hr, hat]
theorem Met.no (h : Met w b k z) {a : Int} (ha : ∀ i, i < k → z i ≠ a) (hw : (Lit.int .i64 a).wf = true) : (Instr.lookup 80 (.map (some b)) (.int .i64 a) false).run Try.prog w = .ok (.int .i64 0) w := by
  obtain ⟨D, h1, _, _, h4⟩ := h
  obtain ⟨c, hr, hat, _⟩ := h1.lookup_int lawI Try.underlying80 Try.underlying3 (zeroI _) (keyOf_int_mk Try.underlying3 hw)
  rw [h4 a ha] at hat
  injection hat with hat
  injection hat with _ hat
  rw [hr, hat]
theorem Met.put (h : Met w b k z) (hn : k < 4294967296) (hw : (Lit.int .i64 (z k)).wf = true) : ∃ w', (Instr.mapUpdate 80 (.map (some b)) (.int .i64 (z k)) (.int .i64 1)).run Try.prog w = .ok () w' ∧ Met w' b (k + 1) z ∧ w.grownBy w' (some b) := by
  obtain ⟨D, h1, h2, h3, h4⟩ := h
  obtain ⟨w', hr, ho, hg⟩ := h1.update lawI Try.underlying80 (by unfold maxLen; omega) (keyOf_int_mk Try.underlying3 hw) (plainElem_int Try.underlying3 (show (Lit.int .i64 1).wf = true by decide))
  refine ⟨w', hr, ⟨_, ho, h2.put _ _, fun i hi => ?_, fun a ha => ?_⟩, hg⟩
  · by_cases e : z i = z k
    · rw [e]; exact atKey_put_same h2 (by simp [WideAt.IsKeyLit]) _ _
    · rw [atKey_put_other (fun q => e (by injection q))]
      refine h3 i ?_
      rcases Nat.lt_or_ge i k with q | q
      · exact q
      · exact absurd (by rw [show i = k from by omega]) e
  · rw [atKey_put_other (fun q => ha k (by omega) (by injection q with _ q; exact q.symm))]
    exact h4 a fun i hi => ha i (by omega)
end
/-- Pieces that may be. -/
def FitP (n L : Nat) (z : Nat → Int) (t : Nat → ByteArray) : Prop := (∀ i, i < L → 0 ≤ z i ∧ z i < (n : Int)) ∧ (∀ i, i < L → ∀ j, j < i → z i ≠ z j) ∧ Ev L t
def FitPost (n L : Nat) (z : Nat → Int) (t : Nat → ByteArray) (w : World) (e : Ending) (w' : World) : Prop := ∃ b : Bool, e = .returned (.bool b) ∧ (b = true ↔ FitP n L z t) ∧ Below w.heap.size w w'
theorem fit_false {n L : Nat} {z : Nat → Int} {t : Nat → ByteArray} {w w' : World} (h : ¬ FitP n L z t) (hb : Below w.heap.size w w') : FitPost n L z t w (.returned (.bool false)) w' := ⟨false, rfl, ⟨fun q => absurd q (by decide), fun k => absurd k h⟩, hb⟩
def RelFt (n L : Nat) (z : Nat → Int) (t : Nat → ByteArray) (w : World) (I : Value) (wr : World) : Prop := ∃ k : Nat, k ≤ L ∧ I = .int .i64 (k : Int) ∧ FitP n k z t ∧ Met wr w.heap.size k z ∧ Below w.heap.size w wr
set_option maxRecDepth 100000 in
set_option maxHeartbeats 1000000 in
theorem fit_any (c n : Nat) (p : Option Addr) (L cl : Nat) (z : Nat → Int) (t : Nat → ByteArray) (w : World) (hL : L ≤ 4096) (hn : n ≤ 16) (hcn : w.cell? ⟨c, 1, none⟩ = some (.int .i64 (n : Int))) (hP : Pcs w p L z t) :
    Calls Try.prog 27 #[.pointer (some ⟨c, 0, none⟩), .slice p L cl] w (FitPost n L z t w) := by
  have HC := Lib.hid hcn; have HP := Lib.hid hP; clear hcn hP
  have hmm := @run_makeMap Try.prog
  go_enter Try.func27, Try.ntmps27
  go_wp2
  clear hmm
  go_loopw [11] (fun I wr => RelFt n L z t w I wr) (fun I _ => L - (intOf I).toNat)
  case atStart => exact ⟨0, by omega, rfl, ⟨fun i hi => by omega, fun i hi => by omega, fun i hi => by omega⟩, Met.made w z, (Below.refl _ _).alloc (Nat.le_refl _) _⟩
  case round =>
    obtain ⟨k, hk, rfl, hf, hM, hB⟩ := hrel
    have HF := Lib.hid hf; have HM := Lib.hid hM; have HB := Lib.hid hB; clear hf hM hB
    by_cases hlt : k < L
    · have k0 : (k : Int) < (L : Int) := by omega
      have L0 : (0 : Int) < (L : Int) := by omega
      have HPk := Lib.hid (HP.out.below HB.out)
      obtain ⟨B, O, rfl, hc⟩ := HPk.out (by omega)
      have c1 := (hc k hlt).1
      have c2 := (hc k hlt).2
      have c3 := (hc 0 (by omega)).2
      rw [Nat.zero_mul, Nat.add_zero] at c3
      clear hc
      go_wp2_with fail
      have d1 : (wr.alloc (.cells #[.int .i64 (z k), .string (t k)] 41)).cell? ⟨wr.heap.size, 0, none⟩ = some (.int .i64 (z k)) := by rw [World.cell?_alloc_at _ _ _ _ rfl]; rfl
      have d2 : (wr.alloc (.cells #[.int .i64 (z k), .string (t k)] 41)).cell? ⟨wr.heap.size, 1, none⟩ = some (.string (t k)) := by rw [World.cell?_alloc_at _ _ _ _ rfl]; rfl
      have HB1 : Hid (Below w.heap.size w (wr.alloc (.cells #[.int .i64 (z k), .string (t k)] 41))) := HB.out.alloc HB.out.size _
      have HM1 := Lib.hid (HM.out.alloc (.cells #[.int .i64 (z k), .string (t k)] 41))
      have d3 : (wr.alloc (.cells #[.int .i64 (z k), .string (t k)] 41)).cell? ⟨B, O + 1, none⟩ = some (.string (t 0)) := by rw [World.cell?_alloc_past _ _ _ (block_lt_of_cell c3)]; exact c3
      have HC1 : Hid ((wr.alloc (.cells #[.int .i64 (z k), .string (t k)] 41)).cell? ⟨c, 1, none⟩ = some (.int .i64 (n : Int))) := by
        show _ = _
        rw [HB1.out.cell (p := ⟨c, 1, none⟩) (block_lt_of_cell HC.out)]; exact HC.out
      clear c1 c2 c3 HPk HB HM
      generalize wr.alloc (.cells #[.int .i64 (z k), .string (t k)] 41) = w1 at *
      generalize wr.heap.size = g at *
      clear HP
      by_cases hA : z k < 0 ∨ (n : Int) ≤ z k
      · have HN : Hid (¬ FitP n L z t) := fun h => by have := h.1 k hlt; omega
        have HA := Lib.hid hA; clear hA HF
        generalize z k = u at d1 HA
        generalize t k = tk at d2
        generalize t 0 = t0 at d3
        go_quiet ((go_at_call 29; exact Calls.quiet_of_same (numbered_no c n u _ (by exact HC1.out) HA.out)))
        go_wp2
        go_ret
        exact fit_false HN.out (below_drewN HB1.out _)
      · have z0 : 0 ≤ z k := by omega
        have z1 : z k < (n : Int) := by omega
        have HW : Hid ((Lit.int .i64 (z k)).wf = true) := wfI (by omega)
        clear hA
        by_cases hB : ∃ i, i < k ∧ z i = z k
        · have HN : Hid (¬ FitP n L z t) := fun h => by
            obtain ⟨i, hi, e⟩ := hB
            exact h.2.1 k hlt i hi e.symm
          have hlk : ∀ m, (Instr.lookup 80 (.map (some w.heap.size)) (.int .i64 (z k)) false).run Try.prog (w1.drewN m) = .ok (.int .i64 1) (w1.drewN m) := fun m => by
            obtain ⟨i, hi, e⟩ := hB
            rw [← e]
            exact (HM1.out.drewN m).yes hi (by rw [e]; exact HW.out)
          clear hB HF
          generalize z k = u at d1 z0 z1 hlk
          generalize t k = tk at d2
          generalize t 0 = t0 at d3
          go_quiet ((go_at_call 29; exact Calls.quiet_of_same (numbered_yes c n u _ (by exact HC1.out) z0 z1)))
          go_wp2
          go_ret
          exact fit_false HN.out (below_drewN HB1.out _)
        · have HI : Hid (∀ i, i < k → z i ≠ z k) := fun i hi e => hB ⟨i, hi, e⟩
          have hlk : ∀ m, (Instr.lookup 80 (.map (some w.heap.size)) (.int .i64 (z k)) false).run Try.prog (w1.drewN m) = .ok (.int .i64 0) (w1.drewN m) := fun m => (HM1.out.drewN m).no HI.out HW.out
          clear hB
          by_cases hz : (t k).size = (t 0).size
          · have tz : (((t k).size : Int) != ((t 0).size : Int)) = false := by simp [hz]
            have tz' : ((t k).size != (t 0).size) = false := by simp [hz]
            have HX : Hid (FitP n (k + 1) z t) := ⟨fun i hi => by
                by_cases e : i = k
                · subst e; exact ⟨z0, z1⟩
                · exact HF.out.1 i (by omega), fun i hi j hj => by
                by_cases e : i = k
                · subst e; exact fun q => HI.out j hj q.symm
                · exact HF.out.2.1 i (by omega) j hj, fun i hi => by
                by_cases e : i = k
                · subst e; exact hz
                · exact HF.out.2.2 i (by omega)⟩
            clear hz HF
            generalize huu : z k = u at d1 z0 z1 hlk HW
            have HU := Lib.hid huu; clear huu
            generalize t k = tk at d2 tz tz'
            generalize t 0 = t0 at d3 tz tz'
            go_quiet ((go_at_call 29; exact Calls.quiet_of_same (numbered_yes c n u _ (by exact HC1.out) z0 z1)))
            rename_i nq
            obtain ⟨w2, hup, hm2, hg2⟩ := (HM1.out.drewN nq).put (by omega) (by rw [HU.out]; exact HW.out)
            rw [HU.out] at hup
            have HM2 := Lib.hid hm2
            have HB2 : Hid (Below w.heap.size w w2) := (below_drewN HB1.out nq).grown hg2 (below_drewN HB1.out nq).size (fun j hj => by cases hj; exact Nat.le_refl _)
            clear hm2 hg2
            go_wp2
            go_roundw
            case rel => exact ⟨k + 1, by omega, by go_num, HX.out, HM2.out, HB2.out⟩
            case measure => simp [intOf]; omega
          · have HN : Hid (¬ FitP n L z t) := fun h => hz (h.2.2 k hlt)
            have tz : (((t k).size : Int) != ((t 0).size : Int)) = true := by simp; omega
            have tz' : ((t k).size != (t 0).size) = true := by simp [hz]
            clear hz HF
            generalize z k = u at d1 z0 z1 hlk
            generalize t k = tk at d2 tz tz'
            generalize t 0 = t0 at d3 tz tz'
            go_quiet ((go_at_call 29; exact Calls.quiet_of_same (numbered_yes c n u _ (by exact HC1.out) z0 z1)))
            go_wp2
            go_ret
            exact fit_false HN.out (below_drewN HB1.out _)
    · obtain rfl : L = k := by omega
      go_wp2
      go_ret
      exact ⟨true, rfl, ⟨fun _ => HF.out, fun _ => rfl⟩, HB.out⟩
end Go.Proofs.Ytkgfkchdbbeljaa.Cd

/-
  Proved: for every input the law CoderSums returns true, and leaves its arguments as they were. No condition.
-/
import Derived.Test.YtkgfkchdbbeljaaRows
import Derived.WalkKit
import Derived.ProofKit
import Derived.OpenShut
import Derived.ShutString
import Derived.ChangeOld
import Derived.Below
import Derived.Test.YtkgfkchdbbeljaaCdArg
import Derived.Test.YtkgfkchdbbeljaaCdMore
import Derived.Test.YtkgfkchdbbeljaaMxOver
namespace Go.Proofs.Ytkgfkchdbbeljaa.coderSums
open Go.ChangeShapes Go.WideShapes Go.ChangeAt Go.RowKit
open Go.ChangeMaps (open_string shut_string)
set_option linter.unusedVariables false

theorem own : ownKnob Try.prog.godebug = none := by kernel_rfl
theorem laidOut : laidOutB Try.prog = true := by kernel_rfl

open Go.Proofs.Ytkgfkchdbbeljaa.Gf Go.Proofs.Ytkgfkchdbbeljaa.Mx Go.Proofs.Ytkgfkchdbbeljaa.Cd
set_option maxRecDepth 100000 in
set_option maxHeartbeats 4000000 in
theorem out1 (n : Nat) (p : Option Addr) (l cl : Nat) (t : Nat → ByteArray) (p' : Option Addr) (l' cl' : Nat) (w : World) (hS : StrIn w p l cl t) (h : ¬ FewS l t) :
    Calls Try.prog 4 #[.int .u8 (n : Int), .slice p l cl, .slice p' l' cl'] w fun e w' => e = .returned (.bool true) ∧ Below w.heap.size w w' := by
  have HS := Lib.hid hS.1; have HL := Lib.hid hS.2.1
  clear hS
  have H := Lib.hid h; clear h
  go_enter Try.func4, Try.ntmps4
  go_wp2_with fail
  refine wp_over (by kernel_rfl) (by kernel_rfl) ?_
  repeat (go_big_quiet_step (first
    | (go_at_call 7; exact over_make _ (awake_any _))
    | (go_at_call 8; exact over_same _ (few_no p l cl t _ HL.out (HS.out.below (Subtype.property _)) H.out))))
  refine wpQuiet_nil ?_
  rintro wq ⟨⟨w1, hb⟩, hw⟩
  obtain rfl : w1 = wq := hw.symm
  have HB : Hid (Below w.heap.size w w1) := hb
  clear hb hw
  go_wp2_with fail
  refine (awake_any _).mono ?_
  rintro e w3 ⟨rfl, hb3⟩
  have HB3 := Lib.hid (Below.next HB.out hb3); clear hb3
  go_wp2_with fail
  go_ret
  exact ⟨rfl, HB3.out⟩
set_option maxRecDepth 100000 in
set_option maxHeartbeats 4000000 in
theorem out2 (n : Nat) (p : Option Addr) (l cl : Nat) (t : Nat → ByteArray) (p' : Option Addr) (l' cl' : Nat) (t' : Nat → ByteArray) (w : World) (hS : StrIn w p l cl t) (hS' : StrIn w p' l' cl' t') (hf : FewS l t) (h : ¬ FewS l' t') :
    Calls Try.prog 4 #[.int .u8 (n : Int), .slice p l cl, .slice p' l' cl'] w fun e w' => e = .returned (.bool true) ∧ Below w.heap.size w w' := by
  have HS := Lib.hid hS.1; have HL := Lib.hid hS.2.1
  clear hS
  have HS' := Lib.hid hS'.1; have HL' := Lib.hid hS'.2.1
  clear hS'
  have HFw := Lib.hid hf; have H := Lib.hid h; clear hf h
  go_enter Try.func4, Try.ntmps4
  go_wp2_with fail
  refine wp_over (by kernel_rfl) (by kernel_rfl) ?_
  repeat (go_big_quiet_step (first
    | (go_at_call 7; exact over_make _ (awake_any _))
    | (go_at_call_of 8 cl; exact over_same _ (few_yes p l cl t _ HL.out (HS.out.below (Subtype.property _)) HFw.out))
    | (go_at_call_of 8 cl'; exact over_same _ (few_no p' l' cl' t' _ HL'.out (HS'.out.below (Subtype.property _)) H.out))))
  refine wpQuiet_nil ?_
  rintro wq ⟨⟨w1, hb⟩, hw⟩
  obtain rfl : w1 = wq := hw.symm
  have HB : Hid (Below w.heap.size w w1) := hb
  clear hb hw
  go_wp2_with fail
  refine (awake_any _).mono ?_
  rintro e w3 ⟨rfl, hb3⟩
  have HB3 := Lib.hid (Below.next HB.out hb3); clear hb3
  go_wp2_with fail
  go_ret
  exact ⟨rfl, HB3.out⟩
set_option maxRecDepth 100000 in
set_option maxHeartbeats 4000000 in
theorem out3 (n : Nat) (p : Option Addr) (l cl : Nat) (t : Nat → ByteArray) (p' : Option Addr) (l' cl' : Nat) (t' : Nat → ByteArray) (w : World) (hS : StrIn w p l cl t) (hS' : StrIn w p' l' cl' t') (hf : FewS l t) (hf' : FewS l' t') (h : l ≠ l') :
    Calls Try.prog 4 #[.int .u8 (n : Int), .slice p l cl, .slice p' l' cl'] w fun e w' => e = .returned (.bool true) ∧ Below w.heap.size w w' := by
  have HS := Lib.hid hS.1; have HL := Lib.hid hS.2.1
  clear hS
  have HS' := Lib.hid hS'.1; have HL' := Lib.hid hS'.2.1
  clear hS'
  have HFw := Lib.hid hf; have HFw' := Lib.hid hf'
  clear hf hf'
  have t1 : ((l : Int) != (l' : Int)) = true := by simp; omega
  have t1' : (l != l') = true := by simp [h]
  clear h
  go_enter Try.func4, Try.ntmps4
  go_wp2_with fail
  refine wp_over (by kernel_rfl) (by kernel_rfl) ?_
  repeat (go_big_quiet_step (first
    | (go_at_call 7; exact over_make _ (awake_any _))
    | (go_at_call_of 8 cl; exact over_same _ (few_yes p l cl t _ HL.out (HS.out.below (Subtype.property _)) HFw.out))
    | (go_at_call_of 8 cl'; exact over_same _ (few_yes p' l' cl' t' _ HL'.out (HS'.out.below (Subtype.property _)) HFw'.out))))
  refine wpQuiet_nil ?_
  rintro wq ⟨⟨w1, hb⟩, hw⟩
  obtain rfl : w1 = wq := hw.symm
  have HB : Hid (Below w.heap.size w w1) := hb
  clear hb hw
  go_wp2_with fail
  refine (awake_any _).mono ?_
  rintro e w3 ⟨rfl, hb3⟩
  have HB3 := Lib.hid (Below.next HB.out hb3); clear hb3
  go_wp2_with fail
  go_ret
  exact ⟨rfl, HB3.out⟩
set_option maxRecDepth 100000 in
set_option maxHeartbeats 4000000 in
theorem out4 (n : Nat) (p : Option Addr) (cl : Nat) (t : Nat → ByteArray) (p' : Option Addr) (cl' : Nat) (t' : Nat → ByteArray) (w : World) (hS : StrIn w p 0 cl t) (hS' : StrIn w p' 0 cl' t') (hf : FewS 0 t) (hf' : FewS 0 t') :
    Calls Try.prog 4 #[.int .u8 (n : Int), .slice p 0 cl, .slice p' 0 cl'] w fun e w' => e = .returned (.bool true) ∧ Below w.heap.size w w' := by
  have HS := Lib.hid hS.1; have HL := Lib.hid hS.2.1
  clear hS
  have HS' := Lib.hid hS'.1; have HL' := Lib.hid hS'.2.1
  clear hS'
  have HFw := Lib.hid hf; have HFw' := Lib.hid hf'
  clear hf hf'
  go_enter Try.func4, Try.ntmps4
  go_wp2_with fail
  refine wp_over (by kernel_rfl) (by kernel_rfl) ?_
  repeat (go_big_quiet_step (first
    | (go_at_call 7; exact over_make _ (awake_any _))
    | (go_at_call_of 8 cl; exact over_same _ (few_yes p 0 cl t _ HL.out (HS.out.below (Subtype.property _)) HFw.out))
    | (go_at_call_of 8 cl'; exact over_same _ (few_yes p' 0 cl' t' _ HL'.out (HS'.out.below (Subtype.property _)) HFw'.out))))
  refine wpQuiet_nil ?_
  rintro wq ⟨⟨w1, hb⟩, hw⟩
  obtain rfl : w1 = wq := hw.symm
  have HB : Hid (Below w.heap.size w w1) := hb
  clear hb hw
  go_wp2_with fail
  refine (awake_any _).mono ?_
  rintro e w3 ⟨rfl, hb3⟩
  have HB3 := Lib.hid (Below.next HB.out hb3); clear hb3
  go_wp2_with fail
  go_ret
  exact ⟨rfl, HB3.out⟩
set_option maxRecDepth 100000 in
set_option maxHeartbeats 4000000 in
theorem out5 (n : Nat) (B O l cl : Nat) (t : Nat → ByteArray) (B' O' cl' : Nat) (t' : Nat → ByteArray) (w : World) (hl : 1 ≤ l) (hS : StrIn w (some ⟨B, O, none⟩) l cl t) (hS' : StrIn w (some ⟨B', O', none⟩) l cl' t') (hf : FewS l t) (hf' : FewS l t') (h : (t 0).size ≠ (t' 0).size) :
    Calls Try.prog 4 #[.int .u8 (n : Int), .slice (some ⟨B, O, none⟩) l cl, .slice (some ⟨B', O', none⟩) l cl'] w fun e w' => e = .returned (.bool true) ∧ Below w.heap.size w w' := by
  have HS := Lib.hid hS.1; have HL := Lib.hid hS.2.1
  clear hS
  have HS' := Lib.hid hS'.1; have HL' := Lib.hid hS'.2.1
  clear hS'
  have HFw := Lib.hid hf; have HFw' := Lib.hid hf'
  clear hf hf'
  have t1 : ((l : Int) != (l : Int)) = false := by simp
  have t1' : (l != l) = false := by simp
  have t2 : ((l : Int) == 0) = false := by simp; omega
  have t2' : (l == 0) = false := by simp; omega
  have l0 : (0 : Int) < (l : Int) := by omega
  have c0 := fun q : Over w => over_cell q (HS.out.at0 (by omega))
  have c0' := fun q : Over w => over_cell q (HS'.out.at0 (by omega))
  have tz : (((t 0).size : Int) != ((t' 0).size : Int)) = true := by simp; omega
  have tz' : ((t 0).size != (t' 0).size) = true := by simp [h]
  clear h
  generalize t 0 = t0 at c0 tz tz'
  generalize t' 0 = t0' at c0' tz tz'
  go_enter Try.func4, Try.ntmps4
  go_wp2_with fail
  refine wp_over (by kernel_rfl) (by kernel_rfl) ?_
  repeat (go_big_quiet_step (first
    | (go_at_call 7; exact over_make _ (awake_any _))
    | (go_at_call_of 8 cl; exact over_same _ (few_yes (some ⟨B, O, none⟩) l cl t _ HL.out (HS.out.below (Subtype.property _)) HFw.out))
    | (go_at_call_of 8 cl'; exact over_same _ (few_yes (some ⟨B', O', none⟩) l cl' t' _ HL'.out (HS'.out.below (Subtype.property _)) HFw'.out))))
  refine wpQuiet_nil ?_
  rintro wq ⟨⟨w1, hb⟩, hw⟩
  obtain rfl : w1 = wq := hw.symm
  have HB : Hid (Below w.heap.size w w1) := hb
  clear hb hw
  clear c0 c0'
  go_wp2_with fail
  refine (awake_any _).mono ?_
  rintro e w3 ⟨rfl, hb3⟩
  have HB3 := Lib.hid (Below.next HB.out hb3); clear hb3
  go_wp2_with fail
  go_ret
  exact ⟨rfl, HB3.out⟩
def RelSl (w : World) (n : Nat) (u : Nat → ByteArray) (V I : Value) (wr : World) : Prop := ∃ i : Nat, i ≤ n ∧ I = .int .i64 (i : Int) ∧ wr.ownsRow w.heap.size 9 1 V i (sl i u) ∧ Below w.heap.size w wr
def RelOv (n : Nat) (w : World) (I : Value) (wr : World) : Prop := ∃ i : Nat, i ≤ n ∧ I = .int .i64 (i : Int) ∧ Below w.heap.size w wr
set_option maxRecDepth 100000 in
set_option maxHeartbeats 4000000 in
theorem main (n : Nat) (B O l cl : Nat) (t : Nat → ByteArray) (B' O' cl' : Nat) (t' : Nat → ByteArray) (w : World) (hn : n < 256) (hl : 1 ≤ l) (hS : StrIn w (some ⟨B, O, none⟩) l cl t) (hS' : StrIn w (some ⟨B', O', none⟩) l cl' t') (hf : FewS l t) (hf' : FewS l t') (h : (t 0).size = (t' 0).size) :
    Calls Try.prog 4 #[.int .u8 (n : Int), .slice (some ⟨B, O, none⟩) l cl, .slice (some ⟨B', O', none⟩) l cl'] w fun e w' => e = .returned (.bool true) ∧ Below w.heap.size w w' := by
  have HS := Lib.hid hS.1; have HL := Lib.hid hS.2.1
  clear hS
  have HS' := Lib.hid hS'.1; have HL' := Lib.hid hS'.2.1
  clear hS'
  have HFw := Lib.hid hf; have HFw' := Lib.hid hf'
  clear hf hf'
  have t1 : ((l : Int) != (l : Int)) = false := by simp
  have t1' : (l != l) = false := by simp
  have t2 : ((l : Int) == 0) = false := by simp; omega
  have t2' : (l == 0) = false := by simp; omega
  have l0 : (0 : Int) < (l : Int) := by omega
  have c0 := fun q : Over w => over_cell q (HS.out.at0 (by omega))
  have c0' := fun q : Over w => over_cell q (HS'.out.at0 (by omega))
  have tz : (((t 0).size : Int) != ((t' 0).size : Int)) = false := by simp [h]
  have tz' : ((t 0).size != (t' 0).size) = false := by simp [h]
  have hsz : (t 0).size ≤ 4096 := by have := HFw.out.2.1 0 (by omega); omega
  have hl99 := HFw.out.1
  generalize hms : (t 0).size = M at h hsz
  have HMs := Lib.hid hms; have HMs' := Lib.hid h.symm
  clear hms h
  generalize t 0 = t0 at c0 tz tz'
  generalize t' 0 = t0' at c0' tz tz'
  obtain ⟨iS, hiS, hzS, hsS, hbS⟩ := info_parts infoS
  have HIS := Lib.hid hiS; have HZS := Lib.hid hzS; have HSS := Lib.hid hsS; have HBS := Lib.hid hbS
  clear hiS hzS hsS hbS
  go_enter Try.func4, Try.ntmps4
  go_wp2_with fail
  refine wp_over (by kernel_rfl) (by kernel_rfl) ?_
  repeat (go_big_quiet_step (first
    | (go_at_call 7; exact over_make _ (awake_any _))
    | (go_at_call_of 8 cl; exact over_same _ (few_yes (some ⟨B, O, none⟩) l cl t _ HL.out (HS.out.below (Subtype.property _)) HFw.out))
    | (go_at_call_of 8 cl'; exact over_same _ (few_yes (some ⟨B', O', none⟩) l cl' t' _ HL'.out (HS'.out.below (Subtype.property _)) HFw'.out))))
  refine wpQuiet_nil ?_
  rintro wq ⟨⟨w1, hb⟩, hw⟩
  obtain rfl : w1 = wq := hw.symm
  have HB : Hid (Below w.heap.size w w1) := hb
  clear hb hw
  clear c0 c0' tz tz' t1 t1' t2 t2'
  by_cases hln : l ≤ n ∧ n ≤ 16
  · obtain ⟨hln, hn16⟩ := hln
    go_wp2_with fail
    refine (new_yes l n hl hln hn16 _).mono ?_
    rintro e w3 ⟨c, fb, TB, r, x, rfl, hC, hb3⟩
    have HC := Lib.hid hC; have HB3 := Lib.hid (Below.next HB.out hb3); clear hC hb3
    have HS3 := Lib.hid (HS.out.below HB3.out); have HS3' := Lib.hid (HS'.out.below HB3.out)
    by_cases hev : Ev l t
    · have HZ : Hid (∀ j, j < l → (t j).size = M) := fun j hj => by rw [hev j hj, HMs.out]
      clear hev
      go_wp2_with fail
      refine (make_yes c l n fb TB r x B O cl M t _ HC.out HS3.out HZ.out hsz).mono ?_
      rintro e w4 ⟨B4, cap4, rfl, hcap4, hS4, hb4⟩
      have HS4 := Lib.hid hS4; have HB4 := Lib.hid (Below.next HB3.out hb4); have HC4 := Lib.hid (HC.out.below hb4); clear hS4 hb4 HC HS3
      have HS4' := Lib.hid (HS'.out.below HB4.out)
      by_cases hev' : Ev l t'
      · have HZ' : Hid (∀ j, j < l → (t' j).size = M) := fun j hj => by rw [hev' j hj, HMs'.out]
        clear hev'
        go_wp2_with fail
        refine (make_yes c l n fb TB r x B' O' cl' M t' _ HC4.out HS4'.out HZ'.out hsz).mono ?_
        rintro e w5 ⟨B5, cap5, rfl, hcap5, hS5, hb5⟩
        have HS5 := Lib.hid hS5; have HB5 := Lib.hid (Below.next HB4.out hb5); have HC5 := Lib.hid (HC4.out.below hb5); have HX5 := Lib.hid (HS4.out.below hb5); clear hS5 hb5 HC4 HS4 HS4' HS3'
        go_wp2_with fail
        go_loopw [13, 14] (fun V I wr => RelSl w5 l (fun j => sm (t j) (t' j)) V I wr) (fun _ I _ => l - (intOf I).toNat)
        case atStart => exact ⟨0, by omega, rfl, World.ownsRow_nil _ _ _ _, Below.refl _ _⟩
        case round =>
          obtain ⟨i, hi, rfl, hO, hb6⟩ := hrel
          have HO := Lib.hid hO; have HB6 := Lib.hid hb6; clear hO hb6
          by_cases hlt : i < l
          · have i0 : (i : Int) < (l : Int) := by omega
            have ca := (HS.out.below (Below.next HB5.out HB6.out)).at_ hlt
            have cb := (HS'.out.below (Below.next HB5.out HB6.out)).at_ hlt
            have HZi := Lib.hid (HZ.out i hlt); have HZi' := Lib.hid (HZ'.out i hlt)
            have HT := Lib.hid (sl_succ i (fun j => sm (t j) (t' j)))
            have HT2 : Hid (sl (i + 1) (fun j => sm (t j) (t' j)) = sl i (fun j => sm (t j) (t' j)) ++ [.string (sm (t i) (t' i))]) := HT.out
            clear HT
            generalize t i = ti at ca HZi HT2
            generalize t' i = ti' at cb HZi' HT2
            have HML : Hid (i + 1 ≤ maxLen) := by show _ ≤ _; unfold maxLen; omega
            have HMB : Hid ((i + 1) * 16 ≤ 140737488355328) := by show _ ≤ _; omega
            go_wp2_with fail
            go_region_law (first
              | (refine step_own _ rfl (.tmp 90) (.tmp 100) 22 rfl w5.heap.size 9 iS (.string ⟨#[]⟩) 1 16 Try.underlying22 HIS.out HZS.out HSS.out HBS.out rfl (by decide) u13 i (sl i (fun j => sm (t j) (t' j))) (by simp [Act.eval]) (by exact HO8.out.alloc _) ⟨w8.heap.size, 0, none⟩ 1 1 [.string (sm ti ti')] (by simp [Act.eval]) rfl (by exact HNW.out) (one_one rfl) HML.out HMB.out (by exact HBS8.out) ?_
                 intro v' w9 hown' hgrow _
                 have HN : Hid (w9.ownsRow w5.heap.size 9 1 v' (i + 1) (sl (i + 1) (fun j => sm (t j) (t' j)))) := by
                   show World.ownsRow _ _ _ _ _ _ _
                   rw [HT2.out]; exact hown'
                 have HB9 : Hid (Below w5.heap.size w5 w9) := HBA.out.grown hgrow (by exact HBS8.out) (fun g e => (HO8.out.lt g e).1)
                 clear hown' hgrow)
              | (go_simp
                 go_at_call 15
                 refine (sum_any ti ti' M _ HZi.out HZi'.out hsz).mono ?_
                 rintro e w8 ⟨rfl, hb8⟩
                 have HB8 := Lib.hid (Below.next (below_drewN HB6.out 1) hb8)
                 have HO8 := Lib.hid (own_below (own_drewN HO.out 1) hb8 (Nat.le_refl _))
                 have HNW := Lib.hid (one_news w8 (.string (sm ti ti')) 9)
                 have HBS8 := Lib.hid (one_base HB8.out.size (.cells #[.string (sm ti ti')] 9))
                 have HBA : Hid (Below w5.heap.size w5 (w8.alloc (.cells #[.string (sm ti ti')] 9))) := HB8.out.alloc HB8.out.size _
                 clear hb8))
            all_goals
              go_wp2
              go_roundw
              case rel => exact ⟨i + 1, by omega, by go_num, HN.out, HB9.out⟩
              case measure => simp [intOf]; omega
          · obtain rfl : l = i := by omega
            obtain ⟨g, cap, hv, _⟩ := HO.out.form (by omega)
            subst hv
            have HO2 := Lib.hid (own_strs HO.out)
            have HC6 := Lib.hid (HC5.out.below HB6.out)
            have HBw := Lib.hid (Below.next HB5.out HB6.out)
            have HX6 := Lib.hid (HX5.out.below HB6.out); have HY6 := Lib.hid (HS5.out.below HB6.out)
            go_wp2_with fail
            refine (make_yes c l n fb TB r x g 0 cap M (fun j => sm (t j) (t' j)) _ HC6.out HO2.out (fun j hj => by show (sm (t j) (t' j)).size = M; unfold sm; rw [bs_size]; exact HZ.out j hj) hsz).mono ?_
            rintro e w7 ⟨B7, cap7, rfl, hcap7, hS7, hb7⟩
            have HS7 := Lib.hid hS7; have HB7 := Lib.hid (Below.next HBw.out hb7)
            have HX7 := Lib.hid (HX6.out.below hb7); have HY7 := Lib.hid (HY6.out.below hb7)
            have HSum : Hid (∀ i, pc l M x (fun j => sm (t j) (t' j)) i = sm (pc l M x t i) (pc l M x t' i)) := fun i => pc_sum (fun j hj p hp => by
              show kt (sm (t j) (t' j)) p = _
              unfold sm
              exact kt_bs (by rw [HZ.out j hj]; exact hp)) i
            clear hS7 hb7 HC6 HO2 HO HC5 HX6 HY6 HX5 HS5
            have tn : ((n : Int) != (n : Int)) = false := by simp
            have tn' : (n != n) = false := by simp
            go_wp2_with fail
            clear tn tn'
            go_loopw [17] (fun I wr => RelOv n w7 I wr) (fun I _ => n - (intOf I).toNat)
            case atStart => exact ⟨0, by omega, rfl, Below.refl _ _⟩
            case round =>
              obtain ⟨i, hi, rfl, hb8⟩ := hrel
              have HB8 := Lib.hid hb8; clear hb8
              by_cases hlt : i < n
              · have i0 : (i : Int) < (n : Int) := by omega
                have HZ8 := Lib.hid ((HS7.out.below HB8.out).at_ hlt)
                have HX8 := Lib.hid ((HX7.out.below HB8.out).at_ hlt)
                have HY8 := Lib.hid ((HY7.out.below HB8.out).at_ hlt)
                have c1 : ∀ q : Over wr, q.val.cell? ⟨B7, i, none⟩ = some (.string (sm (pc l M x t i) (pc l M x t' i))) := fun q => by
                  have := over_cell q HZ8.out; rw [HSum.out i] at this; rwa [Nat.zero_add] at this
                have c2 : ∀ q : Over wr, q.val.cell? ⟨B4, i, none⟩ = some (.string (pc l M x t i)) := fun q => by have := over_cell q HX8.out; rwa [Nat.zero_add] at this
                have c3 : ∀ q : Over wr, q.val.cell? ⟨B5, i, none⟩ = some (.string (pc l M x t' i)) := fun q => by have := over_cell q HY8.out; rwa [Nat.zero_add] at this
                have HPx := Lib.hid (pc_size l M x t i); have HPy := Lib.hid (pc_size l M x t' i)
                clear HZ8 HX8 HY8
                generalize pc l M x t i = px at c1 c2 HPx
                generalize pc l M x t' i = py at c1 c3 HPy
                generalize hsm : sm px py = ps at c1
                have HSM := Lib.hid hsm; clear hsm
                have HSumC : Hid (∀ q : Over wr, Calls Try.prog 15 #[.string px, .string py] q.val fun e w' => e = .returned (.string ps) ∧ Below q.val.heap.size q.val w') := fun q => by
                  rw [← HSM.out]; exact sum_any px py M _ HPx.out HPy.out hsz
                go_wp2_with fail
                refine wp_over (by kernel_rfl) (by kernel_rfl) ?_
                repeat (go_big_quiet_step ((go_at_call 15; exact over_make _ (HSumC.out _))))
                refine wpQuiet_nil ?_
                rintro wq ⟨⟨w9, hb⟩, hw⟩
                obtain rfl : w9 = wq := hw.symm
                have HB9 : Hid (Below wr.heap.size wr w9) := hb
                clear hb hw c1 c2 c3
                go_wp2
                go_roundw
                case rel => exact ⟨i + 1, by omega, by go_num, Below.next HB8.out HB9.out⟩
                case measure => simp [intOf]; omega
              · obtain rfl : n = i := by omega
                go_wp2
                go_ret
                exact ⟨rfl, Below.next HB7.out HB8.out⟩
      · have HMk : Hid (l ≠ l ∨ ¬ Ev l t') := Or.inr hev'
        clear hev'
        go_wp2_with fail
        refine (make_no c l n fb TB r x _ l cl' t' _ (by omega) HC4.out HS4'.out HMk.out).mono ?_
        rintro e w5 ⟨rfl, hw⟩
        obtain rfl : w4 = w5 := hw.symm
        clear hw
        go_wp2_with fail
        go_ret
        exact ⟨rfl, HB4.out⟩
    · have HMk : Hid (l ≠ l ∨ ¬ Ev l t) := Or.inr hev
      clear hev
      go_wp2_with fail
      refine (make_no c l n fb TB r x _ l cl t _ (by omega) HC.out HS3.out HMk.out).mono ?_
      rintro e w4 ⟨rfl, hw⟩
      obtain rfl : w3 = w4 := hw.symm
      clear hw
      by_cases hev' : Ev l t'
      · have HZ' : Hid (∀ j, j < l → (t' j).size = M) := fun j hj => by rw [hev' j hj, HMs'.out]
        clear hev'
        go_wp2_with fail
        refine (make_yes c l n fb TB r x B' O' cl' M t' _ HC.out HS3'.out HZ'.out hsz).mono ?_
        rintro e w5 ⟨B5, cap5, rfl, _, _, hb5⟩
        have HB5 := Lib.hid (Below.next HB3.out hb5); clear hb5
        go_wp2_with fail
        go_ret
        exact ⟨rfl, HB5.out⟩
      · have HMk' : Hid (l ≠ l ∨ ¬ Ev l t') := Or.inr hev'
        clear hev'
        go_wp2_with fail
        refine (make_no c l n fb TB r x _ l cl' t' _ (by omega) HC.out HS3'.out HMk'.out).mono ?_
        rintro e w5 ⟨rfl, hw⟩
        obtain rfl : w3 = w5 := hw.symm
        clear hw
        go_wp2_with fail
        go_ret
        exact ⟨rfl, HB3.out⟩
  · have HNo : Hid ((l : Int) < 1 ∨ (n : Int) < (l : Int) ∨ (16 : Int) < (n : Int)) := by show _ ∨ _; omega
    clear hln
    go_wp2_with fail
    refine (new_no _ _ HNo.out _).mono ?_
    rintro e w3 ⟨rfl, hw⟩
    obtain rfl : w1 = w3 := hw.symm
    clear hw
    go_wp2_with fail
    refine (make_nil _ l cl _).mono ?_
    rintro e w4 ⟨rfl, hw⟩
    obtain rfl : w1 = w4 := hw.symm
    clear hw
    go_wp2_with fail
    refine (make_nil _ l cl' _).mono ?_
    rintro e w5 ⟨rfl, hw⟩
    obtain rfl : w1 = w5 := hw.symm
    clear hw
    go_wp2_with fail
    go_ret
    exact ⟨rfl, HB.out⟩
/-! ### STEP 1: THE WALK: the Go text returns true, AND WRITES NOTHING THAT WAS THERE: 'Below w.heap.size w w'' (Derived/Below.lean: '.refl', '.alloc', '.drew', '.setCell' at a new block, '.trans'). Open each 'IsRow' by 'rcases' AHEAD of 'go_enter'; part every test ahead of the walk. -/
theorem walk (a0 : Int) (a1 : Option Addr) (len1 cap1 : Nat) (z1 : (Nat → ByteArray)) (a2 : Option Addr) (len2 cap2 : Nat) (z2 : (Nat → ByteArray)) (w : World) (w0 : (Lit.int .u8 a0).wf = true) (w1 : Cd.StrIn w a1 len1 cap1 z1) (w2 : Cd.StrIn w a2 len2 cap2 z2) :
    Calls Try.prog 4 #[.int .u8 a0, .slice a1 len1 cap1, .slice a2 len2 cap2] w fun e w' => e = .returned (.bool true) ∧ Below w.heap.size w w' := by
  obtain ⟨n, rfl, hn⟩ := u8_nat w0
  by_cases hf : FewS len1 z1
  · by_cases hf' : FewS len2 z2
    · by_cases hl : len1 = len2
      · subst hl
        by_cases h0 : len1 = 0
        · subst h0
          exact out4 n a1 cap1 z1 a2 cap2 z2 w w1 w2 hf hf'
        · obtain ⟨B, O, rfl, _⟩ := w1.1 (by omega)
          obtain ⟨B', O', rfl, _⟩ := w2.1 (by omega)
          by_cases hz : (z1 0).size = (z2 0).size
          · exact main n B O len1 cap1 z1 B' O' cap2 z2 w hn (by omega) w1 w2 hf hf' hz
          · exact out5 n B O len1 cap1 z1 B' O' cap2 z2 w (by omega) w1 w2 hf hf' hz
      · exact out3 n a1 len1 cap1 z1 a2 len2 cap2 z2 w w1 w2 hf hf' hl
    · exact out2 n a1 len1 cap1 z1 a2 len2 cap2 z2 w w1 w2 hf hf'
  · exact out1 n a1 len1 cap1 z1 a2 len2 cap2 w w1 hf

/-! ### THE ROW's STEP: WRITTEN OUT: LEAVE IT -/
set_option maxRecDepth 100000 in
theorem lifted (os : Os) (started : os.Started) (H : Type) (enc : TypeId × Value → H) :
    ReturnsInHanded {} Try.checked os 4 .any (Rows.coderSumsSpec.pre6 enc Try.prog Try.f4 Rows.coderSumsRow.domain false) (Rows.coderSumsSpec.post enc Try.prog Try.f4 false true false false) := by
  refine returnsInHanded_of_change (C := Try.checked) own started (by kernel_rfl) Try.func4
    (ChangeSpec.witness6 (enc := enc) (C := Try.checked) false ⟨#[], #[.int .u8 0, .slice none 0 0, .slice none 0 0], []⟩ 8 (by kernel_rfl) (by kernel_rfl) (by kernel_rfl) (by kernel_rfl)) ?_
  intro W base args ds gs before hval0 hW hcnd _
  have hval : ∀ (j : Nat) t v, Try.f4.params[j]? = some t → args[j]? = some v → Value.okWide Try.prog W .any base t v := hval0
  have hW' := hW
  obtain ⟨p, q, hA0, hV, rfl, hfz, hnd⟩ := hW
  have hA : DataW.TrodAll enc Try.prog W 0 (fun _ => true) true Try.f4.params.toList args.toList ds p := hA0
  rw [Try.params4] at hA hval
  obtain ⟨v0, vs0, d0, ds0, p0, q0, hargs, rfl, rfl, h0, r0⟩ := trodAll_cons hA
  obtain ⟨v1, vs1, d1, ds1, p1, q1, rfl, rfl, rfl, h1, r1⟩ := trodAll_cons r0
  obtain ⟨v2, vs2, d2, ds2, p2, q2, rfl, rfl, rfl, h2, r2⟩ := trodAll_cons r1
  obtain ⟨rfl, rfl, rfl⟩ := trodAll_nil r2
  obtain rfl : args = #[v0, v1, v2] := by cases args; simp_all
  obtain ⟨rfl, rfl⟩ := trodVars_none hV
  obtain ⟨a0, rfl, rfl, rfl, w0⟩ := open_int Try.underlying5 (hval 0 5 v0 rfl rfl) h0
  obtain ⟨a1, len1, cap1, rfl⟩ := okWide_slice Try.underlying22 (hval 1 22 v1 rfl rfl)
  have k1 := h1
  have lt1 : ∀ x ∈ p1, x.block < W.heap.size := by obtain ⟨m, hm⟩ := k1; exact DataW.trod_lt m _ _ _ hm
  obtain ⟨z1, w1⟩ : ∃ z : (Nat → ByteArray), Cd.StrIn W a1 len1 cap1 z := Cd.strs_of h1
  obtain ⟨a2, len2, cap2, rfl⟩ := okWide_slice Try.underlying22 (hval 2 22 v2 rfl rfl)
  have k2 := h2
  have lt2 : ∀ x ∈ p2, x.block < W.heap.size := by obtain ⟨m, hm⟩ := k2; exact DataW.trod_lt m _ _ _ hm
  obtain ⟨z2, w2⟩ : ∃ z : (Nat → ByteArray), Cd.StrIn W a2 len2 cap2 z := Cd.strs_of h2
  clear hA0 hval0
  refine (walk a0 a1 len1 cap1 z1 a2 len2 cap2 z2 W w0 w1 w2).mono fun e W' ⟨he, bel⟩ => ?_
  subst he
  exact ⟨_, rfl, _, _, _, [], _, [], hW', trodAll_mk1 (shut_bool Try.underlying4 _), (trodAll_cons_mk (shut_int Try.underlying5 w0) (trodAll_cons_mk (Below.trod laidOut (by kernel_rfl) (of_decide_eq_true (by kernel_rfl)) k1 bel lt1) (trodAll_cons_mk (Below.trod laidOut (by kernel_rfl) (of_decide_eq_true (by kernel_rfl)) k2 bel lt2) trodAll_mk0))), rfl, bel.frame _, fun h => by cases h⟩

theorem over : Rows.coderSumsRow.holds Try.pinned (OpenSpec.ofChange Rows.coderSumsSpec) :=
  OpenClaim.holds_of_wide 4 Try.f4 rfl rfl rfl rfl rfl rfl rfl ⟨rfl, rfl, rfl, rfl, rfl⟩ rfl rfl rfl rfl rfl (by kernel_rfl) Try.func4 (by kernel_rfl)
    (of_decide_eq_true (by kernel_rfl)) (by unfold Func.isWrapper; first | (rw [if_pos (by decide +kernel)]; kernel_rfl) | (rw [if_neg (by decide +kernel)]; exact ⟨rfl, rfl⟩))
    (fun os started H enc _ => lifted os started H enc)

/-- ████ THE STATEMENT ████ -/
theorem proved : Rows.CoderSumsSaid := over
#print axioms proved
end Go.Proofs.Ytkgfkchdbbeljaa.coderSums

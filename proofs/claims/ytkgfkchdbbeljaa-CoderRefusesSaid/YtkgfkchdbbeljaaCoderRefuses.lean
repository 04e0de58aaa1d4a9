/-
  Proved: for every input the law CoderRefuses returns true, and leaves its arguments as they were. No condition.
-/
import Derived.Test.YtkgfkchdbbeljaaRows
import Derived.WalkKit
import Derived.ProofKit
import Derived.OpenShut
import Derived.ShutString
import Derived.ChangeOld
import Derived.Below
import Derived.Test.YtkgfkchdbbeljaaCdArg
import Derived.Test.YtkgfkchdbbeljaaCdMore
import Derived.Test.YtkgfkchdbbeljaaMxOver
namespace Go.Proofs.Ytkgfkchdbbeljaa.coderRefuses
open Go.ChangeShapes Go.WideShapes Go.ChangeAt Go.RowKit
open Go.ChangeMaps (open_string shut_string)
set_option linter.unusedVariables false

theorem own : ownKnob Try.prog.godebug = none := by kernel_rfl
theorem laidOut : laidOutB Try.prog = true := by kernel_rfl

open Go.Proofs.Ytkgfkchdbbeljaa.Gf Go.Proofs.Ytkgfkchdbbeljaa.Mx Go.Proofs.Ytkgfkchdbbeljaa.Cd
def RelSl (w : World) (n : Nat) (u : Nat → ByteArray) (V I : Value) (wr : World) : Prop := ∃ i : Nat, i ≤ n ∧ I = .int .i64 (i : Int) ∧ wr.ownsRow w.heap.size 9 1 V i (sl i u) ∧ Below w.heap.size w wr
/-- The first i pieces may be, and all are as long. -/
def Good (n L : Nat) (z : Nat → Int) (t : Nat → ByteArray) (i : Nat) : Prop := Ev L t ∧ (∀ a, a < i → 0 ≤ z a ∧ z a < (n : Int)) ∧ ∀ a, a < i → ∀ b, b < a → z a ≠ z b
/-- .. and the next one, as far as it was held against the first j. -/
def Good2 (n L : Nat) (z : Nat → Int) (t : Nat → ByteArray) (i j : Nat) : Prop := Good n L z t i ∧ (0 ≤ z i ∧ z i < (n : Int)) ∧ ∀ b, b < j → z i ≠ z b
theorem good_next {n L : Nat} {z : Nat → Int} {t : Nat → ByteArray} {i : Nat} : Good2 n L z t i i ↔ Good n L z t (i + 1) := by
  constructor
  · rintro ⟨⟨h1, h2, h3⟩, h4, h5⟩
    refine ⟨h1, fun a ha => ?_, fun a ha b hb => ?_⟩
    · by_cases e : a = i
      · subst e; exact h4
      · exact h2 a (by omega)
    · by_cases e : a = i
      · subst e; exact h5 b hb
      · exact h3 a (by omega) b hb
  · rintro ⟨h1, h2, h3⟩
    exact ⟨⟨h1, fun a ha => h2 a (by omega), fun a ha => h3 a (by omega)⟩, h2 i (by omega), h3 i (by omega)⟩
theorem good_fit {n L : Nat} {z : Nat → Int} {t : Nat → ByteArray} : Good n L z t L ↔ FitP n L z t := ⟨fun h => ⟨h.2.1, h.2.2, h.1⟩, fun h => ⟨h.2.2, h.1, h.2.1⟩⟩
def RelO (n L : Nat) (z : Nat → Int) (t : Nat → ByteArray) (w : World) (F I : Value) (wr : World) : Prop := ∃ (i m : Nat) (b : Bool), i ≤ L ∧ F = .bool b ∧ I = .int .i64 (i : Int) ∧ (b = false ↔ Good n L z t i) ∧ wr = w.drewN m
def RelI (n L i : Nat) (z : Nat → Int) (t : Nat → ByteArray) (w : World) (F I : Value) (wr : World) : Prop := ∃ (j m : Nat) (b : Bool), j ≤ i ∧ F = .bool b ∧ I = .int .i64 (j : Int) ∧ (b = false ↔ Good2 n L z t i j) ∧ wr = w.drewN m
def RelA (k : Nat) (w : World) (I : Value) (wr : World) : Prop := ∃ i : Nat, i ≤ k ∧ I = .int .i64 (i : Int) ∧ Below w.heap.size w wr
set_option maxRecDepth 100000 in
set_option maxHeartbeats 8000000 in
theorem main (k n : Nat) (hk : k < 256) (hn : n < 256) (p : Option Addr) (L cl : Nat) (z : Nat → Int) (t : Nat → ByteArray) (at_ : Int) (w : World) (hP : Pcs w p L z t) (hL : L ≤ maxLen) (hcl : L ≤ cl) :
    Calls Try.prog 5 #[.int .u8 (k : Int), .int .u8 (n : Int), .slice p L cl, .int .i64 at_] w fun e w' => e = .returned (.bool true) ∧ Below w.heap.size w w' := by
  unfold maxLen at hL
  have HP := Lib.hid hP; clear hP
  obtain ⟨iS, hiS, hzS, hsS, hbS⟩ := info_parts infoS
  have HIS := Lib.hid hiS; have HZS := Lib.hid hzS; have HSS := Lib.hid hsS; have HBS := Lib.hid hbS
  clear hiS hzS hsS hbS
  go_enter Try.func5, Try.ntmps5
  go_wp2_with fail
  refine (awake_any _).mono ?_
  rintro e w1 ⟨rfl, hb1⟩
  have HB1 := Lib.hid hb1; clear hb1
  by_cases h40 : 40 < L
  · have d1 : decide ((40 : Int) < (L : Int)) = true := by simp; omega
    go_wp2_with fail
    refine (awake_any _).mono ?_
    rintro e w3 ⟨rfl, hb3⟩
    have HB3 := Lib.hid (Below.next HB1.out hb3); clear hb3
    go_wp2_with fail
    go_ret
    exact ⟨rfl, HB3.out⟩
  · have d1 : decide ((40 : Int) < (L : Int)) = false := by simp; omega
    go_wp2_with fail
    clear d1
    go_loopw [9, 10] (fun V I wr => RelSl w1 L t V I wr) (fun _ I _ => L - (intOf I).toNat)
    case atStart => exact ⟨0, by omega, rfl, World.ownsRow_nil _ _ _ _, Below.refl _ _⟩
    case round =>
      obtain ⟨i, hi, rfl, hO, hb2⟩ := hrel
      have HO := Lib.hid hO; have HB2 := Lib.hid hb2; clear hO hb2
      have HBw := Lib.hid (Below.next HB1.out HB2.out)
      by_cases hlt : i < L
      · have i0 : (i : Int) < (L : Int) := by omega
        obtain ⟨B, O, hp, hc⟩ := (HP.out.below HBw.out) (by omega)
        subst hp
        have ci := (hc i hlt).2
        clear hc
        have HT := Lib.hid (sl_succ i t)
        generalize t i = ti at ci HT
        go_wp2_with (at_builtin; refine wpList_append_own _ rfl _ _ 22 rfl w1.heap.size 9 iS (.string ⟨#[]⟩) 1 16 Try.underlying22 HIS.out HZS.out HSS.out HBS.out rfl (by decide) _ _ _ rfl (HO.out.alloc _) ⟨wr.heap.size, 0, none⟩ 1 1 [.string ti] rfl rfl (one_news wr (.string ti) 9) ?c2 ?c3 ?c4 ?c5 ?_)
        case c2 => intro u hu; simp at hu; subst hu; rfl
        case c3 => unfold maxLen; omega
        case c4 => omega
        case c5 => have := HB2.out.size; simp; omega
        intro v' w3 hown' hgrow _
        have HN : Hid (w3.ownsRow w1.heap.size 9 1 v' (i + 1) (sl (i + 1) t)) := by
          show World.ownsRow _ _ _ _ _ _ _
          rw [HT.out]; exact hown'
        have HB3 : Hid (Below w1.heap.size w1 w3) := (HB2.out.alloc HB2.out.size _).grown hgrow (one_base HB2.out.size _) (fun g e => (HO.out.lt g e).1)
        clear hown' hgrow
        go_wp2
        go_roundw
        case rel => exact ⟨i + 1, by omega, by go_num, HN.out, HB3.out⟩
        case measure => simp [intOf]; omega
      · obtain rfl : L = i := by omega
        obtain ⟨q, cap, hv, _⟩ := own_form HO.out
        subst hv
        have HT0 : Hid (Strs wr q L t) := fun hL0 => by
          obtain ⟨g, cap', hv, _, _⟩ := HO.out.form hL0
          injection hv with e1 e2 e3
          subst e1
          exact own_strs HO.out hL0
        have HLm : Hid (L ≤ maxLen) := by show _ ≤ _; unfold maxLen; omega
        by_cases hkn : 1 ≤ k ∧ k ≤ n ∧ n ≤ 16
        · obtain ⟨hk1, hkn, hn16⟩ := hkn
          go_wp2_with fail
          refine (new_yes k n hk1 hkn hn16 _).mono ?_
          rintro e w3 ⟨c, fb, TB, r, x, rfl, hC, hb3⟩
          have HC := Lib.hid hC; have HB3 := Lib.hid (Below.next HBw.out hb3); have HT3 := Lib.hid (HT0.out.below hb3); clear hC hb3
          go_wp2_with fail
          refine (few_any q L cap t _ HLm.out HT3.out).mono ?_
          rintro e w4 ⟨b, rfl, hfew, hw⟩
          obtain rfl : w3 = w4 := hw.symm
          clear hw
          cases b with
          | false =>
            clear hfew
            go_wp2_with fail
            go_ret
            exact ⟨rfl, HB3.out⟩
          | true =>
            have HFw := Lib.hid (hfew.1 rfl); clear hfew
            go_wp2_with fail
            refine (even_any q L cap t _ (by omega) HT3.out).mono ?_
            rintro e w5 ⟨b, rfl, hev, g5, hw5⟩
            have HB5 : Hid (Below w.heap.size w w5) := by rw [hw5]; exact below_drewN HB3.out g5
            have HC5 : Hid (IsC w5 c k n fb TB r x) := by rw [hw5]; exact HC.out.drewN g5
            have HEv := Lib.hid hev
            clear hw5 hev HC HT3
            have HP5' := Lib.hid (HP.out.below HB5.out)
            have HG0 : Hid (((!b) = false) ↔ Good n L z t 0) := by
              show _ ↔ _
              cases b with
              | true => exact ⟨fun _ => ⟨HEv.out.1 rfl, fun a ha => by omega, fun a ha => by omega⟩, fun _ => rfl⟩
              | false => exact ⟨fun h => absurd h (by decide), fun h => absurd (HEv.out.2 h.1) (by decide)⟩
            clear HEv
            go_wp2_with fail
            go_loopw [13, 14] (fun F I wr => RelO n L z t w5 F I wr) (fun _ I _ => L - (intOf I).toNat)
            case atStart => exact ⟨0, 0, _, by omega, rfl, rfl, HG0.out, rfl⟩
            case round =>
              clear HG0
              obtain ⟨i, g, b, hi, rfl, rfl, hb, hw⟩ := hrel
              have HG := Lib.hid hb; have HW := Lib.hid hw; clear hb hw
              by_cases hlt : i < L
              · have i0 : (i : Int) < (L : Int) := by omega
                obtain ⟨B, O, hp, _⟩ := HP5'.out (by omega)
                subst hp
                have HP5 := Lib.hid HP5'.out
                have ci : wr.cell? ⟨B, O + i * 2, none⟩ = some (.int .i64 (z i)) := by rw [HW.out]; exact (HP5.out.at_ hlt).1
                cases b with
                | true =>
                  have HQ : Hid (true = false ↔ Good2 n L z t i 0) := ⟨fun h => absurd h (by decide), fun h => HG.out.2 h.1⟩
                  clear HG ci
                  go_wp2_with fail
                  generalize wr = wo at *
                  go_loopw [13, 15] (fun F I wr => RelI n L i z t wo F I wr) (fun _ I _ => i - (intOf I).toNat)
                  case atStart => exact ⟨0, 0, _, by omega, rfl, rfl, HQ.out, rfl⟩
                  case round =>
                    clear HQ
                    obtain ⟨j, g2, b2, hj, rfl, rfl, hb2, hw2⟩ := hrel
                    have HN := Lib.hid hb2; have HW2 := Lib.hid hw2; clear hb2 hw2
                    have HWW : Hid (wr = w5.drewN (g + g2)) := by show _ = _; rw [HW2.out, HW.out, World.drewN_drewN]
                    by_cases hll : j < i
                    · have j0 : (j : Int) < (i : Int) := by omega
                      have j1 : (j : Int) < (L : Int) := by omega
                      have ci : wr.cell? ⟨B, O + i * 2, none⟩ = some (.int .i64 (z i)) := by rw [HWW.out]; exact (HP5.out.at_ hlt).1
                      have cj : wr.cell? ⟨B, O + j * 2, none⟩ = some (.int .i64 (z j)) := by rw [HWW.out]; exact (HP5.out.at_ (i := j) (by omega)).1
                      cases b2 with
                      | true =>
                        have HX : Hid (true = false ↔ Good2 n L z t i (j + 1)) := ⟨fun h => absurd h (by decide), fun h => HN.out.2 ⟨h.1, h.2.1, fun b hb => h.2.2 b (by omega)⟩⟩
                        clear HN ci cj
                        go_wp2_with fail
                        go_quiet (fail)
                        go_wp2
                        go_roundw
                        case rel => exact ⟨j + 1, _, true, by omega, rfl, by go_num, HX.out, by rw [HW2.out, World.drewN_drewN]⟩
                        case measure => simp [intOf]; omega
                      | false =>
                        by_cases he : z i = z j
                        · have HX : Hid (true = false ↔ Good2 n L z t i (j + 1)) := ⟨fun h => absurd h (by decide), fun h => absurd he (h.2.2 j (by omega))⟩
                          rw [← he] at cj
                          clear HN he
                          generalize z i = u at ci cj
                          go_wp2_with fail
                          go_quiet (fail)
                          go_wp2
                          go_roundw
                          case rel => exact ⟨j + 1, _, true, by omega, rfl, by go_num, HX.out, by rw [HW2.out, World.drewN_drewN]⟩
                          case measure => simp [intOf]; omega
                        · have HX : Hid (Good2 n L z t i (j + 1)) := by
                            have h := HN.out.1 rfl
                            exact ⟨h.1, h.2.1, fun b hb => by
                              by_cases e : b = j
                              · subst e; exact he
                              · exact h.2.2 b (by omega)⟩
                          have te : (z i == z j) = false := by simpa using he
                          clear HN he
                          generalize z i = u at ci te
                          generalize z j = v at cj te
                          go_wp2_with fail
                          go_quiet (fail)
                          go_wp2
                          go_roundw
                          case rel => exact ⟨j + 1, _, false, by omega, rfl, by go_num, ⟨fun _ => HX.out, fun _ => rfl⟩, by rw [HW2.out, World.drewN_drewN]⟩
                          case measure => simp [intOf]; omega
                    · obtain rfl : i = j := by omega
                      go_wp2
                      go_roundw
                      case rel => exact ⟨i + 1, _, b2, by omega, rfl, by go_num, HN.out.trans good_next, HWW.out⟩
                      case measure => simp [intOf]; omega
                | false =>
                  by_cases h1 : z i < 0
                  · have HQ : Hid (true = false ↔ Good2 n L z t i 0) := ⟨fun h => absurd h (by decide), fun h => by have := h.2.1; omega⟩
                    have d1 : decide (z i < 0) = true := by simpa using h1
                    clear HG h1
                    generalize z i = u at ci d1
                    go_wp2_with fail
                    generalize wr = wo at *
                    go_loopw [13, 15] (fun F I wr => RelI n L i z t wo F I wr) (fun _ I _ => i - (intOf I).toNat)
                    case atStart => exact ⟨0, 0, _, by omega, rfl, rfl, HQ.out, rfl⟩
                    case round =>
                      clear HQ
                      obtain ⟨j, g2, b2, hj, rfl, rfl, hb2, hw2⟩ := hrel
                      have HN := Lib.hid hb2; have HW2 := Lib.hid hw2; clear hb2 hw2
                      have HWW : Hid (wr = w5.drewN (g + g2)) := by show _ = _; rw [HW2.out, HW.out, World.drewN_drewN]
                      by_cases hll : j < i
                      · have j0 : (j : Int) < (i : Int) := by omega
                        have j1 : (j : Int) < (L : Int) := by omega
                        have ci : wr.cell? ⟨B, O + i * 2, none⟩ = some (.int .i64 (z i)) := by rw [HWW.out]; exact (HP5.out.at_ hlt).1
                        have cj : wr.cell? ⟨B, O + j * 2, none⟩ = some (.int .i64 (z j)) := by rw [HWW.out]; exact (HP5.out.at_ (i := j) (by omega)).1
                        cases b2 with
                        | true =>
                          have HX : Hid (true = false ↔ Good2 n L z t i (j + 1)) := ⟨fun h => absurd h (by decide), fun h => HN.out.2 ⟨h.1, h.2.1, fun b hb => h.2.2 b (by omega)⟩⟩
                          clear HN ci cj
                          go_wp2_with fail
                          go_quiet (fail)
                          go_wp2
                          go_roundw
                          case rel => exact ⟨j + 1, _, true, by omega, rfl, by go_num, HX.out, by rw [HW2.out, World.drewN_drewN]⟩
                          case measure => simp [intOf]; omega
                        | false =>
                          by_cases he : z i = z j
                          · have HX : Hid (true = false ↔ Good2 n L z t i (j + 1)) := ⟨fun h => absurd h (by decide), fun h => absurd he (h.2.2 j (by omega))⟩
                            rw [← he] at cj
                            clear HN he
                            generalize z i = u at ci cj
                            go_wp2_with fail
                            go_quiet (fail)
                            go_wp2
                            go_roundw
                            case rel => exact ⟨j + 1, _, true, by omega, rfl, by go_num, HX.out, by rw [HW2.out, World.drewN_drewN]⟩
                            case measure => simp [intOf]; omega
                          · have HX : Hid (Good2 n L z t i (j + 1)) := by
                              have h := HN.out.1 rfl
                              exact ⟨h.1, h.2.1, fun b hb => by
                                by_cases e : b = j
                                · subst e; exact he
                                · exact h.2.2 b (by omega)⟩
                            have te : (z i == z j) = false := by simpa using he
                            clear HN he
                            generalize z i = u at ci te
                            generalize z j = v at cj te
                            go_wp2_with fail
                            go_quiet (fail)
                            go_wp2
                            go_roundw
                            case rel => exact ⟨j + 1, _, false, by omega, rfl, by go_num, ⟨fun _ => HX.out, fun _ => rfl⟩, by rw [HW2.out, World.drewN_drewN]⟩
                            case measure => simp [intOf]; omega
                      · obtain rfl : i = j := by omega
                        go_wp2
                        go_roundw
                        case rel => exact ⟨i + 1, _, b2, by omega, rfl, by go_num, HN.out.trans good_next, HWW.out⟩
                        case measure => simp [intOf]; omega
                  · have d1 : decide (z i < 0) = false := by simpa using h1
                    by_cases h2 : (n : Int) ≤ z i
                    · have HQ : Hid (true = false ↔ Good2 n L z t i 0) := ⟨fun h => absurd h (by decide), fun h => by have := h.2.1; omega⟩
                      have d2 : decide ((n : Int) ≤ z i) = true := by simpa using h2
                      clear HG h1 h2
                      generalize z i = u at ci d1 d2
                      go_wp2_with fail
                      generalize wr = wo at *
                      go_loopw [13, 15] (fun F I wr => RelI n L i z t wo F I wr) (fun _ I _ => i - (intOf I).toNat)
                      case atStart => exact ⟨0, 0, _, by omega, rfl, rfl, HQ.out, rfl⟩
                      case round =>
                        clear HQ
                        obtain ⟨j, g2, b2, hj, rfl, rfl, hb2, hw2⟩ := hrel
                        have HN := Lib.hid hb2; have HW2 := Lib.hid hw2; clear hb2 hw2
                        have HWW : Hid (wr = w5.drewN (g + g2)) := by show _ = _; rw [HW2.out, HW.out, World.drewN_drewN]
                        by_cases hll : j < i
                        · have j0 : (j : Int) < (i : Int) := by omega
                          have j1 : (j : Int) < (L : Int) := by omega
                          have ci : wr.cell? ⟨B, O + i * 2, none⟩ = some (.int .i64 (z i)) := by rw [HWW.out]; exact (HP5.out.at_ hlt).1
                          have cj : wr.cell? ⟨B, O + j * 2, none⟩ = some (.int .i64 (z j)) := by rw [HWW.out]; exact (HP5.out.at_ (i := j) (by omega)).1
                          cases b2 with
                          | true =>
                            have HX : Hid (true = false ↔ Good2 n L z t i (j + 1)) := ⟨fun h => absurd h (by decide), fun h => HN.out.2 ⟨h.1, h.2.1, fun b hb => h.2.2 b (by omega)⟩⟩
                            clear HN ci cj
                            go_wp2_with fail
                            go_quiet (fail)
                            go_wp2
                            go_roundw
                            case rel => exact ⟨j + 1, _, true, by omega, rfl, by go_num, HX.out, by rw [HW2.out, World.drewN_drewN]⟩
                            case measure => simp [intOf]; omega
                          | false =>
                            by_cases he : z i = z j
                            · have HX : Hid (true = false ↔ Good2 n L z t i (j + 1)) := ⟨fun h => absurd h (by decide), fun h => absurd he (h.2.2 j (by omega))⟩
                              rw [← he] at cj
                              clear HN he
                              generalize z i = u at ci cj
                              go_wp2_with fail
                              go_quiet (fail)
                              go_wp2
                              go_roundw
                              case rel => exact ⟨j + 1, _, true, by omega, rfl, by go_num, HX.out, by rw [HW2.out, World.drewN_drewN]⟩
                              case measure => simp [intOf]; omega
                            · have HX : Hid (Good2 n L z t i (j + 1)) := by
                                have h := HN.out.1 rfl
                                exact ⟨h.1, h.2.1, fun b hb => by
                                  by_cases e : b = j
                                  · subst e; exact he
                                  · exact h.2.2 b (by omega)⟩
                              have te : (z i == z j) = false := by simpa using he
                              clear HN he
                              generalize z i = u at ci te
                              generalize z j = v at cj te
                              go_wp2_with fail
                              go_quiet (fail)
                              go_wp2
                              go_roundw
                              case rel => exact ⟨j + 1, _, false, by omega, rfl, by go_num, ⟨fun _ => HX.out, fun _ => rfl⟩, by rw [HW2.out, World.drewN_drewN]⟩
                              case measure => simp [intOf]; omega
                        · obtain rfl : i = j := by omega
                          go_wp2
                          go_roundw
                          case rel => exact ⟨i + 1, _, b2, by omega, rfl, by go_num, HN.out.trans good_next, HWW.out⟩
                          case measure => simp [intOf]; omega
                    · have HQ : Hid (Good2 n L z t i 0) := ⟨HG.out.1 rfl, ⟨by omega, by omega⟩, fun b hb => by omega⟩
                      have d2 : decide ((n : Int) ≤ z i) = false := by simpa using h2
                      clear HG h1 h2
                      generalize z i = u at ci d1 d2
                      go_wp2_with fail
                      generalize wr = wo at *
                      go_loopw [13, 15] (fun F I wr => RelI n L i z t wo F I wr) (fun _ I _ => i - (intOf I).toNat)
                      case atStart => exact ⟨0, 0, _, by omega, rfl, rfl, ⟨fun _ => HQ.out, fun _ => rfl⟩, rfl⟩
                      case round =>
                        clear HQ
                        obtain ⟨j, g2, b2, hj, rfl, rfl, hb2, hw2⟩ := hrel
                        have HN := Lib.hid hb2; have HW2 := Lib.hid hw2; clear hb2 hw2
                        have HWW : Hid (wr = w5.drewN (g + g2)) := by show _ = _; rw [HW2.out, HW.out, World.drewN_drewN]
                        by_cases hll : j < i
                        · have j0 : (j : Int) < (i : Int) := by omega
                          have j1 : (j : Int) < (L : Int) := by omega
                          have ci : wr.cell? ⟨B, O + i * 2, none⟩ = some (.int .i64 (z i)) := by rw [HWW.out]; exact (HP5.out.at_ hlt).1
                          have cj : wr.cell? ⟨B, O + j * 2, none⟩ = some (.int .i64 (z j)) := by rw [HWW.out]; exact (HP5.out.at_ (i := j) (by omega)).1
                          cases b2 with
                          | true =>
                            have HX : Hid (true = false ↔ Good2 n L z t i (j + 1)) := ⟨fun h => absurd h (by decide), fun h => HN.out.2 ⟨h.1, h.2.1, fun b hb => h.2.2 b (by omega)⟩⟩
                            clear HN ci cj
                            go_wp2_with fail
                            go_quiet (fail)
                            go_wp2
                            go_roundw
                            case rel => exact ⟨j + 1, _, true, by omega, rfl, by go_num, HX.out, by rw [HW2.out, World.drewN_drewN]⟩
                            case measure => simp [intOf]; omega
                          | false =>
                            by_cases he : z i = z j
                            · have HX : Hid (true = false ↔ Good2 n L z t i (j + 1)) := ⟨fun h => absurd h (by decide), fun h => absurd he (h.2.2 j (by omega))⟩
                              rw [← he] at cj
                              clear HN he
                              generalize z i = u at ci cj
                              go_wp2_with fail
                              go_quiet (fail)
                              go_wp2
                              go_roundw
                              case rel => exact ⟨j + 1, _, true, by omega, rfl, by go_num, HX.out, by rw [HW2.out, World.drewN_drewN]⟩
                              case measure => simp [intOf]; omega
                            · have HX : Hid (Good2 n L z t i (j + 1)) := by
                                have h := HN.out.1 rfl
                                exact ⟨h.1, h.2.1, fun b hb => by
                                  by_cases e : b = j
                                  · subst e; exact he
                                  · exact h.2.2 b (by omega)⟩
                              have te : (z i == z j) = false := by simpa using he
                              clear HN he
                              generalize z i = u at ci te
                              generalize z j = v at cj te
                              go_wp2_with fail
                              go_quiet (fail)
                              go_wp2
                              go_roundw
                              case rel => exact ⟨j + 1, _, false, by omega, rfl, by go_num, ⟨fun _ => HX.out, fun _ => rfl⟩, by rw [HW2.out, World.drewN_drewN]⟩
                              case measure => simp [intOf]; omega
                        · obtain rfl : i = j := by omega
                          go_wp2
                          go_roundw
                          case rel => exact ⟨i + 1, _, b2, by omega, rfl, by go_num, HN.out.trans good_next, HWW.out⟩
                          case measure => simp [intOf]; omega
              · obtain rfl : L = i := by omega
                have HC6 : Hid (IsC wr c k n fb TB r x) := by rw [HW.out]; exact HC5.out.drewN g
                have HB6 : Hid (Below w.heap.size w wr) := by rw [HW.out]; exact below_drewN HB5.out g
                have HP6 := Lib.hid (HP.out.below HB6.out)
                clear HW HC5 HB5 HP5' HT0 HO HB1 HB2 HBw HB3
                cases b with
                | true =>
                  have HNo : Hid (¬ FitP n L z t) := fun h => absurd (HG.out.2 (good_fit.2 h)) (by decide)
                  clear HG
                  go_wp2_with fail
                  refine (read_bad c k n fb TB r x _ L cl z t _ (by omega) HC6.out HP6.out HNo.out).mono ?_
                  rintro e w7 ⟨rfl, hb7⟩
                  have HC7 := Lib.hid (HC6.out.below hb7); have HP7 := Lib.hid (HP6.out.below hb7); have HB7 := Lib.hid (Below.next HB6.out hb7); clear hb7
                  go_wp2_with fail
                  refine (again_bad c k n fb TB r x _ L cl z t at_ _ (by omega) HC7.out HP7.out HNo.out).mono ?_
                  rintro e w8 ⟨rfl, hb8⟩
                  have HB8 := Lib.hid (Below.next HB7.out hb8); clear hb8
                  go_wp2_with fail
                  go_ret
                  exact ⟨rfl, HB8.out⟩
                | false =>
                  have HFit := Lib.hid (good_fit.1 (HG.out.1 rfl))
                  clear HG
                  by_cases hLk : L < k
                  · have d2 : (L : Int) < (k : Int) := by omega
                    go_wp2_with fail
                    refine (read_few c k n fb TB r x _ L cl z t _ (by omega) HC6.out HP6.out HFit.out hLk).mono ?_
                    rintro e w7 ⟨rfl, hb7⟩
                    have HC7 := Lib.hid (HC6.out.below hb7); have HP7 := Lib.hid (HP6.out.below hb7); have HB7 := Lib.hid (Below.next HB6.out hb7); clear hb7
                    go_wp2_with fail
                    refine (again_few c k n fb TB r x _ L cl z t at_ _ (by omega) HC7.out HP7.out HFit.out hLk).mono ?_
                    rintro e w8 ⟨rfl, hb8⟩
                    have HB8 := Lib.hid (Below.next HB7.out hb8); clear hb8
                    go_wp2_with fail
                    go_ret
                    exact ⟨rfl, HB8.out⟩
                  · have d2 : decide ((L : Int) < (k : Int)) = false := by simp; omega
                    have d2' : decide (L < k) = false := by simp; omega
                    have hsz : (t 0).size ≤ 4096 := by have := HFw.out.2.1 0 (by omega); omega
                    obtain ⟨B, O, hp, _⟩ := HP6.out (by omega)
                    subst hp
                    generalize hms : (t 0).size = M at hsz
                    have HMs := Lib.hid hms; clear hms
                    have HZ : Hid (∀ j, j < k → (t j).size = M) := fun j hj => by rw [HFit.out.2.2 j (by omega), HMs.out]
                    go_wp2_with fail
                    refine (read_yes c k n fb TB r x _ L cl M z t _ (by omega) hcl HC6.out HP6.out HFit.out (by omega) hsz HMs.out).mono ?_
                    rintro e w7 ⟨y, B7, _, rfl, _, hb7⟩
                    have HC7 := Lib.hid (HC6.out.below hb7); have HP7 := Lib.hid (HP6.out.below hb7); have HB7 := Lib.hid (Below.next HB6.out hb7); clear hb7
                    by_cases ha : at_ < 0 ∨ (n : Int) ≤ at_
                    · have HA := Lib.hid ha
                      go_wp2_with fail
                      refine (again_out c k n fb TB r x _ L cl M z t at_ _ (by omega) hcl HC7.out HP7.out HFit.out (by omega) hsz HMs.out HA.out).mono ?_
                      rintro e w8 ⟨rfl, hb8⟩
                      have HB8 := Lib.hid (Below.next HB7.out hb8); clear hb8
                      by_cases h1 : at_ < 0
                      · have e1 : decide (at_ < 0) = true := by simpa using h1
                        clear ha h1
                        go_wp2_with fail
                        go_ret
                        exact ⟨rfl, HB8.out⟩
                      · have e1 : decide (at_ < 0) = false := by simpa using h1
                        have e2 : decide ((n : Int) ≤ at_) = true := by simp; omega
                        clear ha h1
                        go_wp2_with fail
                        go_ret
                        exact ⟨rfl, HB8.out⟩
                    · have e1 : decide (at_ < 0) = false := by simp; omega
                      have e2 : decide ((n : Int) ≤ at_) = false := by simp; omega
                      go_wp2_with fail
                      refine (again_int c k n fb TB r x _ L cl M z t at_ _ (by omega) hcl HC7.out HP7.out HFit.out (by omega) hsz HMs.out (by omega) (by omega)).mono ?_
                      rintro e w8 ⟨y8, _, rfl, hb8⟩
                      have HC8 := Lib.hid (HC7.out.below hb8); have HP8 := Lib.hid (HP7.out.below hb8); have HB8 := Lib.hid (Below.next HB7.out hb8); clear hb8 ha
                      generalize pc k M x (pc k M y8 t) at_.toNat = s8
                      go_wp2_with fail
                      clear e1 e2
                      go_loopw [20] (fun I wr => RelA k w8 I wr) (fun I _ => k - (intOf I).toNat)
                      case atStart => exact ⟨0, by omega, rfl, Below.refl _ _⟩
                      case round =>
                        obtain ⟨i, hi, rfl, hb9⟩ := hrel
                        have HB9 := Lib.hid hb9; clear hb9
                        by_cases hlt : i < k
                        · have i0 : (i : Int) < (k : Int) := by omega
                          have i1 : (i : Int) < (L : Int) := by omega
                          have HC9 := Lib.hid (HC8.out.below HB9.out); have HP9 := Lib.hid (HP8.out.below HB9.out)
                          have ci := (HP9.out.at_ (i := i) (by omega)).1
                          have zi := HFit.out.1 i (by omega)
                          go_wp2_with fail
                          refine (again_int c k n fb TB r x _ L cl M z t (z i) _ (by omega) hcl HC9.out HP9.out HFit.out (by omega) hsz HMs.out zi.1 zi.2).mono ?_
                          rintro e w10 ⟨y9, hy9, rfl, hb10⟩
                          have HE : Hid (pc k M x (pc k M y9 t) (z i).toNat = t i) := by
                            have h := pc_redo hy9 (t := t) hlt (HZ.out i hlt)
                            rw [← h]; exact pc_congr (fun _ _ => rfl) (fun _ _ => rfl)
                          have ct := ((HP9.out.below hb10).at_ (i := i) (by omega)).2
                          have HB10 := Lib.hid (Below.next HB9.out hb10)
                          rw [HE.out]
                          clear HE hb10 hy9 ci zi
                          generalize t i = ti at ct ⊢
                          go_wp2
                          go_roundw
                          case rel => exact ⟨i + 1, by omega, by go_num, HB10.out⟩
                          case measure => simp [intOf]; omega
                        · obtain rfl : k = i := by omega
                          have tk : ((k : Int) == (k : Int)) = true := by simp
                          have tk' : (k == k) = true := by simp
                          go_wp2
                          go_ret
                          exact ⟨rfl, Below.next HB8.out HB9.out⟩
        · have HNo : Hid ((k : Int) < 1 ∨ (n : Int) < (k : Int) ∨ (16 : Int) < (n : Int)) := by show _ ∨ _; omega
          clear hkn
          go_wp2_with fail
          refine (new_no _ _ HNo.out _).mono ?_
          rintro e w3 ⟨rfl, hw⟩
          obtain rfl : wr = w3 := hw.symm
          clear hw
          go_wp2_with fail
          refine (few_any q L cap t _ HLm.out HT0.out).mono ?_
          rintro e w4 ⟨b, rfl, _, hw⟩
          obtain rfl : wr = w4 := hw.symm
          clear hw
          cases b with
          | false =>
            go_wp2_with fail
            go_ret
            exact ⟨rfl, HBw.out⟩
          | true =>
            go_wp2_with fail
            go_ret
            exact ⟨rfl, HBw.out⟩
/-! ### STEP 1: THE WALK: the Go text returns true, AND WRITES NOTHING THAT WAS THERE: 'Below w.heap.size w w'' (Derived/Below.lean: '.refl', '.alloc', '.drew', '.setCell' at a new block, '.trans'). Open each 'IsRow' by 'rcases' AHEAD of 'go_enter'; part every test ahead of the walk. -/
theorem walk (a0 : Int) (a1 : Int) (a2 : Option Addr) (len2 cap2 : Nat) (z2 : ((Nat → Int) × (Nat → ByteArray))) (a3 : Int) (w : World) (w0 : (Lit.int .u8 a0).wf = true) (w1 : (Lit.int .u8 a1).wf = true) (w2 : Cd.PcIn w a2 len2 cap2 z2) (w3 : (Lit.int .i64 a3).wf = true) :
    Calls Try.prog 5 #[.int .u8 a0, .int .u8 a1, .slice a2 len2 cap2, .int .i64 a3] w fun e w' => e = .returned (.bool true) ∧ Below w.heap.size w w' := by
  obtain ⟨k, rfl, hk⟩ := u8_nat w0
  obtain ⟨n, rfl, hn⟩ := u8_nat w1
  exact main k n hk hn a2 len2 cap2 z2.1 z2.2 a3 w w2.1 w2.2.1 w2.2.2

/-! ### THE ROW's STEP: WRITTEN OUT: LEAVE IT -/
set_option maxRecDepth 100000 in
theorem lifted (os : Os) (started : os.Started) (H : Type) (enc : TypeId × Value → H) :
    ReturnsInHanded {} Try.checked os 5 .any (Rows.coderRefusesSpec.pre6 enc Try.prog Try.f5 Rows.coderRefusesRow.domain false) (Rows.coderRefusesSpec.post enc Try.prog Try.f5 false true false false) := by
  refine returnsInHanded_of_change (C := Try.checked) own started (by kernel_rfl) Try.func5
    (ChangeSpec.witness6 (enc := enc) (C := Try.checked) false ⟨#[], #[.int .u8 0, .int .u8 0, .slice none 0 0, .int .i64 0], []⟩ 8 (by kernel_rfl) (by kernel_rfl) (by kernel_rfl) (by kernel_rfl)) ?_
  intro W base args ds gs before hval0 hW hcnd _
  have hval : ∀ (j : Nat) t v, Try.f5.params[j]? = some t → args[j]? = some v → Value.okWide Try.prog W .any base t v := hval0
  have hW' := hW
  obtain ⟨p, q, hA0, hV, rfl, hfz, hnd⟩ := hW
  have hA : DataW.TrodAll enc Try.prog W 0 (fun _ => true) true Try.f5.params.toList args.toList ds p := hA0
  rw [Try.params5] at hA hval
  obtain ⟨v0, vs0, d0, ds0, p0, q0, hargs, rfl, rfl, h0, r0⟩ := trodAll_cons hA
  obtain ⟨v1, vs1, d1, ds1, p1, q1, rfl, rfl, rfl, h1, r1⟩ := trodAll_cons r0
  obtain ⟨v2, vs2, d2, ds2, p2, q2, rfl, rfl, rfl, h2, r2⟩ := trodAll_cons r1
  obtain ⟨v3, vs3, d3, ds3, p3, q3, rfl, rfl, rfl, h3, r3⟩ := trodAll_cons r2
  obtain ⟨rfl, rfl, rfl⟩ := trodAll_nil r3
  obtain rfl : args = #[v0, v1, v2, v3] := by cases args; simp_all
  obtain ⟨rfl, rfl⟩ := trodVars_none hV
  obtain ⟨a0, rfl, rfl, rfl, w0⟩ := open_int Try.underlying5 (hval 0 5 v0 rfl rfl) h0
  obtain ⟨a1, rfl, rfl, rfl, w1⟩ := open_int Try.underlying5 (hval 1 5 v1 rfl rfl) h1
  obtain ⟨a2, len2, cap2, rfl⟩ := okWide_slice Try.underlying32 (hval 2 32 v2 rfl rfl)
  have k2 := h2
  have lt2 : ∀ x ∈ p2, x.block < W.heap.size := by obtain ⟨m, hm⟩ := k2; exact DataW.trod_lt m _ _ _ hm
  obtain ⟨z2, w2⟩ : ∃ z : ((Nat → Int) × (Nat → ByteArray)), Cd.PcIn W a2 len2 cap2 z := Cd.pcs_of h2
  obtain ⟨a3, rfl, rfl, rfl, w3⟩ := open_int Try.underlying3 (hval 3 3 v3 rfl rfl) h3
  clear hA0 hval0
  refine (walk a0 a1 a2 len2 cap2 z2 a3 W w0 w1 w2 w3).mono fun e W' ⟨he, bel⟩ => ?_
  subst he
  exact ⟨_, rfl, _, _, _, [], _, [], hW', trodAll_mk1 (shut_bool Try.underlying4 _), (trodAll_cons_mk (shut_int Try.underlying5 w0) (trodAll_cons_mk (shut_int Try.underlying5 w1) (trodAll_cons_mk (Below.trod laidOut (by kernel_rfl) (of_decide_eq_true (by kernel_rfl)) k2 bel lt2) (trodAll_cons_mk (shut_int Try.underlying3 w3) trodAll_mk0)))), rfl, bel.frame _, fun h => by cases h⟩

theorem over : Rows.coderRefusesRow.holds Try.pinned (OpenSpec.ofChange Rows.coderRefusesSpec) :=
  OpenClaim.holds_of_wide 5 Try.f5 rfl rfl rfl rfl rfl rfl rfl ⟨rfl, rfl, rfl, rfl, rfl⟩ rfl rfl rfl rfl rfl (by kernel_rfl) Try.func5 (by kernel_rfl)
    (of_decide_eq_true (by kernel_rfl)) (by unfold Func.isWrapper; first | (rw [if_pos (by decide +kernel)]; kernel_rfl) | (rw [if_neg (by decide +kernel)]; exact ⟨rfl, rfl⟩))
    (fun os started H enc _ => lifted os started H enc)

/-- ████ THE STATEMENT ████ -/
theorem proved : Rows.CoderRefusesSaid := over
#print axioms proved
end Go.Proofs.Ytkgfkchdbbeljaa.coderRefuses

/-
  Proved: for every input the law RowsBrackets returns true, and leaves its arguments as they were. No condition.
-/
import Derived.Test.YtnobpdgicglieaaRows
import Derived.WalkKit
import Derived.ProofKit
import Derived.OpenShut
import Derived.ShutString
import Derived.ChangeOld
import Derived.Below
import Derived.Test.YtnobpdgicglieaaMxArg
namespace Go.Proofs.Ytnobpdgicglieaa.rowsBrackets
open Go.ChangeShapes Go.WideShapes Go.ChangeAt Go.RowKit
open Go.ChangeMaps (open_string shut_string)
set_option linter.unusedVariables false

theorem own : ownKnob Try.prog.godebug = none := by kernel_rfl
theorem laidOut : laidOutB Try.prog = true := by kernel_rfl

open Go.Proofs.Ytnobpdgicglieaa.Gf Go.Proofs.Ytnobpdgicglieaa.Mx
/-- What is known of one argument. -/
structure Arg (z : Mx.MatArg) (w : World) (p : Option Addr) (n : Nat) : Prop where
  inn : z.In w p n
  few : FewP n z.L
theorem Arg.below {z : Mx.MatArg} {w w' : World} {p : Option Addr} {n : Nat} (h : Arg z w p n) (k : Below w.heap.size w w') : Arg z w' p n := ⟨h.inn.below k, h.few⟩
set_option maxRecDepth 100000 in
set_option maxHeartbeats 1000000 in
theorem large (p p' p'' : Option Addr) (n cn n' cn' n'' cn'' : Nat) (z z' z'' : Mx.MatArg) (w : World) (hz : z.In w p n) (hz' : z'.In w p' n') (hz'' : z''.In w p'' n'') (h : ¬ (FewP n z.L ∧ FewP n' z'.L ∧ FewP n'' z''.L)) :
    Calls Try.prog 4 #[.slice p n cn, .slice p' n' cn', .slice p'' n'' cn''] w fun e w' => e = .returned (.bool true) ∧ Below w.heap.size w w' := by
  have HZ := Lib.hid hz; have HZ' := Lib.hid hz'; have HZ'' := Lib.hid hz''; have H := Lib.hid h; clear hz hz' hz'' h
  by_cases h1 : FewP n z.L
  · have H1 := Lib.hid h1; clear h1
    by_cases h2 : FewP n' z'.L
    · have H2 := Lib.hid h2; clear h2
      have H3 : Hid (¬ FewP n'' z''.L) := fun h3 => H.out ⟨H1.out, H2.out, h3⟩
      go_enter Try.func4, Try.ntmps4
      go_wp2_with fail
      refine (awake_any _).mono ?_
      rintro e w1 ⟨rfl, hb1⟩
      have HB1 := Lib.hid hb1; clear hb1
      go_wp2_with fail
      refine (few_yes _ _ _ _ _ _ _ (HZ.out.below HB1.out).rag H1.out).mono ?_
      rintro e w2 ⟨rfl, rfl⟩
      go_wp2_with fail
      refine (few_yes _ _ _ _ _ _ _ (HZ'.out.below HB1.out).rag H2.out).mono ?_
      rintro e w2 ⟨rfl, rfl⟩
      go_wp2_with fail
      refine (few_no _ _ _ _ _ _ _ HZ''.out.len HZ''.out.lens (HZ''.out.below HB1.out).rag H3.out).mono ?_
      rintro e w2 ⟨rfl, rfl⟩
      go_wp2_with fail
      refine (awake_any _).mono ?_
      rintro e w3 ⟨rfl, hb3⟩
      have HB3 := Lib.hid hb3; clear hb3
      go_wp2_with fail
      go_ret
      exact ⟨rfl, Below.next HB1.out HB3.out⟩
    · have H2 := Lib.hid h2; clear h2
      go_enter Try.func4, Try.ntmps4
      go_wp2_with fail
      refine (awake_any _).mono ?_
      rintro e w1 ⟨rfl, hb1⟩
      have HB1 := Lib.hid hb1; clear hb1
      go_wp2_with fail
      refine (few_yes _ _ _ _ _ _ _ (HZ.out.below HB1.out).rag H1.out).mono ?_
      rintro e w2 ⟨rfl, rfl⟩
      go_wp2_with fail
      refine (few_no _ _ _ _ _ _ _ HZ'.out.len HZ'.out.lens (HZ'.out.below HB1.out).rag H2.out).mono ?_
      rintro e w2 ⟨rfl, rfl⟩
      go_wp2_with fail
      refine (awake_any _).mono ?_
      rintro e w3 ⟨rfl, hb3⟩
      have HB3 := Lib.hid hb3; clear hb3
      go_wp2_with fail
      go_ret
      exact ⟨rfl, Below.next HB1.out HB3.out⟩
  · have H1 := Lib.hid h1; clear h1
    go_enter Try.func4, Try.ntmps4
    go_wp2_with fail
    refine (awake_any _).mono ?_
    rintro e w1 ⟨rfl, hb1⟩
    have HB1 := Lib.hid hb1; clear hb1
    go_wp2_with fail
    refine (few_no _ _ _ _ _ _ _ HZ.out.len HZ.out.lens (HZ.out.below HB1.out).rag H1.out).mono ?_
    rintro e w2 ⟨rfl, rfl⟩
    go_wp2_with fail
    refine (awake_any _).mono ?_
    rintro e w3 ⟨rfl, hb3⟩
    have HB3 := Lib.hid hb3; clear hb3
    go_wp2_with fail
    go_ret
    exact ⟨rfl, Below.next HB1.out HB3.out⟩
/-- What Mul answers, whatever the rows. -/
def MulPost (w : World) (e : Ending) (w' : World) : Prop := (∃ (B n m : Nat) (r : Nat → Nat) (y : Nat → Nat → K), e = .returned (.tuple #[.slice (some ⟨B, 0, none⟩) n n, .int .i64 0]) ∧ Own w' w.heap.size B n m r y ∧ Below w.heap.size w w') ∨ Nope 1 w e w'
theorem mul_post (p p' : Option Addr) (n cn n' cn' : Nat) (z z' : Mx.MatArg) (w : World) (h : Arg z w p n) (h' : Arg z' w p' n') :
    Calls Try.prog 13 #[.slice p n cn, .slice p' n' cn'] w (MulPost w) := by
  by_cases hR : RightP n z.L ∧ RightP n' z'.L ∧ z.L 0 = n'
  · obtain ⟨h1, h2, h3⟩ := hR
    obtain ⟨B, O, rfl, hM⟩ := h.inn.mat h1
    obtain ⟨B', O', rfl, hM'⟩ := h'.inn.mat h2
    rw [h3] at hM
    exact (mul_yes B O n n' (z'.L 0) cn B' O' cn' _ _ _ _ _ _ _ _ w h1.1 h1.2.1 h2.1 h2.2.1 h2.2.2.1 h2.2.2.2.1 hM hM').mono fun e w' ⟨B, r, he, ho, hb⟩ => Or.inl ⟨B, n, z'.L 0, r, _, he, ho, hb⟩
  · refine (mul_no p n cn _ _ _ p' n' cn' _ _ _ w (h.inn.few h.few).1 (h.inn.few h.few).2 (h'.inn.few h'.few).1 (h'.inn.few h'.few).2 h.inn.rag h'.inn.rag ?_).mono fun e w' hh => Or.inr hh
    by_cases h1 : RightP n z.L
    · by_cases h2 : RightP n' z'.L
      · exact Or.inr (Or.inr fun e => hR ⟨h1, h2, e⟩)
      · exact Or.inr (Or.inl h2)
    · exact Or.inl h1
set_option maxRecDepth 100000 in
set_option maxHeartbeats 1000000 in
theorem unfit (p p' p'' : Option Addr) (n cn n' cn' n'' cn'' : Nat) (z z' z'' : Mx.MatArg) (w : World) (h : Arg z w p n) (h' : Arg z' w p' n') (h'' : Arg z'' w p'' n'')
    (hu : (¬ RightP n z.L ∨ ¬ RightP n' z'.L ∨ z.L 0 ≠ n') ∨ (¬ RightP n' z'.L ∨ ¬ RightP n'' z''.L ∨ z'.L 0 ≠ n'')) :
    Calls Try.prog 4 #[.slice p n cn, .slice p' n' cn', .slice p'' n'' cn''] w fun e w' => e = .returned (.bool true) ∧ Below w.heap.size w w' := by
  have HZ := Lib.hid h; have HZ' := Lib.hid h'; have HZ'' := Lib.hid h''; have HU := Lib.hid hu; clear h h' h'' hu
  go_enter Try.func4, Try.ntmps4
  go_wp2_with fail
  refine (awake_any _).mono ?_
  rintro e w1 ⟨rfl, hb1⟩
  have HB1 := Lib.hid hb1; clear hb1
  have HA := Lib.hid (HZ.out.below HB1.out); have HA' := Lib.hid (HZ'.out.below HB1.out); have HA'' := Lib.hid (HZ''.out.below HB1.out)
  go_wp2_with fail
  refine (few_yes _ _ _ _ _ _ _ HA.out.inn.rag HA.out.few).mono ?_
  rintro e w2 ⟨rfl, rfl⟩
  go_wp2_with fail
  refine (few_yes _ _ _ _ _ _ _ HA'.out.inn.rag HA'.out.few).mono ?_
  rintro e w2 ⟨rfl, rfl⟩
  go_wp2_with fail
  refine (few_yes _ _ _ _ _ _ _ HA''.out.inn.rag HA''.out.few).mono ?_
  rintro e w2 ⟨rfl, rfl⟩
  go_wp2_with fail
  rcases HU.out with hu | hu
  · have HU1 := Lib.hid hu; clear hu
    refine (mul_no _ _ _ _ _ _ _ _ _ _ _ _ _ (HA.out.inn.few HA.out.few).1 (HA.out.inn.few HA.out.few).2 (HA'.out.inn.few HA'.out.few).1 (HA'.out.inn.few HA'.out.few).2 HA.out.inn.rag HA'.out.inn.rag HU1.out).mono ?_
    rintro e w3 ⟨rfl, hb3⟩
    have HB3 := Lib.hid hb3; clear hb3
    go_wp2_with fail
    refine (mul_post _ _ _ _ _ _ _ _ _ (HA'.out.below HB3.out) (HA''.out.below HB3.out)).mono ?_
    rintro e w4 (⟨B, k, m, r, y, rfl, ho, hb⟩ | ⟨rfl, hb⟩)
    · have HB4 := Lib.hid hb; clear hb ho
      go_wp2_with fail
      go_ret
      exact ⟨rfl, Below.next (Below.next HB1.out HB3.out) HB4.out⟩
    · have HB4 := Lib.hid hb; clear hb
      go_wp2_with fail
      go_ret
      exact ⟨rfl, Below.next (Below.next HB1.out HB3.out) HB4.out⟩
  · have HU1 := Lib.hid hu; clear hu
    refine (mul_post _ _ _ _ _ _ _ _ _ HA.out HA'.out).mono ?_
    rintro e w3 (⟨B, k, m, r, y, rfl, ho, hb⟩ | ⟨rfl, hb⟩)
    · have HB3 := Lib.hid hb; clear hb ho
      have HC' := Lib.hid (HA'.out.below HB3.out); have HC'' := Lib.hid (HA''.out.below HB3.out)
      go_wp2_with fail
      refine (mul_no _ _ _ _ _ _ _ _ _ _ _ _ _ (HC'.out.inn.few HC'.out.few).1 (HC'.out.inn.few HC'.out.few).2 (HC''.out.inn.few HC''.out.few).1 (HC''.out.inn.few HC''.out.few).2 HC'.out.inn.rag HC''.out.inn.rag HU1.out).mono ?_
      rintro e w4 ⟨rfl, hb4⟩
      have HB4 := Lib.hid hb4; clear hb4
      go_wp2_with fail
      go_ret
      exact ⟨rfl, Below.next (Below.next HB1.out HB3.out) HB4.out⟩
    · have HB3 := Lib.hid hb; clear hb
      have HC' := Lib.hid (HA'.out.below HB3.out); have HC'' := Lib.hid (HA''.out.below HB3.out)
      go_wp2_with fail
      refine (mul_no _ _ _ _ _ _ _ _ _ _ _ _ _ (HC'.out.inn.few HC'.out.few).1 (HC'.out.inn.few HC'.out.few).2 (HC''.out.inn.few HC''.out.few).1 (HC''.out.inn.few HC''.out.few).2 HC'.out.inn.rag HC''.out.inn.rag HU1.out).mono ?_
      rintro e w4 ⟨rfl, hb4⟩
      have HB4 := Lib.hid hb4; clear hb4
      go_wp2_with fail
      go_ret
      exact ⟨rfl, Below.next (Below.next HB1.out HB3.out) HB4.out⟩
set_option maxRecDepth 100000 in
set_option maxHeartbeats 1000000 in
theorem fit (P O P' O' P'' O'' n l m k cn cn' cn'' : Nat) (z z' z'' : Mx.MatArg) (w : World) (hn : 1 ≤ n ∧ n ≤ 32) (hl : 1 ≤ l ∧ l ≤ 32) (hm : 1 ≤ m ∧ m ≤ 32) (hk : 1 ≤ k ∧ k ≤ 32) (h : Arg z w (some ⟨P, O, none⟩) n) (h' : Arg z' w (some ⟨P', O', none⟩) l) (h'' : Arg z'' w (some ⟨P'', O'', none⟩) m)
    (hM : Mat w P O n l z.b z.o z.C z.x) (hM' : Mat w P' O' l m z'.b z'.o z'.C z'.x) (hM'' : Mat w P'' O'' m k z''.b z''.o z''.C z''.x) :
    Calls Try.prog 4 #[.slice (some ⟨P, O, none⟩) n cn, .slice (some ⟨P', O', none⟩) l cn', .slice (some ⟨P'', O'', none⟩) m cn''] w fun e w' => e = .returned (.bool true) ∧ Below w.heap.size w w' := by
  have HZ := Lib.hid h; have HZ' := Lib.hid h'; have HZ'' := Lib.hid h''; clear h h' h''
  have HM := Lib.hid hM; have HM' := Lib.hid hM'; have HM'' := Lib.hid hM''; clear hM hM' hM''
  have Hn := Lib.hid hn; have Hl := Lib.hid hl; have Hm := Lib.hid hm; have Hk := Lib.hid hk; clear hn hl hm hk
  go_enter Try.func4, Try.ntmps4
  go_wp2_with fail
  refine (awake_any _).mono ?_
  rintro e w1 ⟨rfl, hb1⟩
  have HB1 := Lib.hid hb1; clear hb1
  have HA := Lib.hid (HZ.out.below HB1.out); have HA' := Lib.hid (HZ'.out.below HB1.out); have HA'' := Lib.hid (HZ''.out.below HB1.out)
  have HN := Lib.hid (HM.out.below HB1.out); have HN' := Lib.hid (HM'.out.below HB1.out); have HN'' := Lib.hid (HM''.out.below HB1.out)
  go_wp2_with fail
  refine (few_yes _ _ _ _ _ _ _ HA.out.inn.rag HA.out.few).mono ?_
  rintro e w2 ⟨rfl, rfl⟩
  go_wp2_with fail
  refine (few_yes _ _ _ _ _ _ _ HA'.out.inn.rag HA'.out.few).mono ?_
  rintro e w2 ⟨rfl, rfl⟩
  go_wp2_with fail
  refine (few_yes _ _ _ _ _ _ _ HA''.out.inn.rag HA''.out.few).mono ?_
  rintro e w2 ⟨rfl, rfl⟩
  go_wp2_with fail
  refine (mul_yes _ _ n l m _ _ _ _ _ _ _ _ _ _ z.x z'.x _ Hn.out.1 Hn.out.2 Hl.out.1 Hl.out.2 Hm.out.1 Hm.out.2 HN.out HN'.out).mono ?_
  rintro e w3 ⟨B3, r3, rfl, ho3, hb3⟩
  have HO3 := Lib.hid ho3.mat; have HB3 := Lib.hid hb3; clear ho3 hb3
  go_wp2_with fail
  refine (mul_yes _ _ l m k _ _ _ _ _ _ _ _ _ _ z'.x z''.x _ Hl.out.1 Hl.out.2 Hm.out.1 Hm.out.2 Hk.out.1 Hk.out.2 (HN'.out.below HB3.out) (HN''.out.below HB3.out)).mono ?_
  rintro e w4 ⟨B4, r4, rfl, ho4, hb4⟩
  have HO4 := Lib.hid ho4.mat; have HB4 := Lib.hid hb4; clear ho4 hb4
  have HB34 := Lib.hid (Below.next HB3.out HB4.out)
  go_wp2_with fail
  refine (mul_yes _ _ n m k _ _ _ _ _ _ _ _ _ _ (mm l z.x z'.x) z''.x _ Hn.out.1 Hn.out.2 Hm.out.1 Hm.out.2 Hk.out.1 Hk.out.2 (HO3.out.below HB4.out) (HN''.out.below HB34.out)).mono ?_
  rintro e w5 ⟨B5, r5, rfl, ho5, hb5⟩
  have HO5 := Lib.hid ho5.mat; have HB5 := Lib.hid hb5; clear ho5 hb5
  have HB35 := Lib.hid (Below.next HB34.out HB5.out)
  go_wp2_with fail
  refine (mul_yes _ _ n l k _ _ _ _ _ _ _ _ _ _ z.x (mm m z'.x z''.x) _ Hn.out.1 Hn.out.2 Hl.out.1 Hl.out.2 Hk.out.1 Hk.out.2 (HN.out.below HB35.out) (HO4.out.below HB5.out)).mono ?_
  rintro e w6 ⟨B6, r6, rfl, ho6, hb6⟩
  have HO6 := Lib.hid ho6.mat; have HB6 := Lib.hid hb6; clear ho6 hb6
  have HB36 := Lib.hid (Below.next HB35.out HB6.out)
  go_wp2_with fail
  refine (one_yes n Hn.out.1 Hn.out.2 _).mono ?_
  rintro e w7 ⟨B7, r7, rfl, ho7, hb7⟩
  have HO7 := Lib.hid ho7.mat; have HB7 := Lib.hid hb7; clear ho7 hb7
  have HB37 := Lib.hid (Below.next HB36.out HB7.out)
  go_wp2_with fail
  refine (mul_yes _ _ n n l _ _ _ _ _ _ _ _ _ _ one z.x _ Hn.out.1 Hn.out.2 Hn.out.1 Hn.out.2 Hl.out.1 Hl.out.2 HO7.out (HN.out.below HB37.out)).mono ?_
  rintro e w8 ⟨B8, r8, rfl, ho8, hb8⟩
  have HO8 := Lib.hid ho8.mat; have HB8 := Lib.hid hb8; clear ho8 hb8
  have HB38 := Lib.hid (Below.next HB37.out HB8.out)
  go_wp2_with fail
  refine (equal_yes _ _ n k _ _ _ _ _ _ _ _ _ _ _ _ _ (by have := Hn.out.2; omega) (HO5.out.below (Below.next (Below.next HB6.out HB7.out) HB8.out)) (HO6.out.below (Below.next HB7.out HB8.out)) (fun i _ j _ => (mm_assoc l m z.x z'.x z''.x i j).symm)).mono ?_
  rintro e w9 ⟨rfl, q9, hq9⟩
  have HB9 : Hid (Below w8.heap.size w8 w9) := by rw [hq9]; exact below_drewN (Below.refl _ _) q9
  clear hq9
  go_wp2_with fail
  refine (equal_yes _ _ n l _ _ _ _ _ _ _ _ _ _ _ _ _ (by have := Hn.out.2; omega) (HO8.out.below HB9.out) (HN.out.below (Below.next HB38.out HB9.out)) (fun i hi j _ => (one_mm n z.x i j hi).symm)).mono ?_
  rintro e w10 ⟨rfl, q10, hq10⟩
  have HB10 : Hid (Below w9.heap.size w9 w10) := by rw [hq10]; exact below_drewN (Below.refl _ _) q10
  clear hq10
  go_wp2_with fail
  go_ret
  exact ⟨rfl, Below.next (Below.next (Below.next HB1.out HB38.out) HB9.out) HB10.out⟩
/-! ### STEP 1: THE WALK: the Go text returns true, AND WRITES NOTHING THAT WAS THERE: 'Below w.heap.size w w'' (Derived/Below.lean: '.refl', '.alloc', '.drew', '.setCell' at a new block, '.trans'). Open each 'IsRow' by 'rcases' AHEAD of 'go_enter'; part every test ahead of the walk. -/
theorem walk (a0 : Option Addr) (len0 cap0 : Nat) (z0 : Mx.MatArg) (a1 : Option Addr) (len1 cap1 : Nat) (z1 : Mx.MatArg) (a2 : Option Addr) (len2 cap2 : Nat) (z2 : Mx.MatArg) (w : World) (w0 : z0.In w a0 len0) (w1 : z1.In w a1 len1) (w2 : z2.In w a2 len2) :
    Calls Try.prog 4 #[.slice a0 len0 cap0, .slice a1 len1 cap1, .slice a2 len2 cap2] w fun e w' => e = .returned (.bool true) ∧ Below w.heap.size w w' := by
  by_cases hF : FewP len0 z0.L ∧ FewP len1 z1.L ∧ FewP len2 z2.L
  · obtain ⟨f0, f1, f2⟩ := hF
    by_cases hR : RightP len0 z0.L ∧ RightP len1 z1.L ∧ RightP len2 z2.L ∧ z0.L 0 = len1 ∧ z1.L 0 = len2
    · obtain ⟨r0, r1, r2, e1, e2⟩ := hR
      obtain ⟨B, O, rfl, hM⟩ := w0.mat r0
      obtain ⟨B', O', rfl, hM'⟩ := w1.mat r1
      obtain ⟨B'', O'', rfl, hM''⟩ := w2.mat r2
      rw [e1] at hM
      rw [e2] at hM'
      exact fit B O B' O' B'' O'' len0 len1 len2 (z2.L 0) cap0 cap1 cap2 z0 z1 z2 w ⟨r0.1, r0.2.1⟩ ⟨r1.1, r1.2.1⟩ ⟨r2.1, r2.2.1⟩ ⟨r2.2.2.1, r2.2.2.2.1⟩ ⟨w0, f0⟩ ⟨w1, f1⟩ ⟨w2, f2⟩ hM hM' hM''
    · refine unfit a0 a1 a2 len0 cap0 len1 cap1 len2 cap2 z0 z1 z2 w ⟨w0, f0⟩ ⟨w1, f1⟩ ⟨w2, f2⟩ ?_
      by_cases h0 : RightP len0 z0.L
      · by_cases h1 : RightP len1 z1.L
        · by_cases h2 : RightP len2 z2.L
          · by_cases h3 : z0.L 0 = len1
            · exact Or.inr (Or.inr (Or.inr fun h4 => hR ⟨h0, h1, h2, h3, h4⟩))
            · exact Or.inl (Or.inr (Or.inr h3))
          · exact Or.inr (Or.inr (Or.inl h2))
        · exact Or.inl (Or.inr (Or.inl h1))
      · exact Or.inl (Or.inl h0)
  · exact large a0 a1 a2 len0 cap0 len1 cap1 len2 cap2 z0 z1 z2 w w0 w1 w2 hF

/-! ### THE ROW's STEP: WRITTEN OUT: LEAVE IT -/
set_option maxRecDepth 100000 in
theorem lifted (os : Os) (started : os.Started) (H : Type) (enc : TypeId × Value → H) :
    ReturnsInHanded {} Try.checked os 4 .any (Rows.rowsBracketsSpec.pre6 enc Try.prog Try.f4 Rows.rowsBracketsRow.domain false) (Rows.rowsBracketsSpec.post enc Try.prog Try.f4 false true false false) := by
  refine returnsInHanded_of_change (C := Try.checked) own started (by kernel_rfl) Try.func4
    (ChangeSpec.witness6 (enc := enc) (C := Try.checked) false ⟨#[], #[.slice none 0 0, .slice none 0 0, .slice none 0 0], []⟩ 8 (by kernel_rfl) (by kernel_rfl) (by kernel_rfl) (by kernel_rfl)) ?_
  intro W base args ds gs before hval0 hW hcnd _
  have hval : ∀ (j : Nat) t v, Try.f4.params[j]? = some t → args[j]? = some v → Value.okWide Try.prog W .any base t v := hval0
  have hW' := hW
  obtain ⟨p, q, hA0, hV, rfl, hfz, hnd⟩ := hW
  have hA : DataW.TrodAll enc Try.prog W 0 (fun _ => true) true Try.f4.params.toList args.toList ds p := hA0
  rw [Try.params4] at hA hval
  obtain ⟨v0, vs0, d0, ds0, p0, q0, hargs, rfl, rfl, h0, r0⟩ := trodAll_cons hA
  obtain ⟨v1, vs1, d1, ds1, p1, q1, rfl, rfl, rfl, h1, r1⟩ := trodAll_cons r0
  obtain ⟨v2, vs2, d2, ds2, p2, q2, rfl, rfl, rfl, h2, r2⟩ := trodAll_cons r1
  obtain ⟨rfl, rfl, rfl⟩ := trodAll_nil r2
  obtain rfl : args = #[v0, v1, v2] := by cases args; simp_all
  obtain ⟨rfl, rfl⟩ := trodVars_none hV
  obtain ⟨a0, len0, cap0, rfl⟩ := okWide_slice Try.underlying22 (hval 0 22 v0 rfl rfl)
  have k0 := h0
  have lt0 : ∀ x ∈ p0, x.block < W.heap.size := by obtain ⟨m, hm⟩ := k0; exact DataW.trod_lt m _ _ _ hm
  obtain ⟨z0, w0⟩ : ∃ z : Mx.MatArg, z.In W a0 len0 := Mx.arg_of h0
  obtain ⟨a1, len1, cap1, rfl⟩ := okWide_slice Try.underlying22 (hval 1 22 v1 rfl rfl)
  have k1 := h1
  have lt1 : ∀ x ∈ p1, x.block < W.heap.size := by obtain ⟨m, hm⟩ := k1; exact DataW.trod_lt m _ _ _ hm
  obtain ⟨z1, w1⟩ : ∃ z : Mx.MatArg, z.In W a1 len1 := Mx.arg_of h1
  obtain ⟨a2, len2, cap2, rfl⟩ := okWide_slice Try.underlying22 (hval 2 22 v2 rfl rfl)
  have k2 := h2
  have lt2 : ∀ x ∈ p2, x.block < W.heap.size := by obtain ⟨m, hm⟩ := k2; exact DataW.trod_lt m _ _ _ hm
  obtain ⟨z2, w2⟩ : ∃ z : Mx.MatArg, z.In W a2 len2 := Mx.arg_of h2
  clear hA0 hval0
  refine (walk a0 len0 cap0 z0 a1 len1 cap1 z1 a2 len2 cap2 z2 W w0 w1 w2).mono fun e W' ⟨he, bel⟩ => ?_
  subst he
  exact ⟨_, rfl, _, _, _, [], _, [], hW', trodAll_mk1 (shut_bool Try.underlying4 _), (trodAll_cons_mk (Below.trod laidOut (by kernel_rfl) (of_decide_eq_true (by kernel_rfl)) k0 bel lt0) (trodAll_cons_mk (Below.trod laidOut (by kernel_rfl) (of_decide_eq_true (by kernel_rfl)) k1 bel lt1) (trodAll_cons_mk (Below.trod laidOut (by kernel_rfl) (of_decide_eq_true (by kernel_rfl)) k2 bel lt2) trodAll_mk0))), rfl, bel.frame _, fun h => by cases h⟩

theorem over : Rows.rowsBracketsRow.holds Try.pinned (OpenSpec.ofChange Rows.rowsBracketsSpec) :=
  OpenClaim.holds_of_wide 4 Try.f4 rfl rfl rfl rfl rfl rfl rfl ⟨rfl, rfl, rfl, rfl, rfl⟩ rfl rfl rfl rfl rfl (by kernel_rfl) Try.func4 (by kernel_rfl)
    (of_decide_eq_true (by kernel_rfl)) (by unfold Func.isWrapper; first | (rw [if_pos (by decide +kernel)]; kernel_rfl) | (rw [if_neg (by decide +kernel)]; exact ⟨rfl, rfl⟩))
    (fun os started H enc _ => lifted os started H enc)

/-- ████ THE STATEMENT ████ -/
theorem proved : Rows.RowsBracketsSaid := over
#print axioms proved
end Go.Proofs.Ytnobpdgicglieaa.rowsBrackets

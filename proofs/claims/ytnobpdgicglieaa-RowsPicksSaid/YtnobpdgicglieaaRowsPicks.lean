/-
  Proved: for every input the law RowsPicks returns true, and leaves its arguments as they were. No condition.
-/
import Derived.Test.YtnobpdgicglieaaRows
import Derived.WalkKit
import Derived.ProofKit
import Derived.OpenShut
import Derived.ShutString
import Derived.ChangeOld
import Derived.Below
import Derived.Test.YtnobpdgicglieaaMxArg
namespace Go.Proofs.Ytnobpdgicglieaa.rowsPicks
open Go.ChangeShapes Go.WideShapes Go.ChangeAt Go.RowKit
open Go.ChangeMaps (open_string shut_string)
set_option linter.unusedVariables false

theorem own : ownKnob Try.prog.godebug = none := by kernel_rfl
theorem laidOut : laidOutB Try.prog = true := by kernel_rfl

/-- WHAT THE WALK IS TOLD OF A SLICE OF INTEGERS THAT CAME IN: it is nil; or it leads to a row of 'cap' cells, the numbers 'zs' (the first 'len' are its elements, the rest its spare room), each fitting its kind. -/
def IsRow (k : IntKind) (w : World) (a : Option Addr) (len cap : Nat) (zs : List Int) : Prop :=
  (a = none ∧ len = 0 ∧ cap = 0 ∧ zs = []) ∨
  ∃ x, a = some x ∧ len ≤ cap ∧ cap ≤ maxLen ∧ zs.length = cap ∧ (∀ i, i < zs.length → w.cell? (x.add i) = some (.int k (zs.getD i 0))) ∧ ∀ n ∈ zs, (Lit.int k n).wf = true

open Go.Proofs.Ytnobpdgicglieaa.Gf Go.Proofs.Ytnobpdgicglieaa.Mx
theorem row_ints {w : World} {a : Option Addr} {len cap : Nat} {z : List Int} (h : IsRow .i64 w a len cap z) : len ≤ maxLen ∧ Ints w a len (fun i => z.getD i 0) := by
  rcases h with ⟨_, rfl, _, _⟩ | ⟨x, rfl, h1, h2, h3, h4, h5⟩
  · exact ⟨Nat.zero_le _, fun h => absurd h (Nat.lt_irrefl 0)⟩
  · refine ⟨Nat.le_trans h1 h2, fun hl => ?_⟩
    obtain ⟨b, off, rfl, hc⟩ := ints_at h4 (by omega)
    exact ⟨b, off, rfl, fun i hi => hc i (by omega)⟩
set_option maxRecDepth 100000 in
set_option maxHeartbeats 1000000 in
theorem large (p q : Option Addr) (n cn nl cl : Nat) (z : Mx.MatArg) (w : World) (hz : z.In w p n) (hl : nl ≤ maxLen) (h : ¬ FewP n z.L ∨ 60 < nl) :
    Calls Try.prog 8 #[.slice p n cn, .slice q nl cl] w fun e w' => e = .returned (.bool true) ∧ Below w.heap.size w w' := by
  unfold maxLen at hl
  have HZ := Lib.hid hz; have H := Lib.hid h; clear hz h
  by_cases hf : FewP n z.L
  · have HF := Lib.hid hf
    have hl2 : 60 < nl := by rcases H.out with h | h
                             · exact absurd hf h
                             · exact h
    clear hf
    go_enter Try.func8, Try.ntmps8
    go_wp2_with fail
    refine (awake_any _).mono ?_
    rintro e w1 ⟨rfl, hb1⟩
    have HB1 := Lib.hid hb1; clear hb1
    have HZ1 := Lib.hid (HZ.out.below HB1.out)
    go_wp2_with fail
    refine (few_yes _ _ _ _ _ _ _ HZ1.out.rag HF.out).mono ?_
    rintro e w2 ⟨rfl, rfl⟩
    go_wp2_with fail
    refine (awake_any _).mono ?_
    rintro e w3 ⟨rfl, hb3⟩
    have HB3 := Lib.hid hb3; clear hb3
    go_wp2_with fail
    go_ret
    exact ⟨rfl, Below.next HB1.out HB3.out⟩
  · have HF := Lib.hid hf; clear hf
    go_enter Try.func8, Try.ntmps8
    go_wp2_with fail
    refine (awake_any _).mono ?_
    rintro e w1 ⟨rfl, hb1⟩
    have HB1 := Lib.hid hb1; clear hb1
    have HZ1 := Lib.hid (HZ.out.below HB1.out)
    go_wp2_with fail
    refine (few_no _ _ _ _ _ _ _ HZ1.out.len HZ1.out.lens HZ1.out.rag HF.out).mono ?_
    rintro e w2 ⟨rfl, rfl⟩
    go_wp2_with fail
    refine (awake_any _).mono ?_
    rintro e w3 ⟨rfl, hb3⟩
    have HB3 := Lib.hid hb3; clear hb3
    go_wp2_with fail
    go_ret
    exact ⟨rfl, Below.next HB1.out HB3.out⟩
set_option maxRecDepth 100000 in
set_option maxHeartbeats 1000000 in
theorem wrong (p q : Option Addr) (n cn nl cl : Nat) (z : Mx.MatArg) (w : World) (hz : z.In w p n) (hl : nl ≤ 60) (hf : FewP n z.L) (h : ¬ RightP n z.L ∨ nl < 1 ∨ 32 < nl) :
    Calls Try.prog 8 #[.slice p n cn, .slice q nl cl] w fun e w' => e = .returned (.bool true) ∧ Below w.heap.size w w' := by
  have HZ := Lib.hid hz; have HF := Lib.hid hf; have H := Lib.hid h; clear hz hf h
  have hc : Hid (¬ RightP n z.L) ∨ (Hid (RightP n z.L) ∧ decide ((nl : Int) < 1) = true) ∨ (Hid (RightP n z.L) ∧ decide ((nl : Int) < 1) = false ∧ decide ((32 : Int) < (nl : Int)) = true) := by
    by_cases hR : RightP n z.L
    · by_cases h1 : nl < 1
      · exact Or.inr (Or.inl ⟨hR, by simp; omega⟩)
      · refine Or.inr (Or.inr ⟨hR, by simp; omega, ?_⟩)
        rcases H.out with h | h | h
        · exact absurd hR h
        · exact absurd h h1
        · simp; omega
    · exact Or.inl hR
  rcases hc with HR | ⟨HR, t1⟩ | ⟨HR, t1, t2⟩
  · go_enter Try.func8, Try.ntmps8
    go_wp2_with fail
    refine (awake_any _).mono ?_
    rintro e w1 ⟨rfl, hb1⟩
    have HB1 := Lib.hid hb1; clear hb1
    have HZ1 := Lib.hid (HZ.out.below HB1.out)
    go_wp2_with fail
    refine (few_yes _ _ _ _ _ _ _ HZ1.out.rag HF.out).mono ?_
    rintro e w2 ⟨rfl, rfl⟩
    go_wp2_with fail
    refine (pick_no _ _ _ _ _ _ _ _ _ _ (HZ1.out.few HF.out).1 (HZ1.out.few HF.out).2 (by omega) HZ1.out.rag H.out).mono ?_
    rintro e w3 ⟨rfl, hb3⟩
    have HB3 := Lib.hid hb3; clear hb3
    have HZ3 := Lib.hid (HZ1.out.below HB3.out)
    go_wp2_with fail
    refine (rright_no _ _ _ _ _ _ _ (HZ1.out.few HF.out).1 (HZ1.out.few HF.out).2 HZ3.out.rag HR.out).mono ?_
    rintro e w4 ⟨rfl, q4, hq4⟩
    have HB4 : Hid (Below w.heap.size w w4) := by rw [hq4]; exact below_drewN (Below.next HB1.out HB3.out) q4
    clear hq4
    go_wp2_with fail
    go_ret
    exact ⟨rfl, HB4.out⟩
  all_goals
    go_enter Try.func8, Try.ntmps8
    go_wp2_with fail
    refine (awake_any _).mono ?_
    rintro e w1 ⟨rfl, hb1⟩
    have HB1 := Lib.hid hb1; clear hb1
    have HZ1 := Lib.hid (HZ.out.below HB1.out)
    go_wp2_with fail
    refine (few_yes _ _ _ _ _ _ _ HZ1.out.rag HF.out).mono ?_
    rintro e w2 ⟨rfl, rfl⟩
    go_wp2_with fail
    refine (pick_no _ _ _ _ _ _ _ _ _ _ (HZ1.out.few HF.out).1 (HZ1.out.few HF.out).2 (by omega) HZ1.out.rag H.out).mono ?_
    rintro e w3 ⟨rfl, hb3⟩
    have HB3 := Lib.hid hb3; clear hb3
    have HZ3 := Lib.hid (HZ1.out.below HB3.out)
    go_wp2_with fail
    refine (rright_yes _ _ _ _ _ _ _ HZ3.out.rag HR.out).mono ?_
    rintro e w4 ⟨rfl, q4, hq4⟩
    have HB4 : Hid (Below w.heap.size w w4) := by rw [hq4]; exact below_drewN (Below.next HB1.out HB3.out) q4
    clear hq4
    go_wp2_with fail
    go_ret
    exact ⟨rfl, HB4.out⟩
/-- The rows that are wanted, k of them. -/
def wl (k m : Nat) (b o c : Nat → Nat) (z : Nat → Int) : List Value := (List.range k).map fun i => .slice (some ⟨b (z i).toNat, o (z i).toNat, none⟩) m (c (z i).toNat)
theorem wl_succ (k m : Nat) (b o c : Nat → Nat) (z : Nat → Int) : wl (k + 1) m b o c z = wl k m b o c z ++ [.slice (some ⟨b (z k).toNat, o (z k).toNat, none⟩) m (c (z k).toNat)] := by
  unfold wl; rw [List.range_succ, List.map_append]; rfl
def RelW (n nl m : Nat) (b o c : Nat → Nat) (z : Nat → Int) (w : World) (V I : Value) (wr : World) : Prop := ∃ k : Nat, k ≤ nl ∧ InL n k z ∧ I = .int .i64 (k : Int) ∧ wr.ownsRow w.heap.size 37 1 V k (wl k m b o c z) ∧ Below w.heap.size w wr
theorem want_mat {w wr : World} {B O n m nl : Nat} {b o c : Nat → Nat} {x : Nat → Nat → K} {z : Nat → Int} {V : Value} (hl : 0 < nl) (hM : Mat wr B O n m b o c x) (hin : InL n nl z) (ho : wr.ownsRow w.heap.size 37 1 V nl (wl nl m b o c z)) :
    ∃ g cap, V = .slice (some ⟨g, 0, none⟩) nl cap ∧ Mat wr g 0 nl m (fun i => b (z i).toNat) (fun i => o (z i).toNat) (fun i => c (z i).toNat) (fun i j => x (z i).toNat j) := by
  obtain ⟨g, cap, rfl, _, _⟩ := ho.form hl
  refine ⟨g, cap, rfl, ⟨fun i hi => ?_, fun i hi j hj => hM.row (z i).toNat (by have := hin i hi; omega) j hj⟩⟩
  rw [Nat.zero_add, ho.cellAt i (by omega)]
  unfold wl; rw [List.getElem?_map, List.getElem?_range hi]; rfl
set_option maxRecDepth 100000 in
set_option maxHeartbeats 2000000 in
theorem fit (P O n m cn Q T nl cl : Nat) (za : Mx.MatArg) (z : Nat → Int) (w : World) (hz : za.In w (some ⟨P, O, none⟩) n) (hf : FewP n za.L) (hR : RightP n za.L) (hM : Mat w P O n m za.b za.o za.C za.x) (hn : 1 ≤ n) (hn' : n ≤ 32) (hm : 1 ≤ m) (hm' : m ≤ 32) (hl : 1 ≤ nl) (hl' : nl ≤ 32)
    (hI : Ints w (some ⟨Q, T, none⟩) nl z) :
    Calls Try.prog 8 #[.slice (some ⟨P, O, none⟩) n cn, .slice (some ⟨Q, T, none⟩) nl cl] w fun e w' => e = .returned (.bool true) ∧ Below w.heap.size w w' := by
  have HZ := Lib.hid hz; have HF := Lib.hid hf; have HM := Lib.hid hM; have HI := Lib.hid hI; have HR := Lib.hid hR; clear hz hf hM hI hR
  obtain ⟨iR, hiR, hzR, hsR, hbR⟩ := info_parts infoR
  have HIR := Lib.hid hiR; have HZR := Lib.hid hzR; have HSR := Lib.hid hsR; have HBR := Lib.hid hbR
  clear hiR hzR hsR hbR
  have t1 : decide ((nl : Int) < 1) = false := by simp; omega
  have t2 : decide ((32 : Int) < (nl : Int)) = false := by simp; omega
  go_enter Try.func8, Try.ntmps8
  go_wp2_with fail
  refine (awake_any _).mono ?_
  rintro e w1 ⟨rfl, hb1⟩
  have HB1 := Lib.hid hb1; clear hb1
  go_wp2_with fail
  refine (few_yes _ _ _ _ _ _ _ (HZ.out.below HB1.out).rag HF.out).mono ?_
  rintro e w2 ⟨rfl, rfl⟩
  go_wp2_with fail
  refine (pick_any _ _ n m _ _ _ _ za.x _ nl _ z _ hn hn' hm hm' hl hl' (HM.out.below HB1.out) (HI.out.below HB1.out)).mono ?_
  rintro e w3 ⟨hyes, hno⟩
  by_cases hin : InL n nl z
  · obtain ⟨B3, r3, rfl, ho3, hb3⟩ := hyes hin
    have HO3 := Lib.hid ho3.mat; have HB3 := Lib.hid hb3; have HIN := Lib.hid hin; clear ho3 hb3 hyes hno hin
    go_wp2_with fail
    refine (rright_yes _ _ _ _ _ _ _ (HZ.out.below (Below.next HB1.out HB3.out)).rag HR.out).mono ?_
    rintro e w4 ⟨rfl, q4, hq4⟩
    have HB4 : Hid (Below w.heap.size w w4) := by rw [hq4]; exact below_drewN (Below.next HB1.out HB3.out) q4
    have HO4 : Hid (Mat w4 B3 0 nl m r3 (fun _ => 0) (fun _ => m) (fun i j => za.x (z i).toNat j)) := by rw [hq4]; exact HO3.out.drewN q4
    clear hq4
    have HM4 := Lib.hid (HM.out.below HB4.out)
    have HI4 := Lib.hid (HI.out.below HB4.out)
    have hc : ∀ i, i < nl → w4.cell? ⟨Q, T + i, none⟩ = some (.int .i64 (z i)) := by
      obtain ⟨Q', T', e, hc⟩ := HI4.out (by omega)
      injection e with e
      injection e with e1 e2
      subst e1; subst e2
      exact hc
    have HC := Lib.hid hc; clear hc
    go_wp2_with fail
    go_loopw [7, 8] (fun V I wr => RelW n nl m za.b za.o za.C z w4 V I wr) (fun _ I _ => nl - (intOf I).toNat)
    case atStart => exact ⟨0, by omega, fun i hi => by omega, rfl, World.ownsRow_nil _ _ _ _, Below.refl _ _⟩
    case round =>
      obtain ⟨k, hk, hgood, rfl, hown, hbel⟩ := hrel
      have HG := Lib.hid hgood; have HW := Lib.hid hown; have HBr := Lib.hid hbel; clear hgood hown hbel
      by_cases hlt : k < nl
      · have k0 : (k : Int) < (nl : Int) := by omega
        have cz : wr.cell? ⟨Q, T + k, none⟩ = some (.int .i64 (z k)) := by
          rw [HBr.out.cell (p := ⟨Q, T + k, none⟩) (block_lt_of_cell (HC.out k hlt))]; exact HC.out k hlt
        have hz1 := HIN.out k hlt
        obtain ⟨zk0, zk1⟩ := hz1
        have d1 : decide (z k < 0) = false := by simp; omega
        have d2 : decide ((n : Int) ≤ z k) = false := by simp; omega
        have ca := (HM4.out.below HBr.out).top (z k).toNat (by omega)
        have HG2 : Hid (InL n (k + 1) z) := fun i hi => by
          by_cases e : i = k
          · subst e; exact ⟨zk0, zk1⟩
          · exact HG.out i (by omega)
        have HE := Lib.hid (wl_succ k m za.b za.o za.C z)
        have HL := Lib.hid (show k + 1 ≤ 32 by omega)
        generalize z k = u at cz d1 d2 ca zk0 zk1 HE
        go_wp2_with (at_builtin; refine wpList_append_own _ rfl _ _ 22 rfl w4.heap.size 37 iR (.slice none 0 0) 1 24 Try.underlying22 HIR.out HZR.out HSR.out HBR.out rfl (by decide) _ _ _ rfl (HW.out.alloc _) ⟨wr.heap.size, 0, none⟩ 1 1 [.slice (some ⟨za.b u.toNat, za.o u.toNat, none⟩) m (za.C u.toNat)] rfl rfl ?c1 ?c2 ?c3 ?c4 ?c5 ?_)
        case c1 =>
          intro a v ha
          match a, ha with
          | 0, ha => simp at ha; subst ha; simp [Addr.add]
        case c2 => intro v hv; simp at hv; subst hv; rfl
        case c3 => have := HL.out; unfold maxLen; omega
        case c4 => have := HL.out; omega
        case c5 => have := HBr.out.size; simp; omega
        intro v' w5 hown' hgrow _
        have HN : Hid (w5.ownsRow w4.heap.size 37 1 v' (k + 1) (wl (k + 1) m za.b za.o za.C z)) := by
          show World.ownsRow _ _ _ _ _ _ _
          rw [HE.out]; exact hown'
        have HB5 : Hid (Below w4.heap.size w4 w5) := (HBr.out.alloc HBr.out.size _).grown hgrow (by have := HBr.out.size; simp; omega) (fun g e => (HW.out.lt g e).1)
        clear hown' hgrow
        go_wp2
        go_roundw
        case rel => exact ⟨k + 1, by omega, HG2.out, by go_num, HN.out, HB5.out⟩
        case measure => simp [intOf]; omega
      · obtain rfl : k = nl := by omega
        obtain ⟨g, cap, hv, hMw⟩ := want_mat (by omega) (HM4.out.below HBr.out) HIN.out HW.out
        subst hv
        have HMw := Lib.hid hMw; clear hMw
        go_wp2_with fail
        refine (equal_yes _ _ k m _ _ _ _ _ _ _ _ _ _ _ _ _ (by omega) (HO4.out.below HBr.out) HMw.out (fun _ _ _ _ => rfl)).mono ?_
        rintro e w6 ⟨rfl, q6, hq6⟩
        have HB6 : Hid (Below w.heap.size w w6) := by rw [hq6]; exact below_drewN (Below.next HB4.out HBr.out) q6
        clear hq6
        go_wp2_with fail
        go_ret
        exact ⟨rfl, HB6.out⟩
  · obtain ⟨rfl, hb3⟩ := hno hin
    have HB3 := Lib.hid hb3; have HIN := Lib.hid hin; clear hb3 hyes hno hin
    go_wp2_with fail
    refine (rright_yes _ _ _ _ _ _ _ (HZ.out.below (Below.next HB1.out HB3.out)).rag HR.out).mono ?_
    rintro e w4 ⟨rfl, q4, hq4⟩
    have HB4 : Hid (Below w.heap.size w w4) := by rw [hq4]; exact below_drewN (Below.next HB1.out HB3.out) q4
    clear hq4
    have HM4 := Lib.hid (HM.out.below HB4.out)
    have HI4 := Lib.hid (HI.out.below HB4.out)
    have hc : ∀ i, i < nl → w4.cell? ⟨Q, T + i, none⟩ = some (.int .i64 (z i)) := by
      obtain ⟨Q', T', e, hc⟩ := HI4.out (by omega)
      injection e with e
      injection e with e1 e2
      subst e1; subst e2
      exact hc
    have HC := Lib.hid hc; clear hc
    go_wp2_with fail
    go_loopw [7, 8] (fun V I wr => RelW n nl m za.b za.o za.C z w4 V I wr) (fun _ I _ => nl - (intOf I).toNat)
    case atStart => exact ⟨0, by omega, fun i hi => by omega, rfl, World.ownsRow_nil _ _ _ _, Below.refl _ _⟩
    case round =>
      obtain ⟨k, hk, hgood, rfl, hown, hbel⟩ := hrel
      have HG := Lib.hid hgood; have HW := Lib.hid hown; have HBr := Lib.hid hbel; clear hgood hown hbel
      by_cases hlt : k < nl
      · have k0 : (k : Int) < (nl : Int) := by omega
        have cz : wr.cell? ⟨Q, T + k, none⟩ = some (.int .i64 (z k)) := by
          rw [HBr.out.cell (p := ⟨Q, T + k, none⟩) (block_lt_of_cell (HC.out k hlt))]; exact HC.out k hlt
        by_cases hz1 : z k < 0
        · have d1 : decide (z k < 0) = true := by simpa using hz1
          generalize z k = u at cz d1 hz1
          go_wp2
          go_ret
          exact ⟨rfl, Below.next HB4.out HBr.out⟩
        have d1 : decide (z k < 0) = false := by simpa using hz1
        by_cases hz2 : (n : Int) ≤ z k
        · have zk0 : 0 ≤ z k := by omega
          clear hz1
          generalize z k = u at cz d1 hz2 zk0
          go_wp2
          go_ret
          exact ⟨rfl, Below.next HB4.out HBr.out⟩
        have zk0 : 0 ≤ z k := by omega
        have zk1 : z k < (n : Int) := by omega
        clear hz1 hz2 d1
        have d1 : decide (z k < 0) = false := by simp; omega
        have d2 : decide ((n : Int) ≤ z k) = false := by simp; omega
        have ca := (HM4.out.below HBr.out).top (z k).toNat (by omega)
        have HG2 : Hid (InL n (k + 1) z) := fun i hi => by
          by_cases e : i = k
          · subst e; exact ⟨zk0, zk1⟩
          · exact HG.out i (by omega)
        have HE := Lib.hid (wl_succ k m za.b za.o za.C z)
        have HL := Lib.hid (show k + 1 ≤ 32 by omega)
        generalize z k = u at cz d1 d2 ca zk0 zk1 HE
        go_wp2_with (at_builtin; refine wpList_append_own _ rfl _ _ 22 rfl w4.heap.size 37 iR (.slice none 0 0) 1 24 Try.underlying22 HIR.out HZR.out HSR.out HBR.out rfl (by decide) _ _ _ rfl (HW.out.alloc _) ⟨wr.heap.size, 0, none⟩ 1 1 [.slice (some ⟨za.b u.toNat, za.o u.toNat, none⟩) m (za.C u.toNat)] rfl rfl ?c1 ?c2 ?c3 ?c4 ?c5 ?_)
        case c1 =>
          intro a v ha
          match a, ha with
          | 0, ha => simp at ha; subst ha; simp [Addr.add]
        case c2 => intro v hv; simp at hv; subst hv; rfl
        case c3 => have := HL.out; unfold maxLen; omega
        case c4 => have := HL.out; omega
        case c5 => have := HBr.out.size; simp; omega
        intro v' w5 hown' hgrow _
        have HN : Hid (w5.ownsRow w4.heap.size 37 1 v' (k + 1) (wl (k + 1) m za.b za.o za.C z)) := by
          show World.ownsRow _ _ _ _ _ _ _
          rw [HE.out]; exact hown'
        have HB5 : Hid (Below w4.heap.size w4 w5) := (HBr.out.alloc HBr.out.size _).grown hgrow (by have := HBr.out.size; simp; omega) (fun g e => (HW.out.lt g e).1)
        clear hown' hgrow
        go_wp2
        go_roundw
        case rel => exact ⟨k + 1, by omega, HG2.out, by go_num, HN.out, HB5.out⟩
        case measure => simp [intOf]; omega
      · obtain rfl : k = nl := by omega
        exact absurd HG.out HIN.out
/-! ### STEP 1: THE WALK: the Go text returns true, AND WRITES NOTHING THAT WAS THERE: 'Below w.heap.size w w'' (Derived/Below.lean: '.refl', '.alloc', '.drew', '.setCell' at a new block, '.trans'). Open each 'IsRow' by 'rcases' AHEAD of 'go_enter'; part every test ahead of the walk. -/
theorem walk (a0 : Option Addr) (len0 cap0 : Nat) (z0 : Mx.MatArg) (a1 : Option Addr) (len1 cap1 : Nat) (z1 : List Int) (w : World) (w0 : z0.In w a0 len0) (w1 : IsRow .i64 w a1 len1 cap1 z1) :
    Calls Try.prog 8 #[.slice a0 len0 cap0, .slice a1 len1 cap1] w fun e w' => e = .returned (.bool true) ∧ Below w.heap.size w w' := by
  obtain ⟨hl, hI⟩ := row_ints w1
  by_cases hF : ¬ FewP len0 z0.L ∨ 60 < len1
  · exact large a0 a1 len0 cap0 len1 cap1 z0 w w0 hl hF
  have hf : FewP len0 z0.L := Classical.byContradiction fun h => hF (Or.inl h)
  have hl60 : len1 ≤ 60 := Nat.le_of_not_lt fun h => hF (Or.inr h)
  by_cases hR : ¬ RightP len0 z0.L ∨ len1 < 1 ∨ 32 < len1
  · exact wrong a0 a1 len0 cap0 len1 cap1 z0 w w0 hl60 hf hR
  have hr : RightP len0 z0.L := Classical.byContradiction fun h => hR (Or.inl h)
  have h1 : 1 ≤ len1 := Nat.le_of_not_lt fun h => hR (Or.inr (Or.inl h))
  have h2 : len1 ≤ 32 := Nat.le_of_not_lt fun h => hR (Or.inr (Or.inr h))
  obtain ⟨B, O, rfl, hM⟩ := w0.mat hr
  obtain ⟨Q, T, rfl, _⟩ := hI (by omega)
  exact fit B O len0 (z0.L 0) cap0 Q T len1 cap1 z0 _ w w0 hf hr hM hr.1 hr.2.1 hr.2.2.1 hr.2.2.2.1 h1 h2 hI

/-! ### THE ROW's STEP: WRITTEN OUT: LEAVE IT -/
set_option maxRecDepth 100000 in
theorem lifted (os : Os) (started : os.Started) (H : Type) (enc : TypeId × Value → H) :
    ReturnsInHanded {} Try.checked os 8 .any (Rows.rowsPicksSpec.pre6 enc Try.prog Try.f8 Rows.rowsPicksRow.domain false) (Rows.rowsPicksSpec.post enc Try.prog Try.f8 false true false false) := by
  refine returnsInHanded_of_change (C := Try.checked) own started (by kernel_rfl) Try.func8
    (ChangeSpec.witness6 (enc := enc) (C := Try.checked) false ⟨#[], #[.slice none 0 0, .slice none 0 0], []⟩ 8 (by kernel_rfl) (by kernel_rfl) (by kernel_rfl) (by kernel_rfl)) ?_
  intro W base args ds gs before hval0 hW hcnd _
  have hval : ∀ (j : Nat) t v, Try.f8.params[j]? = some t → args[j]? = some v → Value.okWide Try.prog W .any base t v := hval0
  have hW' := hW
  obtain ⟨p, q, hA0, hV, rfl, hfz, hnd⟩ := hW
  have hA : DataW.TrodAll enc Try.prog W 0 (fun _ => true) true Try.f8.params.toList args.toList ds p := hA0
  rw [Try.params8] at hA hval
  obtain ⟨v0, vs0, d0, ds0, p0, q0, hargs, rfl, rfl, h0, r0⟩ := trodAll_cons hA
  obtain ⟨v1, vs1, d1, ds1, p1, q1, rfl, rfl, rfl, h1, r1⟩ := trodAll_cons r0
  obtain ⟨rfl, rfl, rfl⟩ := trodAll_nil r1
  obtain rfl : args = #[v0, v1] := by cases args; simp_all
  obtain ⟨rfl, rfl⟩ := trodVars_none hV
  obtain ⟨a0, len0, cap0, rfl⟩ := okWide_slice Try.underlying22 (hval 0 22 v0 rfl rfl)
  have k0 := h0
  have lt0 : ∀ x ∈ p0, x.block < W.heap.size := by obtain ⟨m, hm⟩ := k0; exact DataW.trod_lt m _ _ _ hm
  obtain ⟨z0, w0⟩ : ∃ z : Mx.MatArg, z.In W a0 len0 := Mx.arg_of h0
  obtain ⟨a1, len1, cap1, rfl⟩ := okWide_slice Try.underlying33 (hval 1 33 v1 rfl rfl)
  have k1 := h1
  have lt1 : ∀ x ∈ p1, x.block < W.heap.size := by obtain ⟨m, hm⟩ := k1; exact DataW.trod_lt m _ _ _ hm
  obtain ⟨z1, w1⟩ : ∃ zs, IsRow .i64 W a1 len1 cap1 zs := by
    obtain ⟨fuel, hf⟩ := h1
    rcases open_ints Try.underlying33 Try.underlying3 (by kernel_rfl) hf with ⟨hcs, _⟩ | ⟨x, l, c, zs, hcs, _, hl, hm, hz, _, hcell, hwz⟩
    · simp [Value.cells] at hcs
      obtain ⟨rfl, rfl, rfl⟩ := hcs
      exact ⟨[], .inl ⟨rfl, rfl, rfl, rfl⟩⟩
    · simp [Value.cells] at hcs
      obtain ⟨rfl, rfl, rfl⟩ := hcs
      exact ⟨zs, .inr ⟨_, rfl, hl, hm, by simpa using hz, hcell, hwz⟩⟩
  clear hA0 hval0
  refine (walk a0 len0 cap0 z0 a1 len1 cap1 z1 W w0 w1).mono fun e W' ⟨he, bel⟩ => ?_
  subst he
  exact ⟨_, rfl, _, _, _, [], _, [], hW', trodAll_mk1 (shut_bool Try.underlying4 _), (trodAll_cons_mk (Below.trod laidOut (by kernel_rfl) (of_decide_eq_true (by kernel_rfl)) k0 bel lt0) (trodAll_cons_mk (Below.trod laidOut (by kernel_rfl) (of_decide_eq_true (by kernel_rfl)) k1 bel lt1) trodAll_mk0)), rfl, bel.frame _, fun h => by cases h⟩

theorem over : Rows.rowsPicksRow.holds Try.pinned (OpenSpec.ofChange Rows.rowsPicksSpec) :=
  OpenClaim.holds_of_wide 8 Try.f8 rfl rfl rfl rfl rfl rfl rfl ⟨rfl, rfl, rfl, rfl, rfl⟩ rfl rfl rfl rfl rfl (by kernel_rfl) Try.func8 (by kernel_rfl)
    (of_decide_eq_true (by kernel_rfl)) (by unfold Func.isWrapper; first | (rw [if_pos (by decide +kernel)]; kernel_rfl) | (rw [if_neg (by decide +kernel)]; exact ⟨rfl, rfl⟩))
    (fun os started H enc _ => lifted os started H enc)

/-- ████ THE STATEMENT ████ -/
theorem proved : Rows.RowsPicksSaid := over
#print axioms proved
end Go.Proofs.Ytnobpdgicglieaa.rowsPicks

/-
  pairs.Groups: what it hands out.
-/
import Derived.Test.YtgakcpcpfkoaiaaPrVals
import Derived.Test.YtgakcpcpfkoaiaaOvRng
import Derived.RangeFuncBound
import Derived.RangeFuncCalls
import Derived.RangeFuncLeaves
import Derived.WalkKit
import Derived.OwnWalkIn
import Derived.TacticsInMore
import Derived.LoopNIn
import Derived.LoopIn
import Derived.Stop.RegionWithIn
namespace Go.Proofs.Ytgakcpcpfkoaiaa.Pr
open Go.ChangeShapes Go.WideShapes Go.ChangeAt Go.RowKit Go.Sort Go.Shelf Go.Proofs Go.Proofs.Ytgakcpcpfkoaiaa.Ov Go.Proofs.Ytgakcpcpfkoaiaa.Va Go.Proofs.Ytgakcpcpfkoaiaa.St

/-- A group as it is handed over: its key, where its values lie, these. -/
abbrev Gx := List UInt8 × Nat × List Va
def enG (x : Gx) : Array Value := #[.string (tx x.1), .slice (some ⟨x.2.1, 0, none⟩) x.2.2.length x.2.2.length]
/-- These groups have been taken off l; what is left. -/
inductive Took (l : List Pr) : List Gx → List Pr → Prop
  | nil : Took l [] l
  | snoc {pre : List Gx} {rest : List Pr} {k g : Nat} : Took l pre rest → IsG rest k → Took l (pre ++ [((pd rest 0).1, g, (rest.take k).map (·.2))]) (rest.drop k)
/-- What comes with a group. -/
def Fg (l : List Pr) (pre : List Gx) (x : Gx) (W : World) : Prop := Vls W x.2.1 x.2.2 ∧ ∃ rest k, Took l pre rest ∧ IsG rest k ∧ x.1 = (pd rest 0).1 ∧ x.2.2 = (rest.take k).map (·.2)
/-- The sorted list lies in its box. -/
def Mg (bx : Nat) (A : Option Addr) (c : Nat) (l : List Pr) (W : World) : Prop := W.cell? ⟨bx, 0, none⟩ = some (.slice A l.length c) ∧ Prs W A l
theorem prs_drop {w : World} {B O : Nat} {l : List Pr} (h : Prs w (some ⟨B, O, none⟩) l) (i : Nat) : Prs w (some ⟨B, O + i * 6, none⟩) (l.drop i) := fun hl => by
  have hl' : i < l.length := by rw [List.length_drop] at hl; omega
  refine ⟨B, O + i * 6, rfl, fun j t v hj hv => ?_⟩
  rw [List.length_drop] at hj
  have e : pd (l.drop i) j = pd l (i + j) := by unfold pd; rw [List.getElem?_drop]
  rw [e] at hv
  have := h.cell (i := i + j) (by omega) t v hv
  rw [show O + i * 6 + j * 6 + t = O + (i + j) * 6 + t by omega]
  exact this
theorem prs_take {w : World} {A : Option Addr} {l : List Pr} (h : Prs w A l) (k : Nat) : Prs w A (l.take k) := fun hl => by
  have hl' : 0 < l.length := by rw [List.length_take] at hl; omega
  obtain ⟨B, O, e, hc⟩ := h hl'
  refine ⟨B, O, e, fun j t v hj hv => ?_⟩
  rw [List.length_take] at hj
  have e : pd (l.take k) j = pd l j := by unfold pd; rw [List.getElem?_take, if_pos (by omega)]
  rw [e] at hv
  exact hc j t v (by omega) hv
def lenS : Value → Nat | .slice _ n _ => n | _ => 0
attribute [local go_sem] Oper.semAt_some
set_option maxRecDepth 100000 in
set_option maxHeartbeats 4000000 in
theorem groups1_its (bx : Nat) (A : Option Addr) (c : Nat) (l : List Pr) (hl : l.length ≤ 100000) (hlc : l.length ≤ c) (hX : Tx l) (n : Nat) :
    Its Fence.wide n Try.prog 36 #[.pointer (some ⟨bx, 0, none⟩)] enG (Mg bx A c l) (Fg l) (fun xs => Took l xs []) (fun pre => ∃ rest, Took l pre rest) := by
  intro L J Jx W hJ hJx hM hY h0
  have hbx := (hM _ _ h0).1
  have HJ := Lib.hid hJ; have HJX := Lib.hid hJx; have HM := Lib.hid hM; have HY := Lib.hid hY; have H0 := Lib.hid h0; have HX := Lib.hid hX
  clear hJ hJx hM hY h0 hX
  refine callsIn_of_wp Try.func36 rfl trivial ?_ rfl
  simp only [Try.ntmps36, List.size_toArray, List.length_cons, List.length_nil, Nat.reduceAdd, Nat.reduceSub, Array.replicate_succ, Array.replicate_zero, List.push_toArray, List.append_toArray, List.nil_append, List.cons_append]
  gi_wp2
  gi_loopw [3] (fun p wr => ∃ (pre : List Gx) (i m : Nat) (A' : Option Addr) (c' : Nat), p = .slice A' m c' ∧ Hid (m + i = l.length) ∧ Hid (Took l pre (l.drop i)) ∧ Hid (J pre wr) ∧ Hid (∀ B O, A = some ⟨B, O, none⟩ → 0 < m → A' = some ⟨B, O + i * 6, none⟩ ∧ m ≤ c')) (fun p _ => lenS p)
  case atStart => exact ⟨[], 0, l.length, A, c, rfl, Lib.hid rfl, Took.nil, H0, Lib.hid fun B O h _ => ⟨by rw [Nat.zero_mul, Nat.add_zero]; exact h, hlc⟩⟩
  case round =>
    clear hbx H0
    obtain ⟨pre, i, m, A', c', rfl, HI, HT, HJ1, HA⟩ := hrel
    rcases Nat.eq_zero_or_pos m with hm | hm
    · subst hm
      gi_wp2
      go_end0
      refine ⟨⟨_, rfl⟩, .inl ⟨pre, ?_, HJ1.out⟩⟩
      have := HT.out
      rwa [List.drop_eq_nil_of_le (by have := HI.out; omega)] at this
    · have hil : i < l.length := by have := HI.out; omega
      have hmm := HM.out _ _ HJ1.out
      obtain ⟨B, O, rfl⟩ := hmm.2.shape (by omega)
      obtain ⟨rfl, hmc'⟩ := HA.out B O rfl hm
      have hpr := prs_drop hmm.2 i
      have hlen : (l.drop i).length = m := by rw [List.length_drop]; have := HI.out; omega
      obtain ⟨rest, hrest⟩ : ∃ r, r = l.drop i := ⟨_, rfl⟩
      rw [← hrest] at hpr hlen HT
      have hgs := groupSize_any B (O + i * 6) c' rest wr hpr (by omega) (by have := HI.out; omega)
      rw [hlen] at hgs
      have HR := Lib.hid hrest; have HL := Lib.hid hlen; have HP := Lib.hid hpr; have HMM := Lib.hid hmm.1
      clear hrest hlen hpr hmm
      have hmz : (0 : Int) < (m : Int) := by omega
      gi_wp2_with (refine ⟨trivial, (fun h => nomatch h), ?_⟩; refine (callsIn_wide.2 hgs).mono ?_; rintro e w1 ⟨k, rfl, hk, hb⟩)
      have HJ2 := Lib.hid (HJ.out _ _ _ HJ1.out hb)
      have HP2 := Lib.hid (HP.out.next hb)
      have HK := Lib.hid hk
      clear hgs hk hb HP HMM HA HJ1
      have hkc := HP2.out.cell (i := 0) (by rw [HL.out]; exact hm) 0 _ rfl
      rw [Nat.zero_mul, Nat.add_zero] at hkc
      have hk0 := HK.out.1
      have hkm : k ≤ m := by have := HK.out.2.1; rw [HL.out] at this; exact this
      have hkmz : (k : Int) ≤ (m : Int) := by omega
      have hkcz : (k : Int) ≤ (c' : Int) := by omega
      obtain ⟨vals, hvals⟩ : ∃ v, v = (rest.take k).map (·.2) := ⟨_, rfl⟩
      have hvl : vals.length = k := by rw [hvals, List.length_map, List.length_take, HL.out]; omega
      have htl : (rest.take k).length = k := by rw [List.length_take, HL.out]; omega
      have hXr : Tx rest := fun p hp => HX.out p (by rw [HR.out] at hp; exact List.mem_of_mem_drop hp)
      have hXt : Tx (rest.take k) := fun p hp => hXr p (List.mem_of_mem_take hp)
      have hks : (tx (pd rest 0).1).size ≤ 281474976710656 := by
        rw [tx_size]; have := (hXr _ (pd_mem (l := rest) (i := 0) (by rw [HL.out]; exact hm))).1; omega
      have HC := Lib.hid (fun W => clone_any (tx (pd rest 0).1) W hks)
      have HO : Hid (∀ W, Prs W (some ⟨B, O + i * 6, none⟩) rest → Calls Try.prog 38 #[.slice (some ⟨B, O + i * 6, none⟩) k c'] W fun e w' => ∃ g, e = .returned (.slice (some ⟨g, 0, none⟩) k k) ∧ Vls w' g vals ∧ Below W.heap.size W w') := fun W h => by
        have := ownValues_any B (O + i * 6) c' (rest.take k) W (prs_take h k) (by rw [htl]; have := HI.out; omega) hXt
        rw [htl, ← hvals] at this
        exact this
      have HYK : Hid (∀ g W3, J pre W3 → Vls W3 g vals → ∃ fn tmps assign body, (Instr.yield L #[.string (tx (pd rest 0).1), .slice (some ⟨g, 0, none⟩) k k]).run Try.prog W3 = .ok (.round L fn tmps assign body) W3 ∧
          RoundIn Fence.wide (n - 1) Try.prog L fn tmps assign body W3 fun e Y => ∃ b : Bool, e = .returned (.bool b) ∧ ((b = true ∧ Hid (J (pre ++ [((pd rest 0).1, g, vals)]) Y)) ∨ (b = false ∧ Hid (Jx (pre ++ [((pd rest 0).1, g, vals)]) Y)))) := fun g W3 hj hv => by
        obtain ⟨fn, tmps, assign, body, hy, hR⟩ := HY.out pre ((pd rest 0).1, g, vals) W3 hj ⟨hv, rest, k, HT.out, HK.out, rfl, hvals⟩
        refine ⟨fn, tmps, assign, body, ?_, hR.mono fun e Y h => ?_⟩
        · have : enG ((pd rest 0).1, g, vals) = #[.string (tx (pd rest 0).1), .slice (some ⟨g, 0, none⟩) k k] := by unfold enG; dsimp only; rw [hvl]
          rwa [this] at hy
        · rcases h with ⟨rfl, h⟩ | ⟨rfl, h⟩
          · exact ⟨true, rfl, .inl ⟨rfl, h⟩⟩
          · exact ⟨false, rfl, .inr ⟨rfl, h⟩⟩
      have HV := Lib.hid hvals
      have HJD : Hid (J pre w1.drew) := HJ.out _ _ _ HJ2.out (below_drewN (Below.refl _ _) 1)
      have HPD : Hid (Prs w1.drew (some ⟨B, O + i * 6, none⟩) rest) := HP2.out
      clear hvals hvl htl hXr hXt hks HP2 HJ2 HY
      generalize tx (pd rest 0).1 = s at *
      gi_region_with (first
        | (refine ⟨trivial, (fun h => nomatch h), ?_⟩; refine (callsIn_wide.2 (HC.out _)).mono ?_; rintro e w2 ⟨rfl, hb2⟩)
        | (refine ⟨trivial, (fun h => nomatch h), ?_⟩; refine (callsIn_wide.2 (HO.out _ (HPD.out.next hb2))).mono ?_; rintro e w3 ⟨g, rfl, hv, hb3⟩; obtain ⟨fn, tmps, assign, body, hy, hR⟩ := HYK.out g w3 (HJ.out _ _ _ (HJ.out _ _ _ HJD.out hb2) hb3) hv)
        | (refine ⟨(fun h => nomatch h), ?_⟩; refine hR.mono ?_; rintro e w4 ⟨b, rfl, hor⟩))
      rcases hor with ⟨rfl, hj⟩ | ⟨rfl, hjx⟩
      · gi_wp2
        go_roundw
        case rel =>
          refine ⟨_, i + k, m - k, _, _, rfl, Lib.hid (by have := HI.out; omega), ?_, hj, ?_⟩
          · have ht := Took.snoc (g := g) HT.out HK.out
            rw [← HV.out] at ht
            have e : rest.drop k = l.drop (i + k) := by rw [HR.out, List.drop_drop]
            rw [e] at ht
            exact ht
          · intro B' O' e hmk
            cases e
            have hne : c' ≠ k := by omega
            rw [if_neg hne, show O + i * 6 + k * 6 = O + (i + k) * 6 by omega]
            exact ⟨rfl, by omega⟩
        case measure =>
          show m - k < m
          omega
      · gi_wp2
        refine bodyPost_ret (results_none rfl _ _ w4) rfl ?_
        refine ⟨⟨_, rfl⟩, .inr ⟨pre ++ [((pd rest 0).1, g, vals)], ⟨rest.drop k, ?_⟩, hjx.out⟩⟩
        have ht := Took.snoc (g := g) HT.out HK.out
        rw [← HV.out] at ht
        exact ht
end Go.Proofs.Ytgakcpcpfkoaiaa.Pr

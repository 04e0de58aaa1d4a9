/-
  Small texts of this claim, together: PrVals, PrGrs, PrGroups, SoTook, SoDoc, SoFoldG, SoOwn, SoSorter, SoRest, SoOwns.
-/
import Derived.Test.YtamhfjlffacakaaQ4
import Derived.Test.YtamhfjlffacakaaQPrRef
import Derived.Test.YtamhfjlffacakaaQ1
import Derived.RangeFuncBound
import Derived.RangeFuncCalls
import Derived.RangeFuncLeaves
import Derived.WalkKit
import Derived.OwnWalkIn
import Derived.TacticsInMore
import Derived.LoopNIn
import Derived.LoopIn
import Derived.Stop.RegionWithIn
import Derived.Test.YtamhfjlffacakaaQ3
import Derived.Test.YtamhfjlffacakaaQJoFold2
import Derived.Test.YtamhfjlffacakaaQPrOwn
import Derived.BigRegion
import Derived.Test.YtamhfjlffacakaaQSoMath
namespace Go.Proofs.Ytamhfjlffacakaa.Pr
open Go.ChangeShapes Go.WideShapes Go.ChangeAt Go.RowKit Go.Sort Go.Shelf Go.Proofs Ov Va St
def wcl (v : Va) : List Value := [.int .i64 v.k, .int .i64 v.n, .string (tx v.s), .int .i64 v.x, .int .i64 v.y]
def wcells (l : List Va) : List Value := l.flatMap wcl
def vz0 : Va := ⟨0, 0, [], 0, 0⟩
def vd (l : List Va) (i : Nat) : Va := (l[i]?).getD vz0
theorem wcells_len (l : List Va) : (wcells l).length = l.length * 5 := by
 induction l with
 | nil => rfl
 | cons p t ih => show (wcl p ++ wcells t).length = _; rw [List.length_append, ih, List.length_cons]; show 5 + _ = _; omega
theorem wcells_at (l : List Va) (i j : Nat) (hi : i < l.length) (hj : j < 5) : (wcells l)[i * 5 + j]? = (wcl (vd l i))[j]? := by
 induction l generalizing i with
 | nil => simp at hi
 | cons n t ih =>
   show (wcl n ++ wcells t)[i * 5 + j]? = _
   cases i with
   | zero => rw [Nat.zero_mul, Nat.zero_add, List.getElem?_append_left (by show j < 5; exact hj)]; rfl
   | succ i =>
     rw [List.getElem?_append_right (by show 5 ≤ _; omega)]
     show (wcells t)[(i + 1) * 5 + j - 5]? = (wcl (vd t i))[j]?
     rw [show (i + 1) * 5 + j - 5 = i * 5 + j by omega]
     exact ih i (by simpa using hi)
theorem wcells_set (l : List Va) (j : Nat) (q : Va) (h : j < l.length) : wcells (l.set j q) =
 (((((wcells l).set (j * 5) (.int .i64 q.k)).set (j * 5 + 1) (.int .i64 q.n)).set (j * 5 + 2) (.string (tx q.s))).set (j * 5 + 3) (.int .i64 q.x)).set (j * 5 + 4) (.int .i64 q.y) := by
 induction l generalizing j with
 | nil => exact absurd h (Nat.not_lt_zero _)
 | cons n t ih =>
   cases j with
   | zero => rfl
   | succ j =>
     have e : ∀ l : List Va, wcells (n :: l) = wcl n ++ wcells l := fun _ => rfl
     rw [List.set_cons_succ, e, e, ih j (by simpa using h), show (j + 1) * 5 = 5 + j * 5 by omega]
     simp only [Nat.add_assoc]
     rw [set_right _ _ 5 _ rfl, set_right _ _ 5 _ rfl, set_right _ _ 5 _ rfl, set_right _ _ 5 _ rfl, set_right _ _ 5 _ rfl]
theorem wcells_zero (n : Nat) : (madeCells (Value.agg (wcl vz0).toArray).cells (n * 5)).toList = wcells (List.replicate n vz0) := by
 apply List.ext_getElem?
 intro t
 by_cases ht : t < n * 5
 · have e : t = t / 5 * 5 + t % 5 := by omega
   have hm : t % 5 < 5 := Nat.mod_lt _ (by omega)
   have hl : (wcells (List.replicate n vz0))[t]? = (wcl vz0)[t % 5]? := by
    conv => lhs; rw [e]
    rw [wcells_at _ _ _ (by rw [List.length_replicate]; omega) hm]
    unfold vd
    rw [List.getElem?_replicate, if_pos (by omega)]; rfl
   rw [hl]
   have hz : (Value.agg (wcl vz0).toArray).cells = (wcl vz0).toArray := rfl
   rw [hz, Array.getElem?_toList]
   unfold madeCells
   rw [Array.getElem?_map, Array.getElem?_range, if_pos ht]
   show some ((wcl vz0).toArray[t % 5]!) = _
   have h2 : t % 5 < (wcl vz0).length := hm
   rw [List.getElem?_eq_getElem h2]
   simp [h2]
 · rw [List.getElem?_eq_none (by rw [Array.length_toList, size_madeCells]; omega), List.getElem?_eq_none (by rw [wcells_len, List.length_replicate]; omega)]
def Vls (w : World) (g : Nat) (l : List Va) : Prop := ∀ i j v, i < l.length → (wcl (vd l i))[j]? = some v → w.cell? ⟨g, i * 5 + j, none⟩ = some v
theorem vls_own {w : World} {B g c n : Nat} {l : List Va} (h : w.ownsRow B 33 5 (.slice (some ⟨g, 0, none⟩) n c) n (wcells l)) (hn : n = l.length) : Vls w g l := fun i j v hi hv => by
 subst hn
 have hj : j < 5 := (List.getElem?_eq_some_iff.1 hv).1
 rw [h.cellAt _ (by omega), wcells_at l i j hi hj, hv]
theorem own_set5 {lo : Nat} {W w : World} {B g c n o : Nat} {l : List Va} (h : w.ownsRow B 33 5 (.slice (some ⟨g, 0, none⟩) n c) n (wcells l)) (hb : Below lo W w) (hlo : lo ≤ B) (j : Nat) (hj : j < l.length) (ho : o = j * 5) (q : Va) {m : List Va} (hm : l.set j q = m) :
 Hid ((((((w.setCell ⟨g, o, none⟩ (.int .i64 q.k)).setCell ⟨g, o + 1, none⟩ (.int .i64 q.n)).setCell ⟨g, o + 2, none⟩ (.string (tx q.s))).setCell ⟨g, o + 3, none⟩ (.int .i64 q.x)).setCell ⟨g, o + 4, none⟩ (.int .i64 q.y)).ownsRow B 33 5 (.slice (some ⟨g, 0, none⟩) n c) n (wcells m)) ∧
 Hid (Below lo W (((((w.setCell ⟨g, o, none⟩ (.int .i64 q.k)).setCell ⟨g, o + 1, none⟩ (.int .i64 q.n)).setCell ⟨g, o + 2, none⟩ (.string (tx q.s))).setCell ⟨g, o + 3, none⟩ (.int .i64 q.x)).setCell ⟨g, o + 4, none⟩ (.int .i64 q.y))) := by
 subst hm; subst ho
 have hg := (h.lt g rfl).1
 have hl : lo ≤ g := by omega
 refine ⟨?_, (((((hb.setCell (p := ⟨g, _, none⟩) hl _).setCell (p := ⟨g, _, none⟩) hl _).setCell (p := ⟨g, _, none⟩) hl _).setCell (p := ⟨g, _, none⟩) hl _).setCell (p := ⟨g, _, none⟩) hl _)⟩
 rw [wcells_set l j q hj]
 exact (((((h.stored _ _).1.stored _ _).1.stored _ _).1.stored _ _).1.stored _ _).1
def mv (m : List Pr) (i : Nat) : List Va := (m.take i).map (·.2) ++ List.replicate (m.length - i) vz0
theorem mv_len (m : List Pr) (i : Nat) (h : i ≤ m.length) : (mv m i).length = m.length := by
 unfold mv; rw [List.length_append, List.length_map, List.length_take, List.length_replicate]; omega
theorem mv_step (m : List Pr) (i : Nat) (h : i < m.length) : (mv m i).set i (pd m i).2 = mv m (i + 1) := by
 unfold mv
 have e : ((m.take i).map (·.2)).length = i := by rw [List.length_map, List.length_take]; omega
 rw [List.set_append_right _ _ (by omega), e, Nat.sub_self, show m.length - i = (m.length - (i + 1)) + 1 by omega, List.replicate_succ, List.set_cons_zero, take_snoc m i h, List.map_append, List.append_assoc]
 rfl
theorem infoW : (Try.prog.info? 33).map (fun i => (i.zero, i.size, i.bytes)) = some (some (.agg (wcl vz0).toArray), 5, 48) := by kernel_rfl
set_option maxRecDepth 100000 in
set_option maxHeartbeats 2000000 in
theorem ownValues_any (B O c : Nat) (m : List Pr) (w : World) (h : Prs w (some ⟨B, O, none⟩) m) (hl : m.length ≤ 100000) (hX : Tx m) :
 Calls Try.prog 45 #[.slice (some ⟨B, O, none⟩) m.length c] w fun e w' => ∃ g, e = .returned (.slice (some ⟨g, 0, none⟩) m.length m.length) ∧ Vls w' g (m.map (·.2)) ∧ Below w.heap.size w w' := by
 have HN := Lib.hid h; have HX := Lib.hid hX
 clear h hX
 obtain ⟨iV, hi0, hi1, hi2, hi3⟩ := info_parts infoW
 obtain ⟨w1, hmk, hown, hgr⟩ := run_make_full (P := Try.prog) w w.heap.size 61 33 iV (.agg (wcl vz0).toArray) 5 Try.underlying61 hi0 hi1 hi2 .i64 .i64 m.length (by rw [hi3]; omega) (by unfold maxLen; omega) (Nat.le_refl _)
 rw [wcells_zero] at hown
 have HO : Hid (w1.ownsRow w.heap.size 33 5 (.slice (some ⟨w.heap.size, 0, none⟩) m.length m.length) m.length (wcells (mv m 0))) := by unfold mv; exact hown
 have HB := Lib.hid ((Below.refl w.heap.size w).grown hgr (Nat.le_refl _) (by simp))
 clear hi0 hi1 hi2 hi3 hown hgr
 go_enter Try.func45, Try.ntmps45
 go_wp2_with (fail)
 clear hmk
 go_loopg [11] m.length (fun kx s11 wr => ∃ i : Nat, i ≤ m.length ∧ m.length - i ≤ kx ∧ s11 = .int .i64 i ∧ Hid (wr.ownsRow w.heap.size 33 5 (.slice (some ⟨w.heap.size, 0, none⟩) m.length m.length) m.length (wcells (mv m i))) ∧ Hid (Below w.heap.size w wr))
 case atStart => exact ⟨0, Nat.zero_le _, by omega, rfl, HO, HB⟩
 case round =>
  clear HO HB
  obtain ⟨i, hi, hkx, rfl, HO, HB⟩ := hrel
  by_cases hlt : i < m.length
  · have hltz : (i : Int) < (m.length : Int) := by omega
    have hN : Prs wr (some ⟨B, O, none⟩) m := HN.out.next HB.out
    have k0 := hN.cell (i := i) hlt 0 _ rfl
    have k1 := hN.cell (i := i) hlt 1 _ rfl
    have k2 := hN.cell (i := i) hlt 2 _ rfl
    have k3 := hN.cell (i := i) hlt 3 _ rfl
    have k4 := hN.cell (i := i) hlt 4 _ rfl
    have k5 := hN.cell (i := i) hlt 5 _ rfl
    rw [Nat.add_zero] at k0
    have HT := Lib.hid (HX.out _ (pd_mem hlt))
    have HS := Lib.hid (mv_step m i hlt)
    have HL := Lib.hid (mv_len m i hi)
    clear hN
    generalize pd m i = p at *
    obtain ⟨pk, ⟨vk, vn, vs, vx, vy⟩⟩ := p
    dsimp only at k0 k1 k2 k3 k4 k5 HT HS
    go_upto_region 5 with fail
    have HP := Lib.hid (box6 wr 35 (.string (tx pk)) (.int .i64 vk) (.int .i64 vn) (.string (tx vs)) (.int .i64 vx) (.int .i64 vy))
    have HB1 := Lib.hid (below_obj HB.out (.cells #[.string (tx pk), .int .i64 vk, .int .i64 vn, .string (tx vs), .int .i64 vx, .int .i64 vy] 35))
    have HO1 := Lib.hid (HO.out.alloc (.cells #[.string (tx pk), .int .i64 vk, .int .i64 vn, .string (tx vs), .int .i64 vx, .int .i64 vy] 35))
    clear k0 k1 k2 k3 k4 k5 HO HB
    generalize wr.alloc (.cells #[.string (tx pk), .int .i64 vk, .int .i64 vn, .string (tx vs), .int .i64 vx, .int .i64 vy] 35) = w2 at *
    have p1 := HP.out.c 1 _ rfl
    have p2 := HP.out.c 2 _ rfl
    have p3 := HP.out.c 3 _ rfl
    have p4 := HP.out.c 4 _ rfl
    have p5 := HP.out.c 5 _ rfl
    clear HP
    have hov := ownValue_any vk vn vx vy (tx vs) w2 (by rw [tx_size]; have := HT.out.2; omega)
    go_wp2_with (fail)
    refine hov.mono ?_
    rintro e w3 ⟨rfl, hb⟩
    have HB3 := Lib.hid (Below.next HB1.out hb)
    have HO3 := Lib.hid (own_keep HO1.out hb)
    clear hov hb p1 p2 p3 p4 p5 HB1 HO1
    have hV := vls_own HO3.out HL.out.symm
    have hlm := HL.out
    rw [← hlm] at hlt
    obtain ⟨u0, d0, f0⟩ : ∃ u, w3.cell? ⟨w.heap.size, i * 5, none⟩ = some u ∧ w3.frozen? ⟨w.heap.size, i * 5, none⟩ = false := ⟨_, by have := hV i 0 _ (by omega) rfl; rwa [Nat.add_zero] at this, HO3.out.frozenAt _⟩
    obtain ⟨u1, d1, f1⟩ : ∃ u, w3.cell? ⟨w.heap.size, i * 5 + 1, none⟩ = some u ∧ w3.frozen? ⟨w.heap.size, i * 5 + 1, none⟩ = false := ⟨_, hV i 1 _ (by omega) rfl, HO3.out.frozenAt _⟩
    obtain ⟨u2, d2, f2⟩ : ∃ u, w3.cell? ⟨w.heap.size, i * 5 + 2, none⟩ = some u ∧ w3.frozen? ⟨w.heap.size, i * 5 + 2, none⟩ = false := ⟨_, hV i 2 _ (by omega) rfl, HO3.out.frozenAt _⟩
    obtain ⟨u3, d3, f3⟩ : ∃ u, w3.cell? ⟨w.heap.size, i * 5 + 3, none⟩ = some u ∧ w3.frozen? ⟨w.heap.size, i * 5 + 3, none⟩ = false := ⟨_, hV i 3 _ (by omega) rfl, HO3.out.frozenAt _⟩
    obtain ⟨u4, d4, f4⟩ : ∃ u, w3.cell? ⟨w.heap.size, i * 5 + 4, none⟩ = some u ∧ w3.frozen? ⟨w.heap.size, i * 5 + 4, none⟩ = false := ⟨_, hV i 4 _ (by omega) rfl, HO3.out.frozenAt _⟩
    rw [hlm] at hlt
    clear hV hlm
    go_wp2_with (fail)
    go_roundg (m.length - (i + 1))
    case measure => omega
    case rel => exact ⟨i + 1, by omega, Nat.le_refl _, by go_num, own_set5 HO3.out HB3.out (Nat.le_refl _) i (by rw [HL.out]; exact hlt) (by omega) ⟨vk, vn, vs, vx, vy⟩ HS.out⟩
  · obtain rfl : i = m.length := by omega
    have hltz : ¬ (m.length : Int) < (m.length : Int) := by omega
    go_wp2_with (fail)
    go_ret
    refine ⟨_, rfl, ?_, HB.out⟩
    have e : mv m m.length = m.map (·.2) := by unfold mv; rw [List.take_length, Nat.sub_self]; simp
    have := HO.out
    rw [e] at this
    exact vls_own this (by rw [List.length_map])
abbrev Gx := List UInt8 × Nat × List Va
def enG (x : Gx) : Array Value := #[.string (tx x.1), .slice (some ⟨x.2.1, 0, none⟩) x.2.2.length x.2.2.length]
inductive Took (l : List Pr) : List Gx → List Pr → Prop
 | nil : Took l [] l
 | snoc {pre : List Gx} {rest : List Pr} {k g : Nat} : Took l pre rest → IsG rest k → Took l (pre ++ [((pd rest 0).1, g, (rest.take k).map (·.2))]) (rest.drop k)
def Fg (l : List Pr) (pre : List Gx) (x : Gx) (W : World) : Prop := Vls W x.2.1 x.2.2 ∧ ∃ rest k, Took l pre rest ∧ IsG rest k ∧ x.1 = (pd rest 0).1 ∧ x.2.2 = (rest.take k).map (·.2)
def Mg (bx : Nat) (A : Option Addr) (c : Nat) (l : List Pr) (W : World) : Prop := W.cell? ⟨bx, 0, none⟩ = some (.slice A l.length c) ∧ Prs W A l
theorem prs_drop {w : World} {B O : Nat} {l : List Pr} (h : Prs w (some ⟨B, O, none⟩) l) (i : Nat) : Prs w (some ⟨B, O + i * 6, none⟩) (l.drop i) := fun hl => by
 have hl' : i < l.length := by rw [List.length_drop] at hl; omega
 refine ⟨B, O + i * 6, rfl, fun j t v hj hv => ?_⟩
 rw [List.length_drop] at hj
 have e : pd (l.drop i) j = pd l (i + j) := by unfold pd; rw [List.getElem?_drop]
 rw [e] at hv
 have := h.cell (i := i + j) (by omega) t v hv
 rw [show O + i * 6 + j * 6 + t = O + (i + j) * 6 + t by omega]
 exact this
theorem prs_take {w : World} {A : Option Addr} {l : List Pr} (h : Prs w A l) (k : Nat) : Prs w A (l.take k) := fun hl => by
 have hl' : 0 < l.length := by rw [List.length_take] at hl; omega
 obtain ⟨B, O, e, hc⟩ := h hl'
 refine ⟨B, O, e, fun j t v hj hv => ?_⟩
 rw [List.length_take] at hj
 have e : pd (l.take k) j = pd l j := by unfold pd; rw [List.getElem?_take, if_pos (by omega)]
 rw [e] at hv
 exact hc j t v (by omega) hv
def lenS : Value → Nat | .slice _ n _ => n | _ => 0
attribute [local go_sem] Oper.semAt_some
set_option maxRecDepth 100000 in
set_option maxHeartbeats 4000000 in
theorem groups1_its (bx : Nat) (A : Option Addr) (c : Nat) (l : List Pr) (hl : l.length ≤ 100000) (hlc : l.length ≤ c) (hX : Tx l) (n : Nat) :
 Its Fence.wide n Try.prog 43 #[.pointer (some ⟨bx, 0, none⟩)] enG (Mg bx A c l) (Fg l) (fun xs => Took l xs []) (fun pre => ∃ rest, Took l pre rest) := by
 intro L J Jx W hJ hJx hM hY h0
 have hbx := (hM _ _ h0).1
 have HJ := Lib.hid hJ; have HJX := Lib.hid hJx; have HM := Lib.hid hM; have HY := Lib.hid hY; have H0 := Lib.hid h0; have HX := Lib.hid hX
 clear hJ hJx hM hY h0 hX
 refine callsIn_of_wp Try.func43 rfl trivial ?_ rfl
 simp only [Try.ntmps43, List.size_toArray, List.length_cons, List.length_nil, Nat.reduceAdd, Nat.reduceSub, Array.replicate_succ, Array.replicate_zero, List.push_toArray, List.append_toArray, List.nil_append, List.cons_append]
 gi_wp2
 gi_loopw [3] (fun p wr => ∃ (pre : List Gx) (i m : Nat) (A' : Option Addr) (c' : Nat), p = .slice A' m c' ∧ Hid (m + i = l.length) ∧ Hid (Took l pre (l.drop i)) ∧ Hid (J pre wr) ∧ Hid (∀ B O, A = some ⟨B, O, none⟩ → 0 < m → A' = some ⟨B, O + i * 6, none⟩ ∧ m ≤ c')) (fun p _ => lenS p)
 case atStart => exact ⟨[], 0, l.length, A, c, rfl, Lib.hid rfl, Took.nil, H0, Lib.hid fun B O h _ => ⟨by rw [Nat.zero_mul, Nat.add_zero]; exact h, hlc⟩⟩
 case round =>
  clear hbx H0
  obtain ⟨pre, i, m, A', c', rfl, HI, HT, HJ1, HA⟩ := hrel
  rcases Nat.eq_zero_or_pos m with hm | hm
  · subst hm
    gi_wp2
    go_end0
    refine ⟨⟨_, rfl⟩, .inl ⟨pre, ?_, HJ1.out⟩⟩
    have := HT.out
    rwa [List.drop_eq_nil_of_le (by have := HI.out; omega)] at this
  · have hil : i < l.length := by have := HI.out; omega
    have hmm := HM.out _ _ HJ1.out
    obtain ⟨B, O, rfl⟩ := hmm.2.shape (by omega)
    obtain ⟨rfl, hmc'⟩ := HA.out B O rfl hm
    have hpr := prs_drop hmm.2 i
    have hlen : (l.drop i).length = m := by rw [List.length_drop]; have := HI.out; omega
    obtain ⟨rest, hrest⟩ : ∃ r, r = l.drop i := ⟨_, rfl⟩
    rw [← hrest] at hpr hlen HT
    have hgs := groupSize_any B (O + i * 6) c' rest wr hpr (by omega) (by have := HI.out; omega)
    rw [hlen] at hgs
    have HR := Lib.hid hrest; have HL := Lib.hid hlen; have HP := Lib.hid hpr; have HMM := Lib.hid hmm.1
    clear hrest hlen hpr hmm
    have hmz : (0 : Int) < (m : Int) := by omega
    gi_wp2_with (refine ⟨trivial, (fun h => nomatch h), ?_⟩; refine (callsIn_wide.2 hgs).mono ?_; rintro e w1 ⟨k, rfl, hk, hb⟩)
    have HJ2 := Lib.hid (HJ.out _ _ _ HJ1.out hb)
    have HP2 := Lib.hid (HP.out.next hb)
    have HK := Lib.hid hk
    clear hgs hk hb HP HMM HA HJ1
    have hkc := HP2.out.cell (i := 0) (by rw [HL.out]; exact hm) 0 _ rfl
    rw [Nat.zero_mul, Nat.add_zero] at hkc
    have hk0 := HK.out.1
    have hkm : k ≤ m := by have := HK.out.2.1; rw [HL.out] at this; exact this
    have hkmz : (k : Int) ≤ (m : Int) := by omega
    have hkcz : (k : Int) ≤ (c' : Int) := by omega
    obtain ⟨vals, hvals⟩ : ∃ v, v = (rest.take k).map (·.2) := ⟨_, rfl⟩
    have hvl : vals.length = k := by rw [hvals, List.length_map, List.length_take, HL.out]; omega
    have htl : (rest.take k).length = k := by rw [List.length_take, HL.out]; omega
    have hXr : Tx rest := fun p hp => HX.out p (by rw [HR.out] at hp; exact List.mem_of_mem_drop hp)
    have hXt : Tx (rest.take k) := fun p hp => hXr p (List.mem_of_mem_take hp)
    have hks : (tx (pd rest 0).1).size ≤ 281474976710656 := by
     rw [tx_size]; have := (hXr _ (pd_mem (l := rest) (i := 0) (by rw [HL.out]; exact hm))).1; omega
    have HC := Lib.hid (fun W => clone_any (tx (pd rest 0).1) W hks)
    have HO : Hid (∀ W, Prs W (some ⟨B, O + i * 6, none⟩) rest → Calls Try.prog 45 #[.slice (some ⟨B, O + i * 6, none⟩) k c'] W fun e w' => ∃ g, e = .returned (.slice (some ⟨g, 0, none⟩) k k) ∧ Vls w' g vals ∧ Below W.heap.size W w') := fun W h => by
     have := ownValues_any B (O + i * 6) c' (rest.take k) W (prs_take h k) (by rw [htl]; have := HI.out; omega) hXt
     rw [htl, ← hvals] at this
     exact this
    have HYK : Hid (∀ g W3, J pre W3 → Vls W3 g vals → ∃ fn tmps assign body, (Instr.yield L #[.string (tx (pd rest 0).1), .slice (some ⟨g, 0, none⟩) k k]).run Try.prog W3 = .ok (.round L fn tmps assign body) W3 ∧
     RoundIn Fence.wide (n - 1) Try.prog L fn tmps assign body W3 fun e Y => ∃ b : Bool, e = .returned (.bool b) ∧ ((b = true ∧ Hid (J (pre ++ [((pd rest 0).1, g, vals)]) Y)) ∨ (b = false ∧ Hid (Jx (pre ++ [((pd rest 0).1, g, vals)]) Y)))) := fun g W3 hj hv => by
     obtain ⟨fn, tmps, assign, body, hy, hR⟩ := HY.out pre ((pd rest 0).1, g, vals) W3 hj ⟨hv, rest, k, HT.out, HK.out, rfl, hvals⟩
     refine ⟨fn, tmps, assign, body, ?_, hR.mono fun e Y h => ?_⟩
     · have : enG ((pd rest 0).1, g, vals) = #[.string (tx (pd rest 0).1), .slice (some ⟨g, 0, none⟩) k k] := by unfold enG; dsimp only; rw [hvl]
       rwa [this] at hy
     · rcases h with ⟨rfl, h⟩ | ⟨rfl, h⟩
       · exact ⟨true, rfl, .inl ⟨rfl, h⟩⟩
       · exact ⟨false, rfl, .inr ⟨rfl, h⟩⟩
    have HV := Lib.hid hvals
    have HJD : Hid (J pre w1.drew) := HJ.out _ _ _ HJ2.out (below_drewN (Below.refl _ _) 1)
    have HPD : Hid (Prs w1.drew (some ⟨B, O + i * 6, none⟩) rest) := HP2.out
    clear hvals hvl htl hXr hXt hks HP2 HJ2 HY
    generalize tx (pd rest 0).1 = s at *
    gi_region_with (first
     | (refine ⟨trivial, (fun h => nomatch h), ?_⟩; refine (callsIn_wide.2 (HC.out _)).mono ?_; rintro e w2 ⟨rfl, hb2⟩)
     | (refine ⟨trivial, (fun h => nomatch h), ?_⟩; refine (callsIn_wide.2 (HO.out _ (HPD.out.next hb2))).mono ?_; rintro e w3 ⟨g, rfl, hv, hb3⟩; obtain ⟨fn, tmps, assign, body, hy, hR⟩ := HYK.out g w3 (HJ.out _ _ _ (HJ.out _ _ _ HJD.out hb2) hb3) hv)
     | (refine ⟨(fun h => nomatch h), ?_⟩; refine hR.mono ?_; rintro e w4 ⟨b, rfl, hor⟩))
    rcases hor with ⟨rfl, hj⟩ | ⟨rfl, hjx⟩
    · gi_wp2
      go_roundw
      case rel =>
       refine ⟨_, i + k, m - k, _, _, rfl, Lib.hid (by have := HI.out; omega), ?_, hj, ?_⟩
       · have ht := Took.snoc (g := g) HT.out HK.out
         rw [← HV.out] at ht
         have e : rest.drop k = l.drop (i + k) := by rw [HR.out, List.drop_drop]
         rw [e] at ht
         exact ht
       · intro B' O' e hmk
         cases e
         have hne : c' ≠ k := by omega
         rw [if_neg hne, show O + i * 6 + k * 6 = O + (i + k) * 6 by omega]
         exact ⟨rfl, by omega⟩
      case measure =>
       show m - k < m
       omega
    · gi_wp2
      refine bodyPost_ret (results_none rfl _ _ w4) rfl ?_
      refine ⟨⟨_, rfl⟩, .inr ⟨pre ++ [((pd rest 0).1, g, vals)], ⟨rest.drop k, ?_⟩, hjx.out⟩⟩
      have ht := Took.snoc (g := g) HT.out HK.out
      rw [← HV.out] at ht
      exact ht
section
variable {s : List Nat} {w w' : World} {p : Option Addr} {l : List Pr}
end
set_option maxRecDepth 100000 in
set_option maxHeartbeats 2000000 in
theorem groups_any (A : Option Addr) (c : Nat) (l : List Pr) (w : World) (h : PIn w (A, c, l)) (hT : l.length ≤ 1000000) (hX : Tx l) :
 Calls Try.prog 27 #[.slice A l.length c] w fun e w' => ∃ bx A1 c1, e = .returned (.func (.func 43) #[] #[.pointer (some ⟨bx, 0, none⟩)]) ∧ w.heap.size ≤ bx ∧ Blk w' bx [.slice A1 (sr l).length c1] ∧
  (sr l).length ≤ c1 ∧ OwnL w.heap.size w' A1 (sr l) ∧ Below w.heap.size w w' := by
 have hs := sort_any A c l w h hT hX
 clear h hT hX
 go_enter Try.func27, Try.ntmps27
 go_wp2_with (fail)
 refine hs.mono ?_
 rintro e w1 ⟨A1, c1, rfl, ho, hn, hcp, hb⟩
 have HO := Lib.hid (ho.next (box1 w1 (.cells #[.slice A1 (sr l).length c1] 22)))
 have HK := Lib.hid (Blk.made w1 22 [.slice A1 (sr l).length c1] rfl)
 have HC := Lib.hid hcp
 have HB := Lib.hid (Below.next hb (box1 w1 (.cells #[.slice A1 (sr l).length c1] 22)))
 have HZ := Lib.hid hb.size
 clear hs ho hn hcp hb
 go_wp2_with (fail)
 go_ret
 exact ⟨w1.heap.size, A1, c1, rfl, HZ.out, HK.out, HC.out, HO.out, HB.out⟩
def tot : List Gx → Nat
 | [] => 0
 | x :: t => x.2.2.length + tot t
theorem tot_snoc (pre : List Gx) (x : Gx) : tot (pre ++ [x]) = tot pre + x.2.2.length := by
 induction pre with
 | nil => simp [tot]
 | cons y t ih => simp only [List.cons_append, tot, ih]; omega
theorem grp_len {rest : List Pr} {k : Nat} (h : IsG rest k) : ((rest.take k).map (·.2)).length = k := by
 rw [List.length_map, List.length_take]; have := h.2.1; omega
theorem pd_drop (l : List Pr) (i j : Nat) : pd (l.drop i) j = pd l (i + j) := by unfold pd; rw [List.getElem?_drop]
theorem took_at {L : List Pr} {pre : List Gx} {rest : List Pr} (h : Took L pre rest) : rest = L.drop (tot pre) ∧ tot pre ≤ L.length ∧ (0 < tot pre → tot pre < L.length → (pd L (tot pre - 1)).1 ≠ (pd L (tot pre)).1) := by
 induction h with
 | nil => exact ⟨rfl, Nat.zero_le _, fun h => absurd h (Nat.lt_irrefl _)⟩
 | snoc ht hk ih =>
   rename_i pre rest k g
   obtain ⟨e1, e2, _⟩ := ih
   obtain ⟨k0, k1, k2, k3⟩ := hk
   have hlen := grp_len ⟨k0, k1, k2, k3⟩
   have e4 : tot (pre ++ [((pd rest 0).1, g, (rest.take k).map (·.2))]) = tot pre + k := by rw [tot_snoc, hlen]
   rw [e4]
   rw [e1, List.length_drop] at k1
   refine ⟨by rw [e1, List.drop_drop], by omega, fun _ h2 => ?_⟩
   have a := k2 (k - 1) (by omega)
   have b := k3 (by rw [e1, List.length_drop]; omega)
   rw [e1, pd_drop, pd_drop] at a b
   rw [show tot pre + k - 1 = tot pre + (k - 1) by omega, a]
   exact fun e => b e.symm
theorem pre_len {L : List Pr} {pre : List Gx} {rest : List Pr} (h : Took L pre rest) : pre.length ≤ tot pre := by
 induction h with
 | nil => exact Nat.le_refl _
 | snoc ht hk ih => rw [tot_snoc, grp_len hk, List.length_append]; have := hk.1; simp only [List.length_cons, List.length_nil]; omega
theorem blk_upto {w w' : World} {b n : Nat} {vs : List Value} (h : Blk w b vs) (k : Below n w w') (hb : b < n) : Blk w' b vs :=
 ⟨fun i v e => (k.cell (p := ⟨b, i, none⟩) hb).trans (h.c i v e), fun i v e => (k.frozen (p := ⟨b, i, none⟩) hb).trans (h.f i v e), Nat.lt_of_lt_of_le h.lt k.size⟩
theorem OwnL.lt {B : Nat} {w : World} {p : Option Addr} {l : List Pr} (h : OwnL B w p l) (b o : Nat) (e : p = some ⟨b, o, none⟩) : b < w.heap.size := by
 rcases h with ⟨_, e1⟩ | ⟨g, e1, h1, h2, hh⟩
 · rw [e] at e1; cases e1
 · rw [e] at e1
   injection e1 with e1
   injection e1 with e1
   omega
end Go.Proofs.Ytamhfjlffacakaa.Pr
namespace Go.Proofs.Ytamhfjlffacakaa.So
open Va St Pr Go.Sort
def gp (xs : List Gx) : List Pr := xs.flatMap fun x => x.2.2.map fun v => (x.1, v)
def om (w : List UInt8) (xs : List Gx) : List Pr := xs.map fun x => (x.1, (fg w x.2.2).1)
theorem gp_snoc (xs : List Gx) (x : Gx) : gp (xs ++ [x]) = gp xs ++ x.2.2.map fun v => (x.1, v) := by
 unfold gp; rw [List.flatMap_append]; simp
theorem om_snoc (w : List UInt8) (xs : List Gx) (x : Gx) : om w (xs ++ [x]) = om w xs ++ [(x.1, (fg w x.2.2).1)] := by
 unfold om; rw [List.map_append]; rfl
structure TF (L : List Pr) (pre : List Gx) (rest : List Pr) : Prop where
 all : L = gp pre ++ rest
 ne : ∀ x ∈ pre, x.2.2 ≠ []
 up : pre.Pairwise fun x y => Op.bytesLess x.1 y.1 = true
 low : ∀ x ∈ pre, ∀ p ∈ rest, Op.bytesLess x.1 p.1 = true
theorem took_facts {L : List Pr} (hO : Od L) {pre : List Gx} {rest : List Pr} (h : Took L pre rest) : TF L pre rest := by
 induction h with
 | nil => exact ⟨rfl, (fun x hx => by cases hx), List.Pairwise.nil, fun x hx => by cases hx⟩
 | snoc ht hk ih =>
   rename_i pre rest k g
   obtain ⟨k0, k1, k2, k3⟩ := hk
   have hOr : Od rest := by
    have := hO
    rw [ih.all] at this
    exact (List.pairwise_append.1 this).2.1
   have htk : rest.take k = ((rest.take k).map (·.2)).map fun v => ((pd rest 0).1, v) := by
    rw [List.map_map]
    symm
    refine (List.map_congr_left fun p hp => ?_).trans (List.map_id _)
    obtain ⟨i, hi, e⟩ := List.getElem_of_mem hp
    have hi' : i < k := by rw [List.length_take] at hi; omega
    have e1 := k2 i hi'
    have e2 : pd rest i = p := by
     rw [← e, List.getElem_take]
     exact pd_at (by omega)
    rw [e2] at e1
    show ((pd rest 0).1, p.2) = id p
    rw [← e1]; rfl
   have hgt : ∀ p ∈ rest.drop k, Op.bytesLess (pd rest 0).1 p.1 = true := fun p hp => by
    have hkl : k < rest.length := by
     have := List.length_pos_of_mem hp
     rw [List.length_drop] at this; omega
    have hne := k3 hkl
    have h0k : kl (pd rest k) (pd rest 0) = false := by
     rw [pd_at hkl, pd_at (by omega)]
     exact (List.pairwise_iff_getElem.1 hOr) 0 k (by omega) hkl k0
    have h0 : kl (pd rest 0) (pd rest k) = true := by
     unfold kl at h0k ⊢
     rcases less_total (pd rest 0).1 (pd rest k).1 with h | h | h
     · exact h
     · rw [h0k] at h; cases h
     · exact absurd h.symm hne
    rw [List.drop_eq_getElem_cons hkl] at hp
    have hpk : kl p (pd rest k) = false := by
     rcases List.mem_cons.1 hp with rfl | hp
     · rw [pd_at hkl]; exact swo.irrefl _
     · have hs : Od (rest.drop k) := List.Pairwise.sublist (List.drop_sublist _ _) hOr
       rw [List.drop_eq_getElem_cons hkl] at hs
       rw [pd_at hkl]
       exact (List.pairwise_cons.1 hs).1 p hp
    cases e : kl (pd rest 0) p with
    | true => exact e
    | false => have := swo.ntrans _ _ _ e hpk; rw [this] at h0; cases h0
   refine ⟨?_, fun x hx => ?_, ?_, fun x hx p hp => ?_⟩
   · rw [gp_snoc]
     dsimp only
     rw [← htk, List.append_assoc, List.take_append_drop]; exact ih.all
   · rcases List.mem_append.1 hx with hx | hx
     · exact ih.ne x hx
     · obtain rfl : x = _ := by simpa using hx
       intro e
       have := congrArg List.length e
       simp only [List.length_map, List.length_take, List.length_nil] at this
       omega
   · refine List.pairwise_append.2 ⟨ih.up, List.pairwise_singleton _ _, fun x hx y hy => ?_⟩
     obtain rfl : y = _ := by simpa using hy
     exact ih.low x hx _ (pd_mem (by omega))
   · rcases List.mem_append.1 hx with hx | hx
     · exact ih.low x hx p (List.mem_of_mem_drop hp)
     · obtain rfl : x = _ := by simpa using hx
       exact hgt p hp
theorem vk_one (k : List UInt8) (x : Gx) : vk k (x.2.2.map fun v => (x.1, v)) = if x.1 = k then x.2.2 else [] := by
 unfold vk ky
 by_cases e : x.1 = k
 · rw [if_pos e, List.filter_eq_self.2 (fun p hp => by
    obtain ⟨v, _, rfl⟩ := List.mem_map.1 hp
    simpa using e), List.map_map]
   exact List.map_id _
 · rw [if_neg e, List.filter_eq_nil_iff.2 (fun p hp => by
    obtain ⟨v, _, rfl⟩ := List.mem_map.1 hp
    simpa using e)]
   rfl
theorem vk_gp {xs : List Gx} (hu : xs.Pairwise fun x y => Op.bytesLess x.1 y.1 = true) : (∀ x ∈ xs, vk x.1 (gp xs) = x.2.2) ∧ ∀ k, (∀ x ∈ xs, x.1 ≠ k) → vk k (gp xs) = [] := by
 induction xs with
 | nil => exact ⟨(fun x hx => by cases hx), fun k _ => rfl⟩
 | cons y t ih =>
   obtain ⟨h1, h2⟩ := List.pairwise_cons.1 hu
   obtain ⟨i1, i2⟩ := ih h2
   have e : gp (y :: t) = (y.2.2.map fun v => (y.1, v)) ++ gp t := rfl
   have hne : ∀ x ∈ t, y.1 ≠ x.1 := fun x hx he => by have := h1 x hx; rw [he, less_irrefl] at this; cases this
   refine ⟨fun x hx => ?_, fun k hk => ?_⟩
   · rw [e, vk_append, vk_one]
     rcases List.mem_cons.1 hx with rfl | hx
     · rw [if_pos rfl, i2 _ (fun z hz => fun h => hne z hz h.symm), List.append_nil]
     · rw [if_neg (hne x hx), List.nil_append]; exact i1 x hx
   · rw [e, vk_append, vk_one, if_neg (hk y (List.mem_cons_self ..)), i2 k fun x hx => hk x (List.mem_cons_of_mem _ hx)]; rfl
theorem ky_om {w : List UInt8} {xs : List Gx} (hu : xs.Pairwise fun x y => Op.bytesLess x.1 y.1 = true) : (∀ x ∈ xs, ky x.1 (om w xs) = [(x.1, (fg w x.2.2).1)]) ∧ ∀ k, (∀ x ∈ xs, x.1 ≠ k) → ky k (om w xs) = [] := by
 induction xs with
 | nil => exact ⟨(fun x hx => by cases hx), fun k _ => rfl⟩
 | cons y t ih =>
   obtain ⟨h1, h2⟩ := List.pairwise_cons.1 hu
   obtain ⟨i1, i2⟩ := ih h2
   have hne : ∀ x ∈ t, y.1 ≠ x.1 := fun x hx he => by have := h1 x hx; rw [he, less_irrefl] at this; cases this
   have e : ∀ k, ky k (om w (y :: t)) = (if y.1 = k then [(y.1, (fg w y.2.2).1)] else []) ++ ky k (om w t) := fun k => by
    show ((y.1, (fg w y.2.2).1) :: om w t).filter _ = _
    rw [List.filter_cons]
    by_cases h : y.1 = k
    · rw [if_pos (by simpa using h), if_pos h]; rfl
    · rw [if_neg (by simpa using h), if_neg h]; rfl
   refine ⟨fun x hx => ?_, fun k hk => ?_⟩
   · rw [e]
     rcases List.mem_cons.1 hx with rfl | hx
     · rw [if_pos rfl, i2 _ (fun z hz => fun h => hne z hz h.symm), List.append_nil]
     · rw [if_neg (hne x hx), List.nil_append]; exact i1 x hx
   · rw [e, if_neg (hk y (List.mem_cons_self ..)), i2 k fun x hx => hk x (List.mem_cons_of_mem _ hx)]; rfl
theorem fold_yes {w : List UInt8} {l : List Pr} {xs : List Gx} (h : Took (sr l) xs []) (hok : ∀ x ∈ xs, (fg w x.2.2).2 = 0) : FoldY w l (om w xs) := by
 have t := took_facts (sr_od l) h
 have hv : ∀ k, vk k l = vk k (gp xs) := fun k => by rw [← vk_sr, t.all, List.append_nil]
 obtain ⟨v1, v2⟩ := vk_gp t.up
 obtain ⟨m1, m2⟩ := ky_om (w := w) t.up
 refine ⟨?_, fun k hk => ?_, fun k => ?_⟩
 · unfold om Od
   rw [List.pairwise_map]
   exact t.up.imp fun h => less_asymm h
 · by_cases e : ∃ x ∈ xs, x.1 = k
   · obtain ⟨x, hx, rfl⟩ := e
     rw [hv, v1 x hx]; exact hok x hx
   · exact absurd ((hv k).trans (v2 k fun x hx h => e ⟨x, hx, h⟩)) hk
 · by_cases e : ∃ x ∈ xs, x.1 = k
   · obtain ⟨x, hx, rfl⟩ := e
     rw [m1 x hx, hv, v1 x hx, if_neg (t.ne x hx)]
   · rw [m2 k fun x hx h => e ⟨x, hx, h⟩, if_pos ((hv k).trans (v2 k fun x hx h => e ⟨x, hx, h⟩))]
theorem fold_no {w : List UInt8} {l : List Pr} {pre : List Gx} {x : Gx} {rest : List Pr} (h : Took (sr l) (pre ++ [x]) rest) (he : (fg w x.2.2).2 ≠ 0) : FoldN w l (fg w x.2.2).2 := by
 have t := took_facts (sr_od l) h
 have hx : x ∈ pre ++ [x] := List.mem_append_right _ (List.mem_singleton.2 rfl)
 have hv : vk x.1 l = x.2.2 := by
  rw [← vk_sr, t.all, vk_append, (vk_gp t.up).1 x hx]
  have : vk x.1 rest = [] := by
   unfold vk ky
   rw [List.filter_eq_nil_iff.2 fun p hp => ?_]
   · rfl
   · have := t.low x hx p hp
     simp only [decide_eq_true_eq]
     intro e
     rw [e, less_irrefl] at this; cases this
  rw [this, List.append_nil]
 exact ⟨he, x.1, by rw [hv]; exact t.ne x hx, by rw [hv]⟩
end Go.Proofs.Ytamhfjlffacakaa.So
namespace Go.Proofs.Ytamhfjlffacakaa.So
open Va St Pr Jo Go.Sort
section
variable {w : List UInt8}
def ds (w : List UInt8) (a : List Pr × Int) (p : Pr) : List Pr × Int :=
 if a.2 = 0 then
  match a.1.getLast? with
  | some q => if q.1 = p.1 then (if (fo w q.2 p.2).2 = 0 then (a.1.dropLast ++ [(q.1, (fo w q.2 p.2).1)], 0) else ([], (fo w q.2 p.2).2)) else (a.1 ++ [p], 0)
  | none => (a.1 ++ [p], 0)
 else a
def df (w : List UInt8) (l : List Pr) : List Pr × Int := l.foldl (ds w) ([], 0)
theorem df_snoc (l : List Pr) (p : Pr) : df w (l ++ [p]) = ds w (df w l) p := by
 unfold df; rw [List.foldl_append]; rfl
theorem ds_err {e : Int} (h : e ≠ 0) {o : List Pr} : ∀ l : List Pr, l.foldl (ds w) (o, e) = (o, e) := fun l => by
 induction l with
 | nil => rfl
 | cons p t ih =>
   have : ds w (o, e) p = (o, e) := if_neg h
   rw [List.foldl_cons, this]; exact ih
theorem ds_new {o : List Pr} {p : Pr} (h : ∀ q, o.getLast? = some q → q.1 ≠ p.1) : ds w (o, 0) p = (o ++ [p], 0) := by
 unfold ds
 rw [if_pos rfl]
 dsimp only
 split
 · rename_i q hq
   rw [if_neg (h q hq)]
 · rfl
theorem ds_old {o : List Pr} {q p : Pr} (h : q.1 = p.1) : ds w (o ++ [q], 0) p = if (fo w q.2 p.2).2 = 0 then (o ++ [(q.1, (fo w q.2 p.2).1)], 0) else ([], (fo w q.2 p.2).2) := by
 unfold ds
 rw [if_pos rfl]
 dsimp only
 rw [List.getLast?_concat]
 dsimp only
 rw [if_pos h, List.dropLast_concat]
theorem ds_group (k : List UInt8) (o : List Pr) : ∀ (vs : List Va) (v : Va), (vs.map fun x => ((k, x) : Pr)).foldl (ds w) (o ++ [(k, v)], 0) = if (fl w v vs).2 = 0 then (o ++ [(k, (fl w v vs).1)], 0) else ([], (fl w v vs).2) := by
 intro vs
 induction vs with
 | nil => intro v; rfl
 | cons x t ih =>
   intro v
   rw [List.map_cons, List.foldl_cons, ds_old (o := o) (q := (k, v)) (p := (k, x)) rfl]
   show _ = if (if (fo w v x).2 = 0 then fl w (fo w v x).1 t else (Jo.vz0, (fo w v x).2)).2 = 0 then (o ++ [(k, (if (fo w v x).2 = 0 then fl w (fo w v x).1 t else (Jo.vz0, (fo w v x).2)).1)], 0) else ([], (if (fo w v x).2 = 0 then fl w (fo w v x).1 t else (Jo.vz0, (fo w v x).2)).2)
   by_cases h : (fo w v x).2 = 0
   · rw [if_pos h, if_pos h]; exact ih _
   · rw [if_neg h, if_neg h, ds_err h, if_neg h]
theorem ds_one {o : List Pr} (x : Gx) (hx : x.2.2 ≠ []) (h : ∀ q, o.getLast? = some q → q.1 ≠ x.1) : (x.2.2.map fun v => ((x.1, v) : Pr)).foldl (ds w) (o, 0) = if (fg w x.2.2).2 = 0 then (o ++ [(x.1, (fg w x.2.2).1)], 0) else ([], (fg w x.2.2).2) := by
 obtain ⟨k, g, vs⟩ := x
 match vs, hx with
 | v :: t, _ =>
   show (((k, v) : Pr) :: t.map _).foldl (ds w) (o, 0) = _
   rw [List.foldl_cons, ds_new (p := (k, v)) h]
   exact ds_group k o t v
theorem ds_all : ∀ (xs : List Gx) (o : List Pr), (∀ x ∈ xs, x.2.2 ≠ []) → (xs.Pairwise fun x y => Op.bytesLess x.1 y.1 = true) → (∀ x ∈ xs, (fg w x.2.2).2 = 0) → (∀ q, o.getLast? = some q → ∀ x ∈ xs, q.1 ≠ x.1) →
 (gp xs).foldl (ds w) (o, 0) = (o ++ om w xs, 0) := by
 intro xs
 induction xs with
 | nil => intro o _ _ _ _; show (o, (0 : Int)) = (o ++ [], 0); rw [List.append_nil]
 | cons y t ih =>
   intro o hne hu hok hl
   obtain ⟨h1, h2⟩ := List.pairwise_cons.1 hu
   show ((y.2.2.map fun v => ((y.1, v) : Pr)) ++ gp t).foldl (ds w) (o, 0) = (o ++ ((y.1, (fg w y.2.2).1) :: om w t), 0)
   rw [List.foldl_append, ds_one y (hne y (List.mem_cons_self ..)) fun q hq => hl q hq y (List.mem_cons_self ..), if_pos (hok y (List.mem_cons_self ..)),
    ih _ (fun x hx => hne x (List.mem_cons_of_mem _ hx)) h2 (fun x hx => hok x (List.mem_cons_of_mem _ hx)) fun q hq x hx => ?_, List.append_assoc]
   · rfl
   · rw [List.getLast?_concat] at hq
     obtain rfl := Option.some.inj hq
     intro e
     have := h1 x hx
     dsimp only at e
     rw [e, less_irrefl] at this; cases this
theorem df_yes {l : List Pr} {xs : List Gx} (h : Took (sr l) xs []) (hok : ∀ x ∈ xs, (fg w x.2.2).2 = 0) : df w (sr l) = (om w xs, 0) := by
 have t := took_facts (sr_od l) h
 have ha := t.all
 rw [List.append_nil] at ha
 rw [ha]
 exact ds_all xs [] t.ne t.up hok fun q hq => nomatch hq
theorem df_no {l : List Pr} {pre : List Gx} {x : Gx} {rest : List Pr} (h : Took (sr l) (pre ++ [x]) rest) (hok : ∀ y ∈ pre, (fg w y.2.2).2 = 0) (he : (fg w x.2.2).2 ≠ 0) : df w (sr l) = ([], (fg w x.2.2).2) := by
 have t := took_facts (sr_od l) h
 obtain ⟨u1, _, u2⟩ := List.pairwise_append.1 t.up
 rw [t.all, gp_snoc]
 unfold df
 rw [List.foldl_append, List.foldl_append, ds_all pre [] (fun y hy => t.ne y (List.mem_append_left _ hy)) u1 hok fun q hq => nomatch hq]
 rw [ds_one x (t.ne x (List.mem_append_right _ (List.mem_singleton.2 rfl))) fun q hq e => ?_, if_neg he, ds_err he]
 rw [List.nil_append] at hq
 have hq' := List.mem_of_getLast? hq
 unfold om at hq'
 obtain ⟨y, hy, rfl⟩ := List.mem_map.1 hq'
 have := u2 y hy x (List.mem_singleton.2 rfl)
 dsimp only at e
 rw [e, less_irrefl] at this; cases this
theorem run_len (z : List UInt8) : ∀ t : List Pr, ∃ k, k ≤ t.length ∧ (∀ i, i < k → (pd t i).1 = z) ∧ (k < t.length → (pd t k).1 ≠ z) := by
 intro t
 induction t with
 | nil => exact ⟨0, Nat.le_refl _, (fun i hi => absurd hi (Nat.not_lt_zero _)), fun h => absurd h (Nat.lt_irrefl _)⟩
 | cons p t ih =>
   by_cases h : p.1 = z
   · obtain ⟨k, h1, h2, h3⟩ := ih
     refine ⟨k + 1, by simp only [List.length_cons]; omega, fun i hi => ?_, fun hl => ?_⟩
     · cases i with
       | zero => exact h
       | succ i => exact h2 i (by omega)
     · exact h3 (by simp only [List.length_cons] at hl; omega)
   · exact ⟨0, Nat.zero_le _, (fun i hi => absurd hi (Nat.not_lt_zero _)), fun _ => h⟩
theorem took_more {L : List Pr} : ∀ (n : Nat) (pre : List Gx) (rest : List Pr), rest.length ≤ n → Took L pre rest → ∃ xs, Took L xs [] := by
 intro n
 induction n with
 | zero =>
   intro pre rest hn h
   obtain rfl : rest = [] := List.length_eq_zero_iff.1 (by omega)
   exact ⟨pre, h⟩
 | succ n ih =>
   intro pre rest hn h
   match rest, hn, h with
   | [], _, h => exact ⟨pre, h⟩
   | p :: t, hn, h =>
     obtain ⟨k, hkl, hall, hnx⟩ := run_len p.1 t
     have hG : IsG (p :: t) (k + 1) := by
      refine ⟨by omega, by simp only [List.length_cons]; omega, fun i hi => ?_, fun hl => ?_⟩
      · cases i with
        | zero => rfl
        | succ i => exact hall i (by omega)
      · exact hnx (by simp only [List.length_cons] at hl; omega)
     exact ih _ _ (by rw [List.length_drop]; simp only [List.length_cons] at hn ⊢; omega) (Took.snoc (g := 0) h hG)
theorem df_foldY {l m : List Pr} (hO : Od l) (h : FoldY w l m) : df w l = (m, 0) := by
 obtain ⟨xs, hx⟩ := took_more (L := sr l) (sr l).length [] (sr l) (Nat.le_refl _) Took.nil
 have t := took_facts (sr_od l) hx
 have hok : ∀ x ∈ xs, (fg w x.2.2).2 = 0 := fun x hx' => by
  have hv : vk x.1 l = x.2.2 := by
   rw [← vk_sr, t.all, List.append_nil]
   exact (vk_gp t.up).1 x hx'
  have := h.ok x.1
  rw [hv] at this
  exact this (t.ne x hx')
 have e := df_yes hx hok
 rw [sr_self l hO] at e
 rw [e, (fold_yes hx hok).uniq h fun k => ⟨Iff.rfl, fun _ => rfl⟩]
end
end Go.Proofs.Ytamhfjlffacakaa.So
namespace Go.Proofs.Ytamhfjlffacakaa.So
open Go.ChangeShapes Go.WideShapes Go.ChangeAt Go.RowKit Go.Sort Go.Shelf Go.Proofs Ov Va St Pr Jo
theorem fold_va (c : ByteArray) (a b : Va) (w : World) : Calls Try.prog 46 #[.string c, .agg (wcl a).toArray, .agg (wcl b).toArray] w (Gives (.tuple #[.agg (wcl (fo c.data.toList a b).1).toArray, .int .i64 (fo c.data.toList a b).2]) w) := by
 have h := fold_any c a.k a.n a.x a.y b.k b.n b.x b.y (tx a.s) (tx b.s) w
 simp only [tx_list] at h
 exact h
theorem vls_next {w w' : World} {g : Nat} {l : List Va} (h : Vls w g l) (k : Below w.heap.size w w') : Vls w' g l := fun i j v hi hv => (k.cell (p := ⟨g, i * 5 + j, none⟩) (block_lt_of_cell (h i j v hi hv))).trans (h i j v hi hv)
theorem set5 {w : World} {b : Nat} {x0 x1 x2 x3 x4 : Value} (h : Blk w b [x0, x1, x2, x3, x4]) (v : Va) :
 Blk (((((w.setCell ⟨b, 0, none⟩ (.int .i64 v.k)).setCell ⟨b, 1, none⟩ (.int .i64 v.n)).setCell ⟨b, 2, none⟩ (.string (tx v.s))).setCell ⟨b, 3, none⟩ (.int .i64 v.x)).setCell ⟨b, 4, none⟩ (.int .i64 v.y)) b (wcl v) :=
 ((((h.set 0 _).set 1 _).set 2 _).set 3 _).set 4 _
theorem kp5 {O : Nat → Prop} {w w' : World} (h : Kp O w w') {b : Nat} (hb : O b) (v : Va) :
 Kp O w (((((w'.setCell ⟨b, 0, none⟩ (.int .i64 v.k)).setCell ⟨b, 1, none⟩ (.int .i64 v.n)).setCell ⟨b, 2, none⟩ (.string (tx v.s))).setCell ⟨b, 3, none⟩ (.int .i64 v.x)).setCell ⟨b, 4, none⟩ (.int .i64 v.y)) :=
 ((((h.setCell hb 0 _).setCell hb 1 _).setCell hb 2 _).setCell hb 3 _).setCell hb 4 _
theorem below5 {lo : Nat} {w w' : World} (h : Below lo w w') {b : Nat} (hb : lo ≤ b) (v : Va) :
 Below lo w (((((w'.setCell ⟨b, 0, none⟩ (.int .i64 v.k)).setCell ⟨b, 1, none⟩ (.int .i64 v.n)).setCell ⟨b, 2, none⟩ (.string (tx v.s))).setCell ⟨b, 3, none⟩ (.int .i64 v.x)).setCell ⟨b, 4, none⟩ (.int .i64 v.y)) :=
 ((((h.setCell (p := ⟨b, 0, none⟩) hb _).setCell (p := ⟨b, 1, none⟩) hb _).setCell (p := ⟨b, 2, none⟩) hb _).setCell (p := ⟨b, 3, none⟩) hb _).setCell (p := ⟨b, 4, none⟩) hb _
theorem put5 {w : World} {b c : Nat} {vs : List Value} (h : Blk w b vs) (hc : c ≠ b) (v : Va) :
 Blk (((((w.setCell ⟨c, 0, none⟩ (.int .i64 v.k)).setCell ⟨c, 1, none⟩ (.int .i64 v.n)).setCell ⟨c, 2, none⟩ (.string (tx v.s))).setCell ⟨c, 3, none⟩ (.int .i64 v.x)).setCell ⟨c, 4, none⟩ (.int .i64 v.y)) b vs :=
 ((((h.put hc 0 _).put hc 1 _).put hc 2 _).put hc 3 _).put hc 4 _
set_option maxRecDepth 100000 in
set_option maxHeartbeats 4000000 in
theorem foldGroup_any (g : Nat) (v0 : Va) (t : List Va) (c : ByteArray) (w : World) (h : Vls w g (v0 :: t)) (hl : t.length ≤ 100000) :
 Calls Try.prog 28 #[.slice (some ⟨g, 0, none⟩) (t.length + 1) (t.length + 1), .string c] w (Gives (.tuple #[.agg (wcl (fl c.data.toList v0 t).1).toArray, .int .i64 (fl c.data.toList v0 t).2]) w) := by
 have hb1 := box1 w (.cells #[.int .i64 0, .int .i64 0, .string ⟨#[]⟩, .int .i64 0, .int .i64 0] 33)
 have h' := vls_next h hb1
 have HB2 := Lib.hid (box2 w (.cells #[.int .i64 0, .int .i64 0, .string ⟨#[]⟩, .int .i64 0, .int .i64 0] 33) (.cells (wcl v0).toArray 33))
 have HV := Lib.hid h
 have H4 := Lib.hid ((Blk.made w 33 [.int .i64 0, .int .i64 0, .string ⟨#[]⟩, .int .i64 0, .int .i64 0] rfl).old (.cells (wcl v0).toArray 33))
 have H6 : Hid (Blk ((w.alloc (.cells #[.int .i64 0, .int .i64 0, .string ⟨#[]⟩, .int .i64 0, .int .i64 0] 33)).alloc (.cells (wcl v0).toArray 33)) (w.heap.size + 1) (wcl v0)) := Blk.made (w.alloc (.cells #[.int .i64 0, .int .i64 0, .string ⟨#[]⟩, .int .i64 0, .int .i64 0] 33)) 33 (wcl v0) (World.size_alloc _ _)
 have k0 := h' 0 0 _ (Nat.succ_pos _) rfl
 have k1 := h' 0 1 _ (Nat.succ_pos _) rfl
 have k2 := h' 0 2 _ (Nat.succ_pos _) rfl
 have k3 := h' 0 3 _ (Nat.succ_pos _) rfl
 have k4 := h' 0 4 _ (Nat.succ_pos _) rfl
 have e0 : vd (v0 :: t) 0 = v0 := rfl
 rw [Nat.zero_mul] at k0 k1 k2 k3 k4
 rw [e0, Nat.zero_add] at k0 k1 k2 k3 k4
 clear h e0 h' hb1
 obtain ⟨n, hn⟩ : ∃ n, n = t.length := ⟨_, rfl⟩
 have HN := Lib.hid hn
 rw [← hn] at hl ⊢
 clear hn
 have h1z : (1 : Int) ≤ (n : Int) + 1 := by omega
 unfold wcl at HB2 H4 H6
 rcases Nat.eq_zero_or_pos n with hn0 | hn0
 · subst hn0
   have ht : t = [] := List.eq_nil_of_length_eq_zero HN.out.symm
   subst ht
   go_enter Try.func28, Try.ntmps28
   go_wp2_with (fail)
   clear k0 k1 k2 k3 k4
   have HV1 := Lib.hid (vls_next HV.out (box2 w (.cells #[.int .i64 0, .int .i64 0, .string ⟨#[]⟩, .int .i64 0, .int .i64 0] 33) (.cells #[.int .i64 v0.k, .int .i64 v0.n, .string (tx v0.s), .int .i64 v0.x, .int .i64 v0.y] 33)))
   have eB : ((w.alloc (.cells #[.int .i64 0, .int .i64 0, .string ⟨#[]⟩, .int .i64 0, .int .i64 0] 33)).alloc (.cells [.int .i64 v0.k, .int .i64 v0.n, .string (tx v0.s), .int .i64 v0.x, .int .i64 v0.y].toArray 33)) = ((w.alloc (.cells #[.int .i64 0, .int .i64 0, .string ⟨#[]⟩, .int .i64 0, .int .i64 0] 33)).alloc (.cells #[.int .i64 v0.k, .int .i64 v0.n, .string (tx v0.s), .int .i64 v0.x, .int .i64 v0.y] 33)) := rfl
   rw [eB] at HB2 H4 H6
   clear eB
   generalize (w.alloc (.cells #[.int .i64 0, .int .i64 0, .string ⟨#[]⟩, .int .i64 0, .int .i64 0] 33)).alloc (.cells #[.int .i64 v0.k, .int .i64 v0.n, .string (tx v0.s), .int .i64 v0.x, .int .i64 v0.y] 33) = w1 at *
   refine wp_loop_rounds 1 ?_
   rw [rounds_succ]
   have H6' := H6.out; have H4' := H4.out; have HB' := HB2.out
   have q0 := H6'.c 0 _ rfl; have q1 := H6'.c 1 _ rfl; have q2 := H6'.c 2 _ rfl; have q3 := H6'.c 3 _ rfl; have q4 := H6'.c 4 _ rfl
   have r0 := H4'.c 0 _ rfl; have r1 := H4'.c 1 _ rfl; have r2 := H4'.c 2 _ rfl; have r3 := H4'.c 3 _ rfl; have r4 := H4'.c 4 _ rfl
   have f0 := H4'.f 0 _ rfl; have f1 := H4'.f 1 _ rfl; have f2 := H4'.f 2 _ rfl; have f3 := H4'.f 3 _ rfl; have f4 := H4'.f 4 _ rfl
   have hx := set5 H4' v0
   have hy := below5 HB' (b := w.heap.size) (Nat.le_refl _) v0
   show Code.wp _ _ _ _ _
   go_wp2_with (fail)
   clear q0 q1 q2 q3 q4 r0 r1 r2 r3 r4 f0 f1 f2 f3 f4
   generalize (((((w1.setCell ⟨w.heap.size, 0, none⟩ (.int .i64 v0.k)).setCell ⟨w.heap.size, 1, none⟩ (.int .i64 v0.n)).setCell ⟨w.heap.size, 2, none⟩ (.string (tx v0.s))).setCell ⟨w.heap.size, 3, none⟩ (.int .i64 v0.x)).setCell ⟨w.heap.size, 4, none⟩ (.int .i64 v0.y)) = w4 at *
   have c0 := hx.c 0 _ rfl; have c1 := hx.c 1 _ rfl; have c2 := hx.c 2 _ rfl; have c3 := hx.c 3 _ rfl; have c4 := hx.c 4 _ rfl
   refine bodyPost_ret (v := .tuple #[.agg (wcl v0).toArray, .int .i64 0]) (by simp [results, Try.results28, go_sem, c0, c1, c2, c3, c4, wcl]) rfl ⟨rfl, hy⟩
 have hne : ¬ n = 0 := by omega
 go_enter Try.func28, Try.ntmps28
 go_wp2_with (fail)
 clear k0 k1 k2 k3 k4
 have HV1 := Lib.hid (vls_next HV.out (box2 w (.cells #[.int .i64 0, .int .i64 0, .string ⟨#[]⟩, .int .i64 0, .int .i64 0] 33) (.cells #[.int .i64 v0.k, .int .i64 v0.n, .string (tx v0.s), .int .i64 v0.x, .int .i64 v0.y] 33)))
 have eB : ((w.alloc (.cells #[.int .i64 0, .int .i64 0, .string ⟨#[]⟩, .int .i64 0, .int .i64 0] 33)).alloc (.cells [.int .i64 v0.k, .int .i64 v0.n, .string (tx v0.s), .int .i64 v0.x, .int .i64 v0.y].toArray 33)) = ((w.alloc (.cells #[.int .i64 0, .int .i64 0, .string ⟨#[]⟩, .int .i64 0, .int .i64 0] 33)).alloc (.cells #[.int .i64 v0.k, .int .i64 v0.n, .string (tx v0.s), .int .i64 v0.x, .int .i64 v0.y] 33)) := rfl
 rw [eB] at HB2 H4 H6
 clear eB
 generalize (w.alloc (.cells #[.int .i64 0, .int .i64 0, .string ⟨#[]⟩, .int .i64 0, .int .i64 0] 33)).alloc (.cells #[.int .i64 v0.k, .int .i64 v0.n, .string (tx v0.s), .int .i64 v0.x, .int .i64 v0.y] 33) = w1 at *
 go_loopg [16] n (fun kx s16 wr => ∃ (i : Nat) (acc : Va), i ≤ n ∧ n - i ≤ kx ∧ s16 = .int .i64 i ∧ Hid (fl c.data.toList v0 t = fl c.data.toList acc (t.drop i)) ∧ Hid (Blk wr (w.heap.size + 1) (wcl acc)) ∧ Hid (Blk wr w.heap.size [.int .i64 0, .int .i64 0, .string ⟨#[]⟩, .int .i64 0, .int .i64 0]) ∧ Hid (Below w.heap.size w wr))
 case atStart => exact ⟨0, v0, Nat.zero_le _, by omega, rfl, Lib.hid rfl, H6, H4, HB2⟩
 case round =>
  clear H6 H4 HB2 HV1
  obtain ⟨i, acc, hi, hkx, rfl, HF, H6, H4, HB⟩ := hrel
  by_cases hlt : i < n
  · have hltz : (i : Int) < (n : Int) := by omega
    have hV := vls_next HV.out HB.out
    have hit : i < t.length := by rw [← HN.out]; exact hlt
    have hv := hV (i + 1)
    obtain ⟨x, hx⟩ : ∃ x, x = t[i] := ⟨_, rfl⟩
    have ex : vd (v0 :: t) (i + 1) = x := by unfold vd; rw [hx]; simp [hit]
    rw [ex] at hv
    have m0 := hv 0 _ (by simp; omega) rfl
    have m1 := hv 1 _ (by simp; omega) rfl
    have m2 := hv 2 _ (by simp; omega) rfl
    have m3 := hv 3 _ (by simp; omega) rfl
    have m4 := hv 4 _ (by simp; omega) rfl
    have eo : (i + 1) * 5 = 5 + i * 5 := by omega
    rw [eo] at m0 m1 m2 m3 m4
    rw [Nat.add_zero] at m0
    have HS : Hid (fl c.data.toList acc (t.drop i) = if (fo c.data.toList acc x).2 = 0 then fl c.data.toList (fo c.data.toList acc x).1 (t.drop (i + 1)) else (Jo.vz0, (fo c.data.toList acc x).2)) := by
     show _ = _
     rw [List.drop_eq_getElem_cons hit, ← hx]; rfl
    have HFO := Lib.hid (fun W => fold_va c acc x W)
    unfold wcl at HFO
    clear hV hv ex eo hx
    have hb8 := box1 wr (.cells #[.int .i64 x.k, .int .i64 x.n, .string (tx x.s), .int .i64 x.x, .int .i64 x.y] 33)
    have H6a := H6.out.next hb8
    have q0 := H6a.c 0 _ rfl; have q1 := H6a.c 1 _ rfl; have q2 := H6a.c 2 _ rfl; have q3 := H6a.c 3 _ rfl; have q4 := H6a.c 4 _ rfl
    have HB8 := Lib.hid (Below.next HB.out hb8); have H6b := Lib.hid H6a; have H4b := Lib.hid (H4.out.next hb8)
    clear hb8 H6a
    go_wp2_with (fail)
    refine (HFO.out _).mono ?_
    rintro e w3 ⟨rfl, hb3⟩
    have HB3 := Lib.hid (Below.next HB8.out hb3); have H6c := Lib.hid (H6b.out.next hb3); have H4c := Lib.hid (H4b.out.next hb3)
    clear hb3 q0 q1 q2 q3 q4 m0 m1 m2 m3 m4 HB8 H6b H4b HFO
    have q0 := H6c.out.c 0 _ rfl; have q1 := H6c.out.c 1 _ rfl; have q2 := H6c.out.c 2 _ rfl; have q3 := H6c.out.c 3 _ rfl; have q4 := H6c.out.c 4 _ rfl
    have f0 := H6c.out.f 0 _ rfl; have f1 := H6c.out.f 1 _ rfl; have f2 := H6c.out.f 2 _ rfl; have f3 := H6c.out.f 3 _ rfl; have f4 := H6c.out.f 4 _ rfl
    generalize fo c.data.toList acc x = r at *
    obtain ⟨rv, re⟩ := r
    dsimp only at HS ⊢
    have H6d := Lib.hid (set5 H6c.out rv)
    have H4d := Lib.hid (put5 H4c.out (c := w.heap.size + 1) (by omega) rv)
    have HB4 := Lib.hid (below5 HB3.out (b := w.heap.size + 1) (by omega) rv)
    clear H6c H4c HB3
    have n1 : ¬ w.heap.size = w.heap.size + 1 := by omega
    have n2 : ¬ w.heap.size + 1 = w.heap.size := by omega
    by_cases hre : re = 0
    · have hz : (re != 0) = false := by simp [hre]
      have hF' : fl c.data.toList v0 t = fl c.data.toList rv (t.drop (i + 1)) := by rw [HF.out, HS.out, if_pos hre]
      have HF' := Lib.hid hF'
      clear hre hF' HF HS
      go_wp2_with (fail)
      clear q0 q1 q2 q3 q4 f0 f1 f2 f3 f4
      go_roundg (n - (i + 1))
      case measure => omega
      case rel => exact ⟨i + 1, rv, by omega, Nat.le_refl _, by go_num, HF', H6d, H4d, HB4⟩
    · have hz : (re != 0) = true := by simp [hre]
      have hF' : fl c.data.toList v0 t = (Jo.vz0, re) := by rw [HF.out, HS.out, if_neg hre]
      have HF' := Lib.hid hF'
      have r0 := H4d.out.c 0 _ rfl; have r1 := H4d.out.c 1 _ rfl; have r2 := H4d.out.c 2 _ rfl; have r3 := H4d.out.c 3 _ rfl; have r4 := H4d.out.c 4 _ rfl
      have g0 := H4d.out.f 0 _ rfl; have g1 := H4d.out.f 1 _ rfl; have g2 := H4d.out.f 2 _ rfl; have g3 := H4d.out.f 3 _ rfl; have g4 := H4d.out.f 4 _ rfl
      clear hre hF' HF HS
      go_wp2_with (fail)
      clear q0 q1 q2 q3 q4 f0 f1 f2 f3 f4 r0 r1 r2 r3 r4 g0 g1 g2 g3 g4
      generalize (((((w3.setCell ⟨w.heap.size + 1, 0, none⟩ (.int .i64 rv.k)).setCell ⟨w.heap.size + 1, 1, none⟩ (.int .i64 rv.n)).setCell ⟨w.heap.size + 1, 2, none⟩ (.string (tx rv.s))).setCell ⟨w.heap.size + 1, 3, none⟩ (.int .i64 rv.x)).setCell ⟨w.heap.size + 1, 4, none⟩ (.int .i64 rv.y)) = w5 at *
      have hx := ((((H4d.out.set 0 (.int .i64 0)).set 1 (.int .i64 0)).set 2 (.string ⟨#[]⟩)).set 3 (.int .i64 0)).set 4 (.int .i64 0)
      have hy := ((((HB4.out.setCell (p := ⟨w.heap.size, 0, none⟩) (Nat.le_refl _) (.int .i64 0)).setCell (p := ⟨w.heap.size, 1, none⟩) (Nat.le_refl _) (.int .i64 0)).setCell (p := ⟨w.heap.size, 2, none⟩) (Nat.le_refl _) (.string ⟨#[]⟩)).setCell (p := ⟨w.heap.size, 3, none⟩) (Nat.le_refl _) (.int .i64 0)).setCell (p := ⟨w.heap.size, 4, none⟩) (Nat.le_refl _) (.int .i64 0)
      generalize (((((w5.setCell ⟨w.heap.size, 0, none⟩ (.int .i64 0)).setCell ⟨w.heap.size, 1, none⟩ (.int .i64 0)).setCell ⟨w.heap.size, 2, none⟩ (.string ⟨#[]⟩)).setCell ⟨w.heap.size, 3, none⟩ (.int .i64 0)).setCell ⟨w.heap.size, 4, none⟩ (.int .i64 0)) = w6 at *
      have c0 := hx.c 0 _ rfl; have c1 := hx.c 1 _ rfl; have c2 := hx.c 2 _ rfl; have c3 := hx.c 3 _ rfl; have c4 := hx.c 4 _ rfl
      refine bodyPost_ret (v := .tuple #[.agg #[.int .i64 0, .int .i64 0, .string ⟨#[]⟩, .int .i64 0, .int .i64 0], .int .i64 re]) (by simp [results, Try.results28, go_sem, c0, c1, c2, c3, c4]) rfl ⟨by rw [HF'.out]; rfl, hy⟩
  · obtain rfl : i = n := by omega
    have hltz : ¬ (i : Int) < (i : Int) := by omega
    have q0 := H6.out.c 0 _ rfl; have q1 := H6.out.c 1 _ rfl; have q2 := H6.out.c 2 _ rfl; have q3 := H6.out.c 3 _ rfl; have q4 := H6.out.c 4 _ rfl
    have r0 := H4.out.c 0 _ rfl; have r1 := H4.out.c 1 _ rfl; have r2 := H4.out.c 2 _ rfl; have r3 := H4.out.c 3 _ rfl; have r4 := H4.out.c 4 _ rfl
    have f0 := H4.out.f 0 _ rfl; have f1 := H4.out.f 1 _ rfl; have f2 := H4.out.f 2 _ rfl; have f3 := H4.out.f 3 _ rfl; have f4 := H4.out.f 4 _ rfl
    have hF' : fl c.data.toList v0 t = (acc, 0) := by
     rw [HF.out, List.drop_of_length_le (by rw [HN.out]; exact Nat.le_refl _)]; rfl
    have HF' := Lib.hid hF'
    have hx := set5 H4.out acc
    have hy := below5 HB.out (b := w.heap.size) (Nat.le_refl _) acc
    clear hF'
    go_wp2_with (fail)
    clear q0 q1 q2 q3 q4 r0 r1 r2 r3 r4 f0 f1 f2 f3 f4
    generalize (((((wr.setCell ⟨w.heap.size, 0, none⟩ (.int .i64 acc.k)).setCell ⟨w.heap.size, 1, none⟩ (.int .i64 acc.n)).setCell ⟨w.heap.size, 2, none⟩ (.string (tx acc.s))).setCell ⟨w.heap.size, 3, none⟩ (.int .i64 acc.x)).setCell ⟨w.heap.size, 4, none⟩ (.int .i64 acc.y)) = w4 at *
    have c0 := hx.c 0 _ rfl; have c1 := hx.c 1 _ rfl; have c2 := hx.c 2 _ rfl; have c3 := hx.c 3 _ rfl; have c4 := hx.c 4 _ rfl
    refine bodyPost_ret (v := .tuple #[.agg (wcl acc).toArray, .int .i64 0]) (by simp [results, Try.results28, go_sem, c0, c1, c2, c3, c4, wcl]) rfl ⟨by rw [HF'.out], hy⟩
end Go.Proofs.Ytamhfjlffacakaa.So
namespace Go.Proofs.Ytamhfjlffacakaa.So
open Go.ChangeShapes Go.WideShapes Go.ChangeAt Go.RowKit Go.Sort Go.Shelf Go.Proofs Ov Va St Pr
theorem fin6 {P : World → Prop} {lo : Nat} {W w : World} {b : Nat} {x0 x1 x2 x3 x4 x5 : Value} (h : Blk w b [x0, x1, x2, x3, x4, x5]) (hb : Below lo W w) (hlo : lo ≤ b) (a0 a1 a2 a3 a4 a5 : Value)
 (k : ∀ w', Blk w' b [a0, a1, a2, a3, a4, a5] → Below lo W w' → P w') : P ((((((w.setCell ⟨b, 0, none⟩ a0).setCell ⟨b, 1, none⟩ a1).setCell ⟨b, 2, none⟩ a2).setCell ⟨b, 3, none⟩ a3).setCell ⟨b, 4, none⟩ a4).setCell ⟨b, 5, none⟩ a5) :=
 k _ ((((((h.set 0 a0).set 1 a1).set 2 a2).set 3 a3).set 4 a4).set 5 a5) ((((((hb.setCell hlo _).setCell hlo _).setCell hlo _).setCell hlo _).setCell hlo _).setCell hlo _)
set_option maxRecDepth 100000 in
set_option maxHeartbeats 4000000 in
theorem ownPair_any (p : Pr) (w : World) (h1 : p.1.length ≤ 1000000) (h2 : p.2.s.length ≤ 1000000) :
 Calls Try.prog 20 #[.agg (pcl p).toArray] w (Gives (.agg (pcl p).toArray) w) := by
 obtain ⟨pk, pv⟩ := p
 obtain ⟨vk, vn, vs, vx, vy⟩ := pv
 dsimp only at h1 h2
 have HC := Lib.hid (fun W => clone_any (tx pk) W (by rw [tx_size]; omega))
 have HD := Lib.hid (fun W => clone_any (tx vs) W (by rw [tx_size]; omega))
 clear h1 h2
 unfold pcl
 dsimp only
 generalize tx pk = k at *
 generalize tx vs = s at *
 have H1 := Lib.hid ((box6 w 35 (.string k) (.int .i64 vk) (.int .i64 vn) (.string s) (.int .i64 vx) (.int .i64 vy)).old (.cells #[.string ⟨#[]⟩, .int .i64 0, .int .i64 0, .string ⟨#[]⟩, .int .i64 0, .int .i64 0] 35))
 have H2 := Lib.hid (box6 (w.alloc (.cells #[.string k, .int .i64 vk, .int .i64 vn, .string s, .int .i64 vx, .int .i64 vy] 35)) 35 (.string ⟨#[]⟩) (.int .i64 0) (.int .i64 0) (.string ⟨#[]⟩) (.int .i64 0) (.int .i64 0))
 have HB := Lib.hid (box2 w (.cells #[.string k, .int .i64 vk, .int .i64 vn, .string s, .int .i64 vx, .int .i64 vy] 35) (.cells #[.string ⟨#[]⟩, .int .i64 0, .int .i64 0, .string ⟨#[]⟩, .int .i64 0, .int .i64 0] 35))
 rw [World.size_alloc] at H2
 go_enter Try.func20, Try.ntmps20
 go_wp2_with (fail)
 generalize (w.alloc (.cells #[.string k, .int .i64 vk, .int .i64 vn, .string s, .int .i64 vx, .int .i64 vy] 35)).alloc (.cells #[.string ⟨#[]⟩, .int .i64 0, .int .i64 0, .string ⟨#[]⟩, .int .i64 0, .int .i64 0] 35) = v0 at *
 have H1d := H1.out.drew
 have d0 := H1d.c 0 _ rfl
 have d3 := H1d.c 3 _ rfl
 have HF1 := Lib.hid H1d; have HF2 := Lib.hid H2.out.drew; have HBd := Lib.hid (below_drewN HB.out 1)
 clear H1d H1 H2 HB
 go_upto_region 1 with fail
 go_region_with (first
  | (refine (HC.out _).mono ?_
     rintro e w1 ⟨rfl, hb⟩
     have HG1 := Lib.hid (HF1.out.next hb); have HG2 := Lib.hid (HF2.out.next hb); have HBe := Lib.hid (Below.next HBd.out hb)
     have g3 := HG1.out.c 3 _ rfl
     clear hb)
  | (refine (HD.out _).mono ?_
     rintro e w2 ⟨rfl, hb⟩
     have HX := HG1.out.next hb; have HY := Lib.hid (HG2.out.next hb); have HBf := Lib.hid (Below.next HBe.out hb)
     have x0 := HX.c 0 _ rfl; have x1 := HX.c 1 _ rfl; have x2 := HX.c 2 _ rfl; have x3 := HX.c 3 _ rfl; have x4 := HX.c 4 _ rfl; have x5 := HX.c 5 _ rfl
     have f0 := HX.f 0 _ rfl; have f3 := HX.f 3 _ rfl
     clear hb HX))
 all_goals
  rw [setCell_self x0, setCell_self x3]
  have y0 := HY.out.c 0 _ rfl; have y1 := HY.out.c 1 _ rfl; have y2 := HY.out.c 2 _ rfl; have y3 := HY.out.c 3 _ rfl; have y4 := HY.out.c 4 _ rfl; have y5 := HY.out.c 5 _ rfl
  have z0 := HY.out.f 0 _ rfl; have z1 := HY.out.f 1 _ rfl; have z2 := HY.out.f 2 _ rfl; have z3 := HY.out.f 3 _ rfl; have z4 := HY.out.f 4 _ rfl; have z5 := HY.out.f 5 _ rfl
  have HY' := HY.out
  have HB' := HBf.out
  clear HY HBf HG1 HG2 HBe HF1 HF2 HBd g3 HC HD
  go_wp2_with (fail)
  refine fin6 (P := bodyPost _ _ _ _ _) HY' HB' (by omega) _ _ _ _ _ _ fun w4 hx hy => ?_
  have c0 := hx.c 0 _ rfl; have c1 := hx.c 1 _ rfl; have c2 := hx.c 2 _ rfl; have c3 := hx.c 3 _ rfl; have c4 := hx.c 4 _ rfl; have c5 := hx.c 5 _ rfl
  exact bodyPost_ret (v := .agg #[.string k, .int .i64 vk, .int .i64 vn, .string s, .int .i64 vx, .int .i64 vy]) (by simp [results, Try.results20, go_sem, c0, c1, c2, c3, c4, c5]) rfl ⟨rfl, hy⟩
def ch (room : Nat) (l : List Pr) (i : Nat) : List Pr := sr ((l.drop (i * room)).take room)
theorem ch_more {room : Nat} {l : List Pr} {i : Nat} (p : Pr) (h : i * room + room ≤ l.length) : ch room (l ++ [p]) i = ch room l i := by
 unfold ch
 rw [List.drop_append_of_le_length (by omega), List.take_append_of_le_length (by rw [List.length_drop]; omega)]
theorem chs_more {room : Nat} {l : List Pr} {q : Nat} (p : Pr) (h : q * room ≤ l.length) : (List.range q).map (ch room (l ++ [p])) = (List.range q).map (ch room l) := by
 refine List.map_congr_left fun i hi => ch_more p ?_
 have hi' : i < q := by simpa using hi
 have : (i + 1) * room ≤ q * room := Nat.mul_le_mul_right _ (by omega)
 rw [Nat.add_mul] at this
 omega
theorem ch_last {room : Nat} {l : List Pr} {q : Nat} (p : Pr) (h : q * room ≤ l.length) (hf : l.length - q * room + 1 = room) : ch room (l ++ [p]) q = sr (l.drop (q * room) ++ [p]) := by
 unfold ch
 rw [List.drop_append_of_le_length h, List.take_of_length_le]
 rw [List.length_append, List.length_drop]
 simp only [List.length_cons, List.length_nil]
 omega
structure SS (w : World) (lo b room : Nat) (l : List Pr) (q : Nat) (vi vl : Value) (ps : List Part) : Prop where
 q1 : q * room ≤ l.length
 q2 : l.length < q * room + room
 h : Blk w b [.int .i64 room, vi, vl]
 i : w.ownsRow lo 35 6 vi (l.length - q * room) (pcells (l.drop (q * room)))
 d : w.ownsRow lo 22 1 vl q (ps.map pv)
 p : ps.map (·.2.2) = (List.range q).map (ch room l)
 o : ∀ x ∈ ps, OwnL lo w x.1 x.2.2 ∧ (x.1 = none → x.2.2 = [] ∧ x.2.1 = 0) ∧ x.2.2.length ≤ x.2.1
 lo : lo ≤ b
 n1 : vi.ownBlock ≠ some b
 n2 : vl.ownBlock ≠ some b
 n3 : ∀ g, vi.ownBlock = some g → vl.ownBlock ≠ some g
 n4 : ∀ x ∈ ps, ∀ g o, x.1 = some ⟨g, o, none⟩ → g ≠ b ∧ vi.ownBlock ≠ some g ∧ vl.ownBlock ≠ some g
def sO (b : Nat) (vi vl : Value) (c : Nat) : Prop := c = b ∨ vi.ownBlock = some c ∨ vl.ownBlock = some c
theorem own_lt {w : World} {base size n : Nat} {e : TypeId} {v : Value} {xs : List Value} (h : w.ownsRow base e size v n xs) {g : Nat} (hg : v.ownBlock = some g) : base ≤ g ∧ g < w.heap.size := by
 rcases h.2 with ⟨rfl, _⟩ | ⟨g', cap, cur, rfl, hb, hc, _⟩
 · cases hg
 · cases hg; exact ⟨hb, (Array.getElem?_eq_some_iff.1 hc).1⟩
theorem _root_.Go.Proofs.Ytamhfjlffacakaa.Pr.OwnL.kp {O : Nat → Prop} {w w' : World} {B : Nat} {p : Option Addr} {l : List Pr} (h : OwnL B w p l) (k : Kp O w w') (hO : ∀ g o, p = some ⟨g, o, none⟩ → ¬ O g) : OwnL B w' p l := by
 rcases h with h | ⟨g, e, h1, h2, hh⟩
 · exact .inl h
 · exact .inr ⟨g, e, h1, Nat.lt_of_lt_of_le h2 k.size, fun j hj => ⟨(k.cell (p := ⟨g, 0 + j, none⟩) (hO g 0 e) h2).trans (hh j hj).1, (k.frozen (p := ⟨g, 0 + j, none⟩) (hO g 0 e) h2).trans (hh j hj).2⟩⟩
section
variable {w w' : World} {lo b room q : Nat} {l : List Pr} {vi vl : Value} {ps : List Part}
theorem SS.kp {O : Nat → Prop} (h : SS w lo b room l q vi vl ps) (k : Kp O w w') (hO : ∀ c, sO b vi vl c → ¬ O c) (hP : ∀ x ∈ ps, ∀ g o, x.1 = some ⟨g, o, none⟩ → ¬ O g) : SS w' lo b room l q vi vl ps :=
 ⟨h.q1, h.q2, h.h.kp k (hO b (.inl rfl)), own_kp h.i k fun g e => hO g (.inr (.inl e)), own_kp h.d k fun g e => hO g (.inr (.inr e)), h.p,
  fun x hx => ⟨(h.o x hx).1.kp k (hP x hx), (h.o x hx).2⟩, h.lo, h.n1, h.n2, h.n3, h.n4⟩
theorem SS.next (h : SS w lo b room l q vi vl ps) (k : Below w.heap.size w w') : SS w' lo b room l q vi vl ps := h.kp (Below.kp (fun _ => False) k) (fun _ _ h => h) fun _ _ _ _ _ h => h
theorem SS.old (h : SS w lo b room l q vi vl ps) : ∀ c, sO b vi vl c → lo ≤ c ∧ c < w.heap.size := fun c e => by
 rcases e with rfl | e | e
 · exact ⟨h.lo, h.h.lt⟩
 · exact own_lt h.i e
 · exact own_lt h.d e
end
set_option maxHeartbeats 1000000 in
theorem new_yes (room : Nat) (h1 : 1 ≤ room) (h2 : room ≤ 4096) (w : World) :
 Calls Try.prog 7 #[.int .i64 room] w fun e w' => e = .returned (.tuple #[.pointer (some ⟨w.heap.size, 0, none⟩), .int .i64 0]) ∧ SS w' w.heap.size w.heap.size room [] 0 (.slice none 0 0) (.slice none 0 0) [] ∧ Below w.heap.size w w' := by
 have hb := box1 w (.cells #[.int .i64 room, .slice none 0 0, .slice none 0 0] 54)
 have hs : SS (w.alloc (.cells #[.int .i64 room, .slice none 0 0, .slice none 0 0] 54)) w.heap.size w.heap.size room [] 0 (.slice none 0 0) (.slice none 0 0) [] :=
  ⟨by simp, by simp; omega, Blk.made w 54 [.int .i64 room, .slice none 0 0, .slice none 0 0] rfl, by rw [Nat.zero_mul]; exact World.ownsRow_nil _ _ _ _, World.ownsRow_nil _ _ _ _, rfl, (fun x hx => by cases hx), Nat.le_refl _, (fun h => by cases h), (fun h => by cases h), (fun _ h => by cases h), (fun x hx => by cases hx)⟩
 have HB := Lib.hid hb; have HS := Lib.hid hs
 clear hb hs
 have t1 : decide ((room : Int) < 1) = false := decide_eq_false (by omega)
 have t2 : decide ((4096 : Int) < (room : Int)) = false := decide_eq_false (by omega)
 go_enter Try.func7, Try.ntmps7
 go_wp2_with (fail)
 go_ret2
 exact ⟨rfl, HS.out, HB.out⟩
theorem new_no (room : Int) (h : ¬ (1 ≤ room ∧ room ≤ 4096)) (w : World) : Calls Try.prog 7 #[.int .i64 room] w (Gives (.tuple #[.pointer none, .int .i64 1]) w) := by
 by_cases h1 : room < 1
 · have t1 : decide (room < 1) = true := decide_eq_true h1
   go_enter Try.func7, Try.ntmps7
   go_wp2_with (fail)
   go_ret2
   exact ⟨rfl, Below.refl _ _⟩
 · have t1 : decide (room < 1) = false := decide_eq_false h1
   have t2 : decide (4096 < room) = true := decide_eq_true (by omega)
   go_enter Try.func7, Try.ntmps7
   go_wp2_with (fail)
   go_ret2
   exact ⟨rfl, Below.refl _ _⟩
theorem own_slice {w : World} {base size n : Nat} {e : TypeId} {v : Value} {xs : List Value} (h : w.ownsRow base e size v n xs) : ∃ A c, v = .slice A n c ∧ n ≤ c ∧ (A = none → n = 0 ∧ c = 0) := by
 rcases h.2 with ⟨rfl, rfl⟩ | ⟨g, cap, cur, rfl, _, _, hc, _⟩
 · exact ⟨none, 0, rfl, Nat.le_refl _, fun _ => ⟨rfl, rfl⟩⟩
 · exact ⟨_, cap, rfl, hc, fun h => by cases h⟩
set_option maxHeartbeats 1000000 in
theorem count_any {lo b room q : Nat} {l : List Pr} {vi vl : Value} {ps : List Part} (w : World) (h : SS w lo b room l q vi vl ps) (hl : l.length ≤ 1000000) (hr : room ≤ 4096) :
 Calls Try.prog 10 #[.pointer (some ⟨b, 0, none⟩)] w (Gives (.int .i64 l.length) w) := by
 obtain ⟨A, c, e1, _, _⟩ := own_slice h.i
 obtain ⟨A', c', e2, _, _⟩ := own_slice h.d
 subst e1; subst e2
 have c0 := h.h.c 0 _ rfl
 have c1 := h.h.c 1 _ rfl
 have c2 := h.h.c 2 _ rfl
 have h1 := h.q1
 have h2 := h.q2
 have hq : q ≤ 1000000 := by
  rcases Nat.eq_zero_or_pos room with e | e
  · subst e; simp at h2
  · have := Nat.le_mul_of_pos_right q e; omega
 obtain ⟨m, hm⟩ : ∃ m, m = q * room := ⟨_, rfl⟩
 rw [← hm] at h1 h2 c1
 have hm1 : (q : Int) * (room : Int) = (m : Int) := by rw [hm]; simp
 have HM := Lib.hid hm1
 obtain ⟨r, hr'⟩ : ∃ r, r = l.length - m := ⟨_, rfl⟩
 rw [← hr'] at c1
 have hlr : l.length = m + r := by omega
 rw [hlr]
 clear h hm hr'
 go_enter Try.func10, Try.ntmps10
 go_wp2_with (fail)
 go_quiet (fail)
 go_wp2_with (fail)
 go_ret
 exact ⟨congrArg (fun z => Ending.returned (.int .i64 z)) (show ((m : Int) + (r : Int)) = ((m + r : Nat) : Int) by omega), below_drewN (Below.refl _ _) _⟩
end Go.Proofs.Ytamhfjlffacakaa.So
namespace Go.Proofs.Ytamhfjlffacakaa.Ov
open Go.ChangeShapes Go.WideShapes Go.ChangeAt Go.RowKit Go.Proofs
theorem least {p : Nat → Prop} (h : ∃ k, p k) : ∃ k, p k ∧ ∀ j, j < k → ¬ p j := by
 obtain ⟨k, hk⟩ := h
 induction k using Nat.strongRecOn with
 | ind k ih =>
   by_cases e : ∃ j, j < k ∧ p j
   · obtain ⟨j, hj, hp⟩ := e; exact ih j hj hp
   · exact ⟨k, hk, fun j hj hp => e ⟨j, hj, hp⟩⟩
open Classical in
noncomputable def lst (J : Nat → Act → World → Prop) (a : Act) (w : World) : Nat := if h : ∃ k, J k a w then Classical.choose (least h) else 0
theorem lst_spec {J : Nat → Act → World → Prop} {a : Act} {w : World} (h : ∃ k, J k a w) : J (lst J a w) a w ∧ ∀ j, j < lst J a w → ¬ J j a w := by
 unfold lst
 rw [dif_pos h]
 exact Classical.choose_spec (least h)
theorem wpw_scope_n {P : Program} {n : Nat} {a : Act} {w : World} {Q : Exit → Act → World → Prop} {c rest : Code} (l : Nat) (J : Nat → Act → World → Prop) (hf : findLabel c l = some (.seq .skip rest))
 (first : Hid (∀ k a w, J k a w → rest.wpIn Fence.wide n P (Exit.jump l (fun a w => ∃ k, J k a w) Q) a w) → c.wpIn Fence.wide n P (Exit.jump l (fun a w => ∃ k, J k a w) Q) a w)
 (pass : ∀ k a w, J k a w → rest.wpIn Fence.wide n P (Exit.jump l (fun a' w' => ∃ k', k' < k ∧ J k' a' w') Q) a w) : (Code.scope c).wpIn Fence.wide n P Q a w := by
 refine wpw_scope_once l (fun a w => ∃ k, J k a w) (lst J) hf (fun h => first (Lib.hid fun k a w j => h.out a w ⟨k, j⟩)) fun a w j => ?_
 obtain ⟨h1, _⟩ := lst_spec j
 refine wpIn_mono (pass _ a w h1) fun e a' w' q => ?_
 cases e with
 | goto l' =>
   obtain ⟨e, k', hk, hj⟩ := q
   refine ⟨e, ⟨k', hj⟩, Nat.lt_of_le_of_lt ?_ hk⟩
   refine Nat.le_of_not_lt fun hlt => ?_
   exact (lst_spec ⟨k', hj⟩).2 k' hlt hj
 | _ => exact q
end Go.Proofs.Ytamhfjlffacakaa.Ov
namespace Go.Proofs.Ytamhfjlffacakaa.So
open Go.ChangeShapes Go.WideShapes Go.ChangeAt Go.RowKit Go.Sort Go.Proofs Ov Va St Pr
theorem rest_no (hb : Nat) (i : Int) (A : Option Addr) (c : Nat) (w : World) : Calls Try.prog 38 #[.int .i64 i, .slice A 0 c, .pointer (some ⟨hb, 0, none⟩)] w fun e w' => e = .returned (.tuple #[]) ∧ w = w' := by
 go_enter Try.func38, Try.ntmps38
 go_wp2_with (fail)
 go_end0
 exact ⟨rfl, rfl⟩
theorem rest_yes (hb lo n m : Nat) (A : Option Addr) (c : Nat) (v : Value) (s : Nat → Value) (f : Nat → Nat) (r : Nat) (lt : Nat → Nat → Bool) (R : World → Prop) (Q : Nat → Prop) (w : World) (hm : HM w hb lo v s f n) (hn : n ≤ 1000000) (hp : Hp lt f n)
 (hR : R w) (ho : Ord lo R Q s lt) (hQ : ∀ i, i < n → Q (f i)) (hr : Q r) (hlo : lo ≤ w.heap.size) (hs : s r = .slice A m c) (h0 : 0 < m) (hm1 : m ≤ 1000000000) :
 Calls Try.prog 38 #[.int .i64 r, .slice A m c, .pointer (some ⟨hb, 0, none⟩)] w (PutQ hb lo n v s lt f r w) := by
 have hpt := put_any hb lo n v s f r lt R Q w hm hn hp hR ho hQ hr hlo
 rw [hs] at hpt
 clear hm hp hR ho hQ hr
 have h0z : (0 : Int) < (m : Int) := by omega
 go_enter Try.func38, Try.ntmps38
 go_wp2_with (fail)
 refine hpt.mono ?_
 rintro e w1 ⟨rfl, h⟩
 have H := Lib.hid h
 clear h hpt
 go_wp2_with (fail)
 go_end0
 exact ⟨rfl, H.out⟩
end Go.Proofs.Ytamhfjlffacakaa.So
namespace Go.Proofs.Ytamhfjlffacakaa.So
open Go.ChangeShapes Go.WideShapes Go.ChangeAt Go.RowKit Go.Sort Go.Shelf Go.Proofs Ov Va St Pr
theorem pcells_zero (n : Nat) : (madeCells (Value.agg (pcl pz).toArray).cells (n * 6)).toList = pcells (List.replicate n pz) := by
 apply List.ext_getElem?
 intro t
 by_cases ht : t < n * 6
 · have e : t = t / 6 * 6 + t % 6 := by omega
   have hm : t % 6 < 6 := Nat.mod_lt _ (by omega)
   have hl : (pcells (List.replicate n pz))[t]? = (pcl pz)[t % 6]? := by
    conv => lhs; rw [e]
    rw [pcells_at _ _ _ (by rw [List.length_replicate]; omega) hm]
    unfold pd
    rw [List.getElem?_replicate, if_pos (by omega)]; rfl
   rw [hl]
   have hz : (Value.agg (pcl pz).toArray).cells = (pcl pz).toArray := rfl
   rw [hz, Array.getElem?_toList]
   unfold madeCells
   rw [Array.getElem?_map, Array.getElem?_range, if_pos ht]
   show some ((pcl pz).toArray[t % 6]!) = _
   have h2 : t % 6 < (pcl pz).length := hm
   rw [List.getElem?_eq_getElem h2]
   simp [h2]
 · rw [List.getElem?_eq_none (by rw [Array.length_toList, size_madeCells]; omega), List.getElem?_eq_none (by rw [pcells_len, List.length_replicate]; omega)]
theorem prs_own' {w : World} {B g c n : Nat} {l : List Pr} (h : w.ownsRow B 35 6 (.slice (some ⟨g, 0, none⟩) n c) n (pcells l)) (hn : n = l.length) : ∀ i j v, i < l.length → (pcl (pd l i))[j]? = some v → w.cell? ⟨g, i * 6 + j, none⟩ = some v := fun i j v hi hv => by
 subst hn
 have hj : j < 6 := (List.getElem?_eq_some_iff.1 hv).1
 rw [h.cellAt _ (by omega), pcells_at l i j hi hj, hv]
def mp (m : List Pr) (i : Nat) : List Pr := m.take i ++ List.replicate (m.length - i) pz
theorem mp_len (m : List Pr) (i : Nat) (h : i ≤ m.length) : (mp m i).length = m.length := by
 unfold mp; rw [List.length_append, List.length_take, List.length_replicate]; omega
theorem mp_step (m : List Pr) (i : Nat) (h : i < m.length) : (mp m i).set i (pd m i) = mp m (i + 1) := by
 unfold mp
 have e : (m.take i).length = i := by rw [List.length_take]; omega
 rw [List.set_append_right _ _ (by omega), e, Nat.sub_self, show m.length - i = (m.length - (i + 1)) + 1 by omega, List.replicate_succ, List.set_cons_zero, List.take_succ_eq_append_getElem h, List.append_assoc, pd_at h]
 rfl
set_option maxRecDepth 100000 in
set_option maxHeartbeats 2000000 in
theorem ownPairs_any (A : Option Addr) (c : Nat) (m : List Pr) (w : World) (h : Prs w A m) (hl : m.length ≤ 100000) (hX : Tx m) :
 Calls Try.prog 24 #[.slice A m.length c] w fun e w' => e = .returned (.slice (some ⟨w.heap.size, 0, none⟩) m.length m.length) ∧ OwnL w.heap.size w' (some ⟨w.heap.size, 0, none⟩) m ∧ Below w.heap.size w w' := by
 have HN := Lib.hid h; have HX := Lib.hid hX
 clear h hX
 obtain ⟨iV, hi0, hi1, hi2, hi3⟩ := info_parts infoP
 obtain ⟨w1, hmk, hown, hgr⟩ := run_make_full (P := Try.prog) w w.heap.size 22 35 iV (.agg (pcl pz).toArray) 6 Try.underlying22 hi0 hi1 hi2 .i64 .i64 m.length (by rw [hi3]; omega) (by unfold maxLen; omega) (Nat.le_refl _)
 rw [pcells_zero] at hown
 have HO : Hid (w1.ownsRow w.heap.size 35 6 (.slice (some ⟨w.heap.size, 0, none⟩) m.length m.length) m.length (pcells (mp m 0))) := by unfold mp; exact hown
 have HB := Lib.hid ((Below.refl w.heap.size w).grown hgr (Nat.le_refl _) (by simp))
 clear hi0 hi1 hi2 hi3 hown hgr
 go_enter Try.func24, Try.ntmps24
 go_wp2_with (fail)
 clear hmk
 go_loopg [11] m.length (fun kx s11 wr => ∃ i : Nat, i ≤ m.length ∧ m.length - i ≤ kx ∧ s11 = .int .i64 i ∧ Hid (wr.ownsRow w.heap.size 35 6 (.slice (some ⟨w.heap.size, 0, none⟩) m.length m.length) m.length (pcells (mp m i))) ∧ Hid (Below w.heap.size w wr))
 case atStart => exact ⟨0, Nat.zero_le _, by omega, rfl, HO, HB⟩
 case round =>
  clear HO HB
  obtain ⟨i, hi, hkx, rfl, HO, HB⟩ := hrel
  by_cases hlt : i < m.length
  · have hltz : (i : Int) < (m.length : Int) := by omega
    obtain ⟨B, O, rfl⟩ := HN.out.shape (by omega)
    have hN : Prs wr (some ⟨B, O, none⟩) m := HN.out.next HB.out
    have k0 := hN.cell (i := i) hlt 0 _ rfl
    have k1 := hN.cell (i := i) hlt 1 _ rfl
    have k2 := hN.cell (i := i) hlt 2 _ rfl
    have k3 := hN.cell (i := i) hlt 3 _ rfl
    have k4 := hN.cell (i := i) hlt 4 _ rfl
    have k5 := hN.cell (i := i) hlt 5 _ rfl
    rw [Nat.add_zero] at k0
    have HT := Lib.hid (HX.out _ (pd_mem hlt))
    have HS := Lib.hid (mp_step m i hlt)
    have HL := Lib.hid (mp_len m i hi)
    clear hN
    generalize pd m i = p at *
    obtain ⟨pk, ⟨vk, vn, vs, vx, vy⟩⟩ := p
    dsimp only at k0 k1 k2 k3 k4 k5 HT HS
    go_upto_region 5 with fail
    have HP := Lib.hid (box6 wr 35 (.string (tx pk)) (.int .i64 vk) (.int .i64 vn) (.string (tx vs)) (.int .i64 vx) (.int .i64 vy))
    have HB1 := Lib.hid (below_obj HB.out (.cells #[.string (tx pk), .int .i64 vk, .int .i64 vn, .string (tx vs), .int .i64 vx, .int .i64 vy] 35))
    have HO1 := Lib.hid (HO.out.alloc (.cells #[.string (tx pk), .int .i64 vk, .int .i64 vn, .string (tx vs), .int .i64 vx, .int .i64 vy] 35))
    clear k0 k1 k2 k3 k4 k5 HO HB
    generalize wr.alloc (.cells #[.string (tx pk), .int .i64 vk, .int .i64 vn, .string (tx vs), .int .i64 vx, .int .i64 vy] 35) = w2 at *
    have p0 := HP.out.c 0 _ rfl
    have p1 := HP.out.c 1 _ rfl
    have p2 := HP.out.c 2 _ rfl
    have p3 := HP.out.c 3 _ rfl
    have p4 := HP.out.c 4 _ rfl
    have p5 := HP.out.c 5 _ rfl
    clear HP
    have hov := ownPair_any (pk, ⟨vk, vn, vs, vx, vy⟩) w2 HT.out.1 HT.out.2
    unfold pcl at hov
    dsimp only at hov
    go_wp2_with (fail)
    refine hov.mono ?_
    rintro e w3 ⟨rfl, hb⟩
    have HB3 := Lib.hid (Below.next HB1.out hb)
    have HO3 := Lib.hid (own_keep HO1.out hb)
    clear hov hb p0 p1 p2 p3 p4 p5 HB1 HO1
    have hV := prs_own' HO3.out HL.out.symm
    have hlm := HL.out
    rw [← hlm] at hlt
    obtain ⟨u0, d0, f0⟩ : ∃ u, w3.cell? ⟨w.heap.size, i * 6, none⟩ = some u ∧ w3.frozen? ⟨w.heap.size, i * 6, none⟩ = false := ⟨_, by have := hV i 0 _ (by omega) rfl; rwa [Nat.add_zero] at this, HO3.out.frozenAt _⟩
    obtain ⟨u1, d1, f1⟩ : ∃ u, w3.cell? ⟨w.heap.size, i * 6 + 1, none⟩ = some u ∧ w3.frozen? ⟨w.heap.size, i * 6 + 1, none⟩ = false := ⟨_, hV i 1 _ (by omega) rfl, HO3.out.frozenAt _⟩
    obtain ⟨u2, d2, f2⟩ : ∃ u, w3.cell? ⟨w.heap.size, i * 6 + 2, none⟩ = some u ∧ w3.frozen? ⟨w.heap.size, i * 6 + 2, none⟩ = false := ⟨_, hV i 2 _ (by omega) rfl, HO3.out.frozenAt _⟩
    obtain ⟨u3, d3, f3⟩ : ∃ u, w3.cell? ⟨w.heap.size, i * 6 + 3, none⟩ = some u ∧ w3.frozen? ⟨w.heap.size, i * 6 + 3, none⟩ = false := ⟨_, hV i 3 _ (by omega) rfl, HO3.out.frozenAt _⟩
    obtain ⟨u4, d4, f4⟩ : ∃ u, w3.cell? ⟨w.heap.size, i * 6 + 4, none⟩ = some u ∧ w3.frozen? ⟨w.heap.size, i * 6 + 4, none⟩ = false := ⟨_, hV i 4 _ (by omega) rfl, HO3.out.frozenAt _⟩
    obtain ⟨u5, d5, f5⟩ : ∃ u, w3.cell? ⟨w.heap.size, i * 6 + 5, none⟩ = some u ∧ w3.frozen? ⟨w.heap.size, i * 6 + 5, none⟩ = false := ⟨_, hV i 5 _ (by omega) rfl, HO3.out.frozenAt _⟩
    rw [hlm] at hlt
    clear hV hlm
    go_wp2_with (fail)
    go_roundg (m.length - (i + 1))
    case measure => omega
    case rel => exact ⟨i + 1, by omega, Nat.le_refl _, by go_num, own_set6s HO3.out HB3.out (Nat.le_refl _) i (by rw [HL.out]; exact hlt) rfl (pk, ⟨vk, vn, vs, vx, vy⟩) HS.out⟩
  · obtain rfl : i = m.length := by omega
    have hltz : ¬ (m.length : Int) < (m.length : Int) := by omega
    go_wp2_with (fail)
    go_ret
    refine ⟨rfl, ?_, HB.out⟩
    have e : mp m m.length = m := by unfold mp; rw [List.take_length, Nat.sub_self]; simp
    have ho := HO.out
    rw [e] at ho
    have := holds_of_own ho rfl
    exact .inr ⟨w.heap.size, rfl, this.1, this.2.1, this.2.2⟩
end Go.Proofs.Ytamhfjlffacakaa.So

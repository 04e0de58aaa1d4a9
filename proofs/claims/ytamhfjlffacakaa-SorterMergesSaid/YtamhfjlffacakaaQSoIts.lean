/-
  A text of this claim: SoIts.
-/
import Derived.Test.YtamhfjlffacakaaQ5
import Derived.Laws.EntriesVeiled
import Derived.RangeFuncBound
import Derived.RangeFuncCalls
import Derived.RangeFuncLeaves
import Derived.WalkKit
import Derived.OwnWalkIn
import Derived.TacticsInMore
import Derived.LoopNIn
import Derived.LoopIn
import Derived.Stop.RegionWithIn
namespace Go.Proofs.Ytamhfjlffacakaa.So
open Go.ChangeShapes Go.WideShapes Go.ChangeAt Go.RowKit Go.Sort Go.Shelf Go.Proofs Ov Va St Pr
theorem _root_.Go.Proofs.Ytamhfjlffacakaa.Ov.Blk.same {w w' : World} {b : Nat} {vs : List Value} (h : Blk w b vs) (k : w'.heap[b]? = w.heap[b]?) : Blk w' b vs := by
 have hlt : b < w'.heap.size := by
  have : w.heap[b]? = some (w.heap[b]'h.lt) := Array.getElem?_eq_getElem h.lt
  rw [this] at k
  exact (Array.getElem?_eq_some_iff.1 k).1
 exact ⟨fun i v e => (World.cell?_of_block (a := ⟨b, i, none⟩) k).trans (h.c i v e), fun i v e => (World.frozen?_of_block (a := ⟨b, i, none⟩) k).trans (h.f i v e), hlt⟩
def Mm (bx : Nat) (A : Option Addr) (c : Nat) (qs : List Part) (W : World) : Prop := W.cell? ⟨bx, 0, none⟩ = some (.slice A qs.length c) ∧ LlN W A qs
def enP (p : Pr) : Array Value := #[.agg (pcl p).toArray]
structure Rk (qs : List Part) (c : Nat) : Prop where
 k : qs.length ≤ 1000000
 kc : qs.length ≤ c
 n : ∀ r, r < qs.length → (qd qs r).2.2.length ≤ 1000000 ∧ (qd qs r).2.2.length ≤ (qd qs r).2.1
 x : ∀ r, r < qs.length → Tx (qd qs r).2.2
 o : ∀ r, r < qs.length → Od (qd qs r).2.2
def JM (lo hb : Nat) (bx : Nat) (qs : List Part) (l : Nat) (J : List Pr → (Nat → Prop) → World → Prop) (k : Nat) (a' : Act) (w' : World) : Prop := ∃ (pre : List Pr) (d f : Nat → Nat) (n : Nat) (v : Value) (u5 u6 u7 u8 u9 u10 u11 u12 u13 u14 u15 u16 u17 u18 u19 u20 u21 u22 u23 u24 u25 u26 u27 u28 u29 u30 u31 u32 u33 u34 u35 u36 u37 u38 u39 u40 u41 u42 u43 u2 : Value),
 k + pre.length = (sr (rsOf qs).flatten).length ∧ MM qs d f n pre ∧ n ≤ qs.length ∧ HM w' hb lo v (sl qs d) f n ∧ J pre (hO hb v) w' ∧
 a' = { tmps := #[.func (.yield l) #[] #[], .pointer (some ⟨bx, 0, none⟩), u2, .pointer (some ⟨hb, 0, none⟩), .func (.func 38) #[] #[.pointer (some ⟨hb, 0, none⟩)], u5, u6, u7, u8, u9, u10, u11, u12, u13, u14, u15, u16, u17, u18, u19, u20, u21, u22, u23, u24, u25, u26, u27, u28, u29, u30, u31, u32, u33, u34, u35, u36, u37, u38, u39, u40, u41, u42, u43], defers := [] }
attribute [local go_sem] Oper.semAt_some
set_option maxRecDepth 100000 in
set_option maxHeartbeats 4000000 in
theorem merged1_its (bx : Nat) (A : Option Addr) (c : Nat) (qs : List Part) (hK : Rk qs c) (n : Nat) :
 ItsO Fence.wide n Try.prog 36 #[.pointer (some ⟨bx, 0, none⟩)] enP (Mm bx A c qs) (fun pre x _ => ∃ rest, sr (rsOf qs).flatten = pre ++ x :: rest) (fun xs => xs = sr (rsOf qs).flatten) (fun pre => ∃ rest, sr (rsOf qs).flatten = pre ++ rest) := by
 intro L J Jx W hJ hJx hM hY h0
 have HJ := Lib.hid hJ; have HJX := Lib.hid hJx; have HM' := Lib.hid hM; have HY := Lib.hid hY; have H0 := Lib.hid h0; have HK := Lib.hid hK
 have HW := Lib.hid (hM _ _ _ h0)
 have hbx := (hM _ _ _ h0).1
 clear hJ hJx hM hY h0
 refine callsIn_of_wp Try.func36 rfl trivial ?_ rfl
 simp only [Try.ntmps36, List.size_toArray, List.length_cons, List.length_nil, Nat.reduceAdd, Nat.reduceSub, Array.replicate_succ, Array.replicate_zero, List.push_toArray, List.append_toArray, List.nil_append, List.cons_append]
 gi_wp2
 refine wpw_scope_n 0 (JM W.heap.size W.heap.size bx qs L J) rfl (fun NX => ?_) ?_
 · have hb0 := box1 W (.cells #[.slice none 0 0, .func (.func 37) #[] #[]] 75)
   have hh0 := Blk.made W 75 [.slice none 0 0, .func (.func 37) #[] #[]] rfl
   have hbx' : (W.alloc (.cells #[.slice none 0 0, .func (.func 37) #[] #[]] 75)).cell? ⟨bx, 0, none⟩ = some (.slice A qs.length c) := (hb0.cell (block_lt_of_cell hbx)).trans hbx
   have HB0 := Lib.hid hb0
   have HM0 : Hid (HM (W.alloc (.cells #[.slice none 0 0, .func (.func 37) #[] #[]] 75)) W.heap.size W.heap.size (.slice none 0 0) (sl qs fun _ => 0) (fun _ => 0) 0) :=
    ⟨hh0, World.ownsRow_nil _ _ _ _, Nat.le_refl _, fun h => nomatch h⟩
   have HJ0 : Hid (J [] (hO W.heap.size (.slice none 0 0)) (W.alloc (.cells #[.slice none 0 0, .func (.func 37) #[] #[]] 75))) :=
    HJ.out _ _ _ _ _ H0.out (Below.kp _ hb0) fun b e => ⟨HM0.out.old b e, .inr (by rcases e with rfl | e; exact Nat.le_refl _; cases e)⟩
   clear hb0 hh0 hbx
   gi_wp2
   generalize W.alloc (.cells #[.slice none 0 0, .func (.func 37) #[] #[]] 75) = w0 at *
   gi_loopw [13] (fun s13 wr => ∃ (i n' : Nat) (f : Nat → Nat) (v : Value), s13 = .int .i64 i ∧ i ≤ qs.length ∧ n' ≤ i ∧ Hid (M0 qs f n' i) ∧ Hid (HM wr W.heap.size W.heap.size v (sl qs fun _ => 0) f n') ∧ Hid (J [] (hO W.heap.size v) wr)) (fun s13 _ => qs.length - (intOf s13).toNat)
   case atStart => exact ⟨0, 0, _, _, rfl, Nat.zero_le _, Nat.le_refl _, M0.start qs _, HM0, HJ0⟩
   case round =>
    clear HB0 HM0 HJ0 hbx'
    obtain ⟨i, n', f, v, rfl, hi, hn', HF, HMr, HJr⟩ := hrel
    have HMM := Lib.hid (HM'.out _ _ _ HJr.out)
    have HR : Hid (RL W qs wr) := RL.of HW.out.2 HMM.out.2
    have hkl := HK.out.k
    by_cases hlt : i < qs.length
    · have hltz : (i : Int) < (qs.length : Int) := by omega
      obtain ⟨B, O, hA, hc, hp⟩ := HMM.out.2 i hlt
      subst hA
      obtain ⟨q, hq⟩ : ∃ q, q = qd qs i := ⟨_, rfl⟩
      have HQ := Lib.hid hq
      rw [← hq] at hc hp
      clear hq
      obtain ⟨Ai, ci, li⟩ := q
      unfold pv at hc
      dsimp only at hc
      have hkn := HK.out.n i hlt
      rw [← HQ.out] at hkn
      dsimp only at hkn
      rcases Nat.eq_zero_or_pos li.length with h0 | h0
      · rw [h0] at hc
        have hcall := rest_no W.heap.size i Ai ci wr
        gi_wp2_with (refine ⟨trivial, (fun h => nomatch h), ?_⟩; refine (callsIn_wide.2 hcall).mono ?_; rintro e w1 ⟨rfl, rfl⟩)
        exact ⟨⟨i + 1, n', f, v, by go_num, by omega, by omega, HF.out.skip (by rw [← HQ.out]; dsimp only; omega), HMr, HJr⟩, by simp [intOf]; omega⟩
      · have hpA := hp.1 h0
        obtain ⟨B1, O1, e1, _⟩ := hpA
        dsimp only at e1
        subst e1
        have hs : sl qs (fun _ => 0) i = .slice (some ⟨B1, O1, none⟩) li.length ci := by
         rw [sl_of (by rw [← HQ.out])]
         rw [← HQ.out]
         simp
        have hcall := rest_yes W.heap.size W.heap.size n' li.length (some ⟨B1, O1, none⟩) ci v (sl qs fun _ => 0) f i (ah (rsOf qs) fun _ => 0) (RL W qs) (Ok qs fun _ => 0) wr HMr.out (by omega) HF.out.hp HR.out (ord_runs W qs _)
         (fun j hj => by have := (HF.out.mem _).1 ⟨j, hj, rfl⟩; exact ⟨by omega, this.2⟩) ⟨hlt, by rw [← HQ.out]; exact h0⟩ (Nat.le_of_lt HMr.out.h.lt) hs h0 (by omega)
        clear hs
        gi_wp2_with (refine ⟨trivial, (fun h => nomatch h), ?_⟩; refine (callsIn_wide.2 hcall).mono ?_; rintro e w1 ⟨rfl, v', g, hm1, hp1, hin1, hinj1, hk1, ho1⟩)
        have hinj : Inj g (n' + 1) := hinj1 HF.out.inj fun h => by have := ((HF.out.mem i).1 h).1; omega
        exact ⟨⟨i + 1, n' + 1, g, v', by go_num, by omega, by omega, HF.out.more (by rw [← HQ.out]; exact h0) hp1 hin1 hinj, hm1, HJ.out _ _ _ _ _ HJr.out hk1 fun b e => ⟨hm1.old b e, ho1 b e⟩⟩, by simp [intOf]; omega⟩
    · obtain rfl : i = qs.length := by omega
      have hltz : ¬ (qs.length : Int) < (qs.length : Int) := by omega
      gi_wp2
      refine wpIn_wide.2 ?_
      go_step3
      rename_i hK1 hK2
      refine hK2 _ _ (NX.out (sr (rsOf qs).flatten).length _ _ ⟨[], fun _ => 0, f, n', v, _, _, _, _, _, _, _, _, _, _, _, _, _, _, _, _, _, _, _, _, _, _, _, _, _, _, _, _, _, _, _, _, _, _, _, _, _, _, _, _, rfl, HF.out.full, hn', HMr, HJr, rfl⟩)
 · rintro k a' w' ⟨pre, d, f, n', v, u5, u6, u7, u8, u9, u10, u11, u12, u13, u14, u15, u16, u17, u18, u19, u20, u21, u22, u23, u24, u25, u26, u27, u28, u29, u30, u31, u32, u33, u34, u35, u36, u37, u38, u39, u40, u41, u42, u43, u2, hk, hmm, hn', hm, hj, rfl⟩
   have HMM := Lib.hid hmm; have HMr := Lib.hid hm; have HJr := Lib.hid hj; have HLK := Lib.hid hk
   have HMx := Lib.hid (HM'.out _ _ _ hj)
   have HR : Hid (RL W qs w') := RL.of HW.out.2 HMx.out.2
   have hkl := HK.out.k
   clear hk hmm hm hj hbx
   rcases Nat.eq_zero_or_pos n' with h0 | h0
   · subst h0
     have hcall := take_none W.heap.size W.heap.size v (sl qs d) f w' HMr.out
     gi_wp2_with (first
      | (refine ⟨trivial, (fun h => nomatch h), ?_⟩; refine (callsIn_wide.2 hcall).mono ?_; rintro e w1 ⟨rfl, hb1⟩)
      | (refine ⟨trivial, ?_⟩))
     refine ⟨(by intro _ h; cases h), ?_⟩
     gi_wp2
     simp only [Exit.jump]
     go_end0
     have hj1 := HJ.out _ _ _ _ _ HJr.out ((Below.kp (hO W.heap.size v) hb1).alloc (.cells #[.int .i64 0, .slice none 0 0] 78)) fun b e => ⟨by have := HMr.out.old b e; have := hb1.size; rw [World.size_alloc]; omega, .inl e⟩
     exact ⟨⟨_, rfl⟩, .inl ⟨pre, HMM.out.done, _, hj1⟩⟩
   · obtain ⟨m, rfl⟩ : ∃ m, n' = m + 1 := ⟨n' - 1, by omega⟩
     obtain ⟨r0, hr0⟩ : ∃ r, r = f 0 := ⟨_, rfl⟩
     have hok := HMM.out.ok 0 (Nat.succ_pos m)
     rw [← hr0] at hok
     have HOK := Lib.hid hok
     obtain ⟨B, O, eB, _, _⟩ := HR.out r0 hok.1 (d r0) 0 _ hok.2 rfl
     have hs := sl_of (d := d) eB
     have hcall := take_any W.heap.size W.heap.size m v (sl qs d) f (ah (rsOf qs) d) (RL W qs) (Ok qs d) w' HMr.out (by omega) HMM.out.hp HR.out (ord_runs W qs d) HMM.out.ok (Nat.le_of_lt HMr.out.h.lt)
     unfold TakeQ at hcall
     rw [← hr0, hs] at hcall
     have HR0 := Lib.hid hr0
     have HQN := Lib.hid (HK.out.n r0 hok.1)
     have HQX := Lib.hid (HK.out.x r0 hok.1)
     have HS := Lib.hid hs
     have HEB := Lib.hid eB
     have hdl := hok.2
     have hln : (qd qs r0).2.2.length ≤ 1000000 := HQN.out.1
     have hlc : (qd qs r0).2.2.length ≤ (qd qs r0).2.1 := HQN.out.2
     clear hs hok eB hr0 h0
     have HRC : Hid (∀ X, RL W qs X → ∀ j u, (pcl (pd (qd qs r0).2.2 (d r0)))[j]? = some u → X.cell? ⟨B, O + d r0 * 6 + j, none⟩ = some u) := fun X hX j u hu => by
      obtain ⟨B', O', e, _, h⟩ := hX r0 HOK.out.1 (d r0) j u HOK.out.2 hu
      rw [HEB.out] at e
      simp only [Option.some.injEq, Addr.mk.injEq, and_true] at e
      obtain ⟨rfl, rfl⟩ := e
      exact h
     have HPX := Lib.hid (HQX.out _ (pd_mem hdl))
     have HPD : Hid (hd (rsOf qs) d r0 = pd (qd qs r0).2.2 (d r0)) := hd_qs qs d r0
     generalize pd (qd qs r0).2.2 (d r0) = p at *
     obtain ⟨ln, hln'⟩ : ∃ x, x = (qd qs r0).2.2.length := ⟨_, rfl⟩
     have HLN := Lib.hid hln'
     rw [← hln'] at hdl hln hlc hcall HS
     clear hln'
     obtain ⟨cp, hcp⟩ : ∃ x, x = (qd qs r0).2.1 := ⟨_, rfl⟩
     have HCP := Lib.hid hcp
     rw [← hcp] at hlc hcall HS
     clear hcp
     obtain ⟨y, hy⟩ : ∃ y, ln - d r0 = y := ⟨_, rfl⟩
     obtain ⟨z, hz⟩ : ∃ z, cp - d r0 = z := ⟨_, rfl⟩
     rw [hy, hz] at hcall HS
     have hy0 : 0 < y := by omega
     have hyz : y ≤ z := by omega
     have hym : y ≤ 1000000 := by omega
     have hy0z : (0 : Int) < (y : Int) := by omega
     have HYZ := Lib.hid (show ln = d r0 + y ∧ cp = d r0 + z by omega)
     clear hdl hln hlc hy hz
     obtain ⟨o, ho⟩ : ∃ o, o = O + d r0 * 6 := ⟨_, rfl⟩
     rw [← ho] at hcall HS HRC
     have HOO := Lib.hid ho
     clear ho
     obtain ⟨pk, pv⟩ := p
     obtain ⟨vk, vn, vs, vx, vy⟩ := pv
     have HC := Lib.hid (fun X => ownPair_any (pk, ⟨vk, vn, vs, vx, vy⟩) X HPX.out.1 HPX.out.2)
     unfold pcl at HC
     dsimp only at HC
     have hnext := HMM.out.next HK.out.o
     rw [← HR0.out, HPD.out] at hnext
     have HFX : Hid (∃ rest, sr (rsOf qs).flatten = pre ++ ((pk, ⟨vk, vn, vs, vx, vy⟩) : Pr) :: rest) := ⟨sr (lft (rsOf qs) (nx d r0) qs.length), by rw [hnext, List.append_assoc]; rfl⟩
     have HFY : Hid (sr (rsOf qs).flatten = (pre ++ [((pk, ⟨vk, vn, vs, vx, vy⟩) : Pr)]) ++ sr (lft (rsOf qs) (nx d r0) qs.length)) := hnext
     clear hnext
     have HYK : Hid (∀ O X, J pre O X → ∃ fn tmps assign body, (Instr.yield L #[.agg #[.string (tx pk), .int .i64 vk, .int .i64 vn, .string (tx vs), .int .i64 vx, .int .i64 vy]]).run Try.prog X = .ok (.round L fn tmps assign body) X ∧
      RoundIn Fence.wide (n - 1) Try.prog L fn tmps assign body X fun e Y => ∃ b : Bool, e = .returned (.bool b) ∧ ((b = true ∧ Hid (J (pre ++ [(pk, ⟨vk, vn, vs, vx, vy⟩)]) O Y ∧ ∀ b, O b → b < X.heap.size → Y.heap[b]? = X.heap[b]?)) ∨ (b = false ∧ Hid (Jx (pre ++ [(pk, ⟨vk, vn, vs, vx, vy⟩)]) Y)))) := fun O X hj => by
      obtain ⟨fn, tmps, assign, body, hy, hR⟩ := HY.out pre (pk, ⟨vk, vn, vs, vx, vy⟩) O X hj HFX.out
      refine ⟨fn, tmps, assign, body, hy, hR.mono fun e Y h => ?_⟩
      rcases h with ⟨rfl, h⟩ | ⟨rfl, h⟩
      · exact ⟨true, rfl, .inl ⟨rfl, h⟩⟩
      · exact ⟨false, rfl, .inr ⟨rfl, h⟩⟩
     gi_wp2_with (first
      | (refine ⟨trivial, (fun h => nomatch h), ?_⟩; refine (callsIn_wide.2 hcall).mono ?_; rintro e w1 ⟨rfl, v', g, hm1, hp1, hin1, hk1, hv1⟩
         have hx0 := (RL.keep HR.out (hk1.below HMr.out.low (Nat.le_of_lt HMr.out.h.lt)))
         have hx1 := RL.keep hx0 ((box1 w1 (.cells #[.int .i64 r0, .slice (some ⟨B, o, none⟩) y z] 78)).mono (Nat.le_trans (Nat.le_of_lt HMr.out.h.lt) hk1.size))
         have k0 := HRC.out _ hx1 0 _ rfl; have k1 := HRC.out _ hx1 1 _ rfl; have k2 := HRC.out _ hx1 2 _ rfl; have k3 := HRC.out _ hx1 3 _ rfl; have k4 := HRC.out _ hx1 4 _ rfl; have k5 := HRC.out _ hx1 5 _ rfl
         dsimp only at k0 k1 k2 k3 k4 k5
         rw [Nat.add_zero] at k0)
      | (refine ⟨trivial, (fun h => nomatch h), ?_⟩; refine (callsIn_wide.2 (HC.out _)).mono ?_; rintro e w2 ⟨rfl, hb2⟩
         have hj2 := HJ.out pre (hO W.heap.size v) (fun b => hO W.heap.size v' b ∨ b = w1.heap.size) w' w2 HJr.out ((hk1.alloc (.cells #[.int .i64 r0, .slice (some ⟨B, o, none⟩) y z] 78)).next hb2) (fun b e => by
          have hz := hb2.size
          rw [World.size_alloc] at hz
          rcases e with e | e
          · have h2 := hm1.old b e
            refine ⟨by omega, ?_⟩
            rcases e with e | e
            · exact .inl (.inl e)
            · rw [hv1] at e; exact .inl (.inr e)
          · subst e; exact ⟨by omega, .inr hk1.size⟩)
         obtain ⟨fn, tmps, assign, body, hyy, hR⟩ := HYK.out _ w2 hj2)
      | (refine ⟨(fun h => nomatch h), ?_⟩; refine hR.mono ?_; rintro e w4 ⟨b, rfl, hor⟩))
     case' _ =>
      rename_i hbt K hKK
      rcases hor with ⟨_, hj4⟩ | ⟨hbf, _⟩
      case' inr => rw [hbt] at hbf; cases hbf
      obtain ⟨hj4, hkeep⟩ := hj4.out
      have hmx2 := (hm1.next (box1 w1 (.cells #[.int .i64 r0, .slice (some ⟨B, o, none⟩) y z] 78))).next hb2
      have hm4 := hmx2.same fun b hb hl => hkeep b (.inl hb) hl
      have hb7 := (Blk.made w1 78 [.int .i64 r0, .slice (some ⟨B, o, none⟩) y z] rfl).next hb2
      have hc7 := hb7.same (hkeep _ (.inr rfl) hb7.lt)
      have H7O : Hid (∀ b, hO W.heap.size v' b ∨ b = w1.heap.size → b < w4.heap.size) := fun b e => by
       rcases e with e | e
       · exact hm4.old b e
       · subst e; exact hc7.lt
      have hr4 : RL W qs w4 := RL.of HW.out.2 (HM'.out _ _ _ hj4).2
      have hin2 := hin1 HMM.out.inj
      have hne : ∀ i, i < m → g i ≠ r0 := fun i hi => by
       have := ((hin2.1 (g i)).1 ⟨i, hi, rfl⟩).2
       exact this
      have hm5 : HM w4 W.heap.size W.heap.size v' (sl qs (nx d r0)) g m := hm4.resl fun i hi => by
       unfold sl
       rw [show nx d r0 (g i) = d (g i) from if_neg (hne i hi)]
      have hhp : Hp (ah (rsOf qs) (nx d r0)) g m := hp_congr hp1 fun i j hi hj => ah_nx _ _ _ _ _ (hne i hi) (hne j hj)
      have hqk : ∀ i, i < m → Ok qs (nx d r0) (g i) := fun i hi => by
       have h1 := (HMM.out.mem _).1 ((hin2.1 (g i)).1 ⟨i, hi, rfl⟩).1
       refine ⟨h1.1, ?_⟩
       rw [show nx d r0 (g i) = d (g i) from if_neg (hne i hi)]; exact h1.2
      have x70 := fun q : Over w4 => over_cell q (hc7.c 0 _ rfl)
      have x71 := fun q : Over w4 => over_cell q (hc7.c 1 _ rfl)
      have HR4 := Lib.hid hr4; have HIN2 := Lib.hid hin2; have HM5 := Lib.hid hm5; have HHP := Lib.hid hhp; have HQK := Lib.hid hqk; have HJ4 := Lib.hid hj4; have HKK := Lib.hid hKK; have HP1 := Lib.hid hp1
      clear hr4 hin2 hne hm5 hhp hqk hj4 hkeep hmx2 hm4 hb7 hc7 hKK hp1 hin1 hm1 hk1 hv1 hb2
      obtain ⟨y', rfl⟩ : ∃ y', y = y' + 1 := ⟨y - 1, by omega⟩
      obtain ⟨z', rfl⟩ : ∃ z', z = z' + 1 := ⟨z - 1, by omega⟩
      have hyz1 : (1 : Int) ≤ (y' : Int) + 1 := by omega
      have hyz2 : (y' : Int) + 1 ≤ (z' : Int) + 1 := by omega
      refine wpIn_wide.2 ?_
      refine wp_over_tail 6 (by kernel_rfl) (by kernel_rfl) ?_
      simp only [List.take_succ_cons, List.take_zero, List.drop_succ_cons, List.drop_zero]
      repeat (go_big_quiet_step (first | fail))
      refine wpQuiet_nil ?_
      rintro w5 ⟨⟨w5, hb5⟩, rfl⟩
      have hWs : W.heap.size ≤ w4.heap.size := Nat.le_of_lt HM5.out.h.lt
      have HR5 := Lib.hid (RL.keep HR4.out (hb5.mono hWs))
      have HM6 := Lib.hid (HM5.out.next hb5)
      have HJ5 := Lib.hid (HJ.out _ _ _ _ _ HJ4.out (Below.kp (fun b => hO W.heap.size v' b ∨ b = w1.heap.size) hb5) fun b e => ⟨by have := hb5.size; have := H7O.out b e; omega, .inl e⟩)
      have HLO := Lib.hid (Nat.le_trans hWs hb5.size)
      have enx : nx d r0 r0 = d r0 + 1 := if_pos rfl
      have HENX := Lib.hid enx
      have HX0 : Hid (∀ x, In g m x ↔ In f (m + 1) x ∧ x ≠ f 0) := by have := HIN2.out.1; rw [HR0.out] at this; exact this
      have HTOT : Hid (k - 1 + (pre.length + 1) = (sr (rsOf qs).flatten).length ∧ 0 < k) := by
       have h1 := HLK.out
       have h2 := congrArg List.length HFY.out
       rw [List.length_append, List.length_append] at h2
       show _ ∧ _
       simp only [List.length_cons, List.length_nil] at h2
       omega
      clear x70 x71 hb5 HR4 HM5 HJ4 enx hWs
      rcases Nat.eq_zero_or_pos y' with hy' | hy'
      · subst hy'
        generalize (if z' = 0 then some (⟨B, o, none⟩ : Addr) else some ⟨B, o + 6, none⟩) = A9
        have hcall := rest_no W.heap.size r0 A9 z' w5
        go_wp2_with (fail)
        refine hcall.mono ?_
        rintro e w6 ⟨rfl, rfl⟩
        go_wp2_with (fail)
        refine HKK.out _ _ (wpIn_wide.2 ?_)
        go_step3
        refine ⟨rfl, k - 1, Nat.sub_lt HTOT.out.2 (Nat.lt_succ_self 0), ⟨pre ++ [(pk, ⟨vk, vn, vs, vx, vy⟩)], nx d r0, g, m, v', _, _, _, _, _, _, _, _, _, _, _, _, _, _, _, _, _, _, _, _, _, _, _, _, _, _, _, _, _, _, _, _, _, _, _, _, _, _, _, _, ?_, ?_, by omega, HM6.out, HJ.out _ _ _ _ _ HJ5.out (Kp.refl _ _) (fun b e => ⟨HM6.out.old b e, .inl (.inl e)⟩), rfl⟩⟩
        · rw [List.length_append]; exact HTOT.out.1
        · have h := HMM.out.step (m := m) (g' := g) HK.out.o HX0.out (.inl ⟨by rw [← HR0.out, ← HLN.out]; have := HYZ.out.1; omega, rfl, rfl, HP1.out, HIN2.out.2⟩)
          rw [← HR0.out, HPD.out] at h
          exact h
      · have hz' : ¬ z' = 0 := by omega
        rw [if_neg hz']
        have hs : sl qs (nx d r0) r0 = .slice (some ⟨B, o + 6, none⟩) y' z' := by
         rw [sl_of HEB.out, HENX.out, ← HLN.out, ← HCP.out, HOO.out]
         have h1 := HYZ.out.1; have h2 := HYZ.out.2
         rw [show ln - (d r0 + 1) = y' by omega, show cp - (d r0 + 1) = z' by omega, show O + (d r0 + 1) * 6 = O + d r0 * 6 + 6 by omega]
        have hcall := rest_yes W.heap.size W.heap.size m y' (some ⟨B, o + 6, none⟩) z' v' (sl qs (nx d r0)) g r0 (ah (rsOf qs) (nx d r0)) (RL W qs) (Ok qs (nx d r0)) w5 HM6.out (by omega) HHP.out HR5.out (ord_runs W qs _) HQK.out
         ⟨HOK.out.1, by rw [HENX.out, ← HLN.out]; have := HYZ.out.1; omega⟩ HLO.out hs hy' (by omega)
        clear hs
        go_wp2_with (fail)
        refine hcall.mono ?_
        rintro e w6 ⟨rfl, v2, g2, hm6, hp6, hin6, hinj6, hk6, ho6⟩
        have HJ6 := Lib.hid (HJ.out _ _ (hO W.heap.size v2) _ _ HJ5.out (hk6.mono fun b e => .inl e) fun b e => ⟨hm6.old b e, (ho6 b e).imp .inl id⟩)
        have HM7 := Lib.hid hm6; have HP6 := Lib.hid hp6; have HIN6 := Lib.hid hin6; have HINJ6 := Lib.hid hinj6
        clear hm6 hp6 hin6 hinj6 hk6 ho6 hcall
        go_wp2_with (fail)
        refine HKK.out _ _ (wpIn_wide.2 ?_)
        go_step3
        refine ⟨rfl, k - 1, Nat.sub_lt HTOT.out.2 (Nat.lt_succ_self 0), ⟨pre ++ [(pk, ⟨vk, vn, vs, vx, vy⟩)], nx d r0, g2, m + 1, v2, _, _, _, _, _, _, _, _, _, _, _, _, _, _, _, _, _, _, _, _, _, _, _, _, _, _, _, _, _, _, _, _, _, _, _, _, _, _, _, _, ?_, ?_, hn', HM7.out, HJ6.out, rfl⟩⟩
        · rw [List.length_append]; exact HTOT.out.1
        · have h := HMM.out.step (m := m + 1) (g' := g2) HK.out.o HX0.out (.inr ⟨by rw [← HR0.out, ← HLN.out]; have := HYZ.out.1; omega, rfl, by rw [← HR0.out]; exact HP6.out, by rw [← HR0.out]; exact HIN6.out, HINJ6.out HIN2.out.2 (fun e => ((HIN2.out.1 r0).1 e).2 rfl)⟩)
          rw [← HR0.out, HPD.out] at h
          exact h
     rename_i hbf
     rcases hor with ⟨hbt, _⟩ | ⟨_, hj⟩
     · rw [hbf] at hbt; cases hbt
     simp only [Exit.jump]
     go_end0
     exact ⟨⟨_, rfl⟩, .inr ⟨_, ⟨sr (lft (rsOf qs) (nx d r0) qs.length), by rw [HFY.out]⟩, hj.out⟩⟩
end Go.Proofs.Ytamhfjlffacakaa.So

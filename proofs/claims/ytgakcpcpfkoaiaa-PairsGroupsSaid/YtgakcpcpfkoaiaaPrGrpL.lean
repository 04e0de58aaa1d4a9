/-
  PairsGroups, walked.
-/
import Derived.Test.YtgakcpcpfkoaiaaPrGroups
import Derived.Test.YtgakcpcpfkoaiaaOvRnq
import Derived.Sort.CutIn
namespace Go.Proofs.Ytgakcpcpfkoaiaa.Pr
open Go.ChangeShapes Go.WideShapes Go.ChangeAt Go.RowKit Go.Sort Go.Shelf Go.Proofs Go.Proofs.Ytgakcpcpfkoaiaa.Ov Go.Proofs.Ytgakcpcpfkoaiaa.Va Go.Proofs.Ytgakcpcpfkoaiaa.St

set_option maxRecDepth 100000 in
theorem neq_same (v : Va) (w : World) : (binOp .neq 42 (.agg #[.int .i64 v.k, .int .i64 v.n, .string (tx v.s), .int .i64 v.x, .int .i64 v.y]) (.agg #[.int .i64 v.k, .int .i64 v.n, .string (tx v.s), .int .i64 v.x, .int .i64 v.y])).run Try.prog w = .ok (.bool false) w := by
  generalize v.k = a
  generalize v.n = b
  generalize tx v.s = s
  generalize v.x = x
  generalize v.y = y
  have u := Try.underlying3
  have hS : Try.prog.underlying 42 = some (.struct (Try.prog.fieldsOf 42)) := by kernel_rfl
  have hS2 : Try.prog.underlying 40 = some (.struct (Try.prog.fieldsOf 40)) := by kernel_rfl
  have hp : Try.prog.stoodInHeld 42 = false := by kernel_rfl
  have hp2 : Try.prog.stoodInHeld 40 = false := by kernel_rfl
  have hq := fun d xs ys w => run_equalIn_struct (P := Try.prog) w d 40 xs ys hS2 hp2
  rw [run_neq_struct, show (10000 : Nat) = 9999 + 1 from rfl, run_equalIn_struct w 9999 42 _ _ hS hp]
  clear hS hS2 hp hp2
  simp only [Program.fieldsOf, Try.underlying42, Try.underlying40] at hq ⊢
  go_simp
attribute [local go_sem] Oper.semAt_some
set_option maxRecDepth 100000 in
set_option maxHeartbeats 4000000 in
theorem groups_core (A : Option Addr) (c : Nat) (l : List Pr) (stop : Int) (w : World) (h : PIn w (A, c, l)) (hst : 0 ≤ stop ∧ stop ≤ 255) :
    Calls Try.prog 6 #[.slice A l.length c, .int .u8 stop] w (Gives (.bool true) w) := by
  have HI := Lib.hid h; have HST := Lib.hid hst
  clear h hst
  refine (callsIn_wide (n := 9)).1 ?_
  refine callsIn_of_wp_marks Try.func6 rfl trivial ?_ rfl
  simp only [Try.ntmps6, List.size_toArray, List.length_cons, List.length_nil, Nat.reduceAdd, Nat.reduceSub, Array.replicate_succ, Array.replicate_zero, List.push_toArray, List.append_toArray, List.nil_append, List.cons_append]
  have H3 := Lib.hid ((Blk.made w 5 [.int .u8 stop] rfl).old (.cells #[.bool false] 4))
  have H4 := Lib.hid (Blk.made (w.alloc (.cells #[.int .u8 stop] 5)) 4 [.bool false] (World.size_alloc _ _))
  have HB := Lib.hid (box2 w (.cells #[.int .u8 stop] 5) (.cells #[.bool false] 4))
  gi_wp2
  generalize (w.alloc (.cells #[.int .u8 stop] 5)).alloc (.cells #[.bool false] 4) = w0 at *
  obtain ⟨b3, hb3⟩ : ∃ b, b = w.heap.size := ⟨_, rfl⟩
  obtain ⟨b4, hb4⟩ : ∃ b, b = w.heap.size + 1 := ⟨_, rfl⟩
  rw [← hb4] at H4 ⊢
  rw [← hb3] at H3 ⊢
  have H34 := Lib.hid (show b4 ≠ b3 ∧ w.heap.size ≤ b3 ∧ w.heap.size ≤ b4 by omega)
  clear hb3 hb4
  gi_wp2_with (refine ⟨trivial, ?_⟩; refine (callsIn_wide.2 (awake_any _)).mono ?_; rintro e a1 ⟨rfl, hb⟩; replace H3 := Lib.hid (H3.out.next hb); replace H4 := Lib.hid (H4.out.next hb); replace HB := Lib.hid (Below.next HB.out hb); clear hb)
  have hsm := small_any A c l a1 ((HI.out.next HB.out).1)
  gi_wp2_with (refine ⟨trivial, ?_⟩; refine (callsIn_wide.2 hsm).mono ?_; rintro e a2 ⟨q, rfl, hb, hq⟩; have HB42 := Lib.hid (show b3 < a2.heap.size ∧ b4 < a2.heap.size from ⟨(H3.out.next hb).lt, (H4.out.next hb).lt⟩); replace H3 := Lib.hid (H3.out.next hb); replace H4 := Lib.hid (H4.out.next hb); replace HB := Lib.hid (Below.next HB.out hb); clear hb hsm; rcases hq with rfl | ⟨rfl, hl, hx⟩)
  · gi_wp2_with (refine ⟨trivial, ?_⟩; refine (callsIn_wide.2 (awake_any _)).mono ?_; rintro e a3 ⟨rfl, hb⟩; replace H3 := Lib.hid (H3.out.next hb); replace H4 := Lib.hid (H4.out.next hb); replace HB := Lib.hid (Below.next HB.out hb); clear hb; have c4 := H4.out.c 0 _ rfl; have f4 := H4.out.f 0 _ rfl)
    have c4' := (H4.out.set 0 (.bool true)).c 0 _ rfl
    exact ⟨.bool true, by simp [results, Try.results6, go_sem, c4'], rfl, HB.out.setCell (p := ⟨b4, 0, none⟩) H34.out.2.2 _⟩
  · have HX : Hid (Tx l) := fun p hp => by have := hx p hp; omega
    clear hx
    have hrs := rsort_prs A c l a2 (HI.out.next HB.out).1 (by omega)
    gi_wp2_with (refine ⟨trivial, ?_⟩; refine (callsIn_wide.2 hrs).mono ?_; rintro e a3 ⟨Am, cm, rfl, hp, hAm, hb⟩; replace H3 := Lib.hid (H3.out.next hb); replace H4 := Lib.hid (H4.out.next hb); replace HB := Lib.hid (Below.next HB.out hb); clear hb hrs)
    have hb4 : b4 < a3.heap.size := H4.out.lt
    have hb33 : b3 < a3.heap.size := H3.out.lt
    have hb42 := HB42.out
    clear HB42
    have HPN := Lib.hid ((hp.apart (s := [b4, a3.heap.size + 1, a3.heap.size + 1 + 1]) (fun B O e _ => by
      have := hAm B O e
      simp only [List.mem_cons, List.not_mem_nil, or_false, not_or]
      omega)).next (box3 a3 (.cells #[.slice Am l.length cm] 22) (.cells #[.int .i64 0] 3) (.cells #[.int .i64 0] 3)))
    clear hp
    have HZ5 := Lib.hid (show a3.heap.size ≤ (((a3.alloc (.cells #[.slice Am l.length cm] 22)).alloc (.cells #[.int .i64 0] 3)).alloc (.cells #[.int .i64 0] 3)).heap.size by simp only [World.size_alloc]; omega)
    have H5 := Lib.hid (((Blk.made a3 22 [.slice Am l.length cm] rfl).old (.cells #[.int .i64 0] 3)).old (.cells #[.int .i64 0] 3))
    have H6 := Lib.hid ((Blk.made (a3.alloc (.cells #[.slice Am l.length cm] 22)) 3 [.int .i64 0] (World.size_alloc _ _)).old (.cells #[.int .i64 0] 3))
    have H7 := Lib.hid (Blk.made ((a3.alloc (.cells #[.slice Am l.length cm] 22)).alloc (.cells #[.int .i64 0] 3)) 3 [.int .i64 0] (by rw [World.size_alloc, World.size_alloc]))
    have hb3 := box3 a3 (.cells #[.slice Am l.length cm] 22) (.cells #[.int .i64 0] 3) (.cells #[.int .i64 0] 3)
    replace H3 := Lib.hid (H3.out.next hb3)
    replace H4 := Lib.hid (H4.out.next hb3)
    have HW5 := Lib.hid (Nat.le_trans HB.out.size (Nat.le_refl _))
    replace HB := Lib.hid (Below.next HB.out hb3)
    clear hb3
    generalize ((a3.alloc (.cells #[.slice Am l.length cm] 22)).alloc (.cells #[.int .i64 0] 3)).alloc (.cells #[.int .i64 0] 3) = w5 at *
    obtain ⟨b5, e5⟩ : ∃ b, b = a3.heap.size := ⟨_, rfl⟩
    obtain ⟨b6, e6⟩ : ∃ b, b = a3.heap.size + 1 := ⟨_, rfl⟩
    obtain ⟨b7, e7⟩ : ∃ b, b = a3.heap.size + 1 + 1 := ⟨_, rfl⟩
    rw [← e7, ← e6] at HPN
    rw [← e5] at H5
    rw [← e6] at H6
    rw [← e7] at H7
    rw [← e7, ← e6, ← e5]
    have HN := Lib.hid (show b4 < b5 ∧ b5 < b6 ∧ b6 < b7 ∧ b3 ≠ b4 ∧ b3 < b5 ∧ w.heap.size ≤ b3 ∧ w.heap.size ≤ b4 ∧ w.heap.size ≤ b5 by
      have h1 := H34.out; have h2 := HW5.out
      have h3 := hb42
      refine ⟨by omega, by omega, by omega, by omega, by omega, h1.2.1, h1.2.2, by omega⟩)
    clear e5 e6 e7 hb4 hb33 hb42 H34 HW5
    have hgr := groups_any A c l w5 (HI.out.next HB.out) (by omega) HX.out
    gi_wp2_with (refine ⟨trivial, ?_⟩; refine (callsIn_wide.2 hgr).mono ?_; rintro e w6 ⟨bx, A1, c1, rfl, hbx, hK, hc1, hO, hb⟩)
    clear hgr
    obtain ⟨Q, hQ⟩ : ∃ q : Bx, q = ⟨b3, b4, b5, b6, b7, bx, Am, A1, cm, c1, stop⟩ := ⟨_, rfl⟩
    have hlow : Lo w6.heap.size w Q (sr l) := by
      rw [hQ]
      have a1 := H3.out.lt; have a2 := H4.out.lt; have a3 := H5.out.lt; have a4 := H6.out.lt; have a5 := H7.out.lt; have a6 := hK.lt; have a7 := hb.size; have a8 := HN.out; have a9 := HB.out.size
      refine ⟨by dsimp only; omega, by dsimp only; omega, by dsimp only; omega, by dsimp only; omega, by dsimp only; omega, a6, ?_, ?_, by dsimp only; omega, by dsimp only; omega, by dsimp only; omega, by dsimp only; omega, ?_, by omega⟩
      · intro B O e; have := (hAm B O e).2; have h1 := HZ5.out; have h2 := hb.size; omega
      · intro B O e; exact hO.lt B O e
      · dsimp only; refine ⟨?_, ?_, ?_, ?_, ?_, ?_, ?_, ?_, ?_, ?_, ?_, ?_⟩ <;> omega
    have hg0 : GI w Q (sr l) [] w6 := by
      rw [hQ]
      refine ⟨H3.out.next hb, H4.out.next hb, by rw [sr_len]; exact H5.out.next hb, H6.out.next hb, H7.out.next hb, HPN.out.next hb, hK, ?_, Below.next HB.out hb⟩
      have h1 := H4.out.lt; have h2 := H6.out.lt; have h3 := H7.out.lt
      exact hO.prsN (fun b hb => by
        simp only [List.mem_cons, List.not_mem_nil, or_false] at hb
        omega)
    have HG0 := Lib.hid hg0; have HLO := Lib.hid hlow; have HC1 := Lib.hid hc1
    have hlL : (sr l).length = l.length := sr_len l
    have HLL := Lib.hid hlL
    have HTX : Hid (Tx (sr l)) := fun p hp => HX.out p ((sr_mem l p).1 hp)
    clear hg0 hlow hc1 hlL hAm HZ5 H3 H4 H5 H6 H7 HPN hK hO hb HB HN hbx
    refine wpIn_rng (F := Fence.wide) (M := Mg bx A1 c1 (sr l)) (Fx := Fg (sr l)) (S := fun xs => Took (sr l) xs []) (Sp := fun pre => ∃ rest, Took (sr l) pre rest) rfl (by decide) (gf := 36) (lb := #[.pointer (some ⟨bx, 0, none⟩)]) rfl trivial (enters_of Try.func36 (by kernel_rfl) rfl)
      (groups1_its bx A1 c1 (sr l) (by rw [HLL.out]; omega) HC1.out HTX.out 8) (fun _ => rfl)
      (fun pre W => GI w Q (sr l) pre W) (fun _ W => Blk W b4 [.bool true] ∧ Below w.heap.size w W)
      (fun s X Y h k => h.upto HLO.out k) (fun s X Y h k => ⟨blk_upto h.1 k (by have := HLO.out.h4; rw [hQ] at this; exact this), h.2.trans (k.mono HLO.out.hn)⟩)
      (fun s X h => by rw [hQ] at h; exact ⟨h.hx.c 0 _ rfl, h.hl.prs⟩) HG0.out
      (fun pre x X l o o' h hl ho => ⟨fun i j v hi hv => cell_kept (h.1 i j v hi hv) (grownBy_putObj' X l o') (fun r e => by cases e; exact ⟨o, hl, ho⟩), h.2⟩)
      (fun x => { tmps := #[.slice A l.length c, .int .u8 stop, undef, .pointer (some ⟨b3, 0, none⟩), .pointer (some ⟨b4, 0, none⟩), .pointer (some ⟨b5, 0, none⟩), .pointer (some ⟨b6, 0, none⟩), .pointer (some ⟨b7, 0, none⟩), .string (tx x.1), .slice (some ⟨x.2.1, 0, none⟩) x.2.2.length x.2.2.length, undef, .bool true, .bool false, .bool false, .slice A l.length c, .int .i64 1, .bool false, .bool false, undef, .slice A l.length c, .slice Am l.length cm, .slice A l.length c, .func (.func 36) #[] #[.pointer (some ⟨bx, 0, none⟩)], .string (tx x.1), .slice (some ⟨x.2.1, 0, none⟩) x.2.2.length x.2.2.length, undef, undef, undef, undef, undef, undef, undef, undef, undef, undef, undef, undef, undef, undef, undef, undef, undef, undef, undef, undef, undef, undef, undef, undef, undef, undef, undef, undef, undef, undef, undef, undef, undef, undef, undef, undef, undef, undef, undef, undef, undef, undef, undef, undef, undef, undef, undef, undef, undef, undef, undef, undef, undef, undef, undef, undef, undef, undef, undef, undef, undef, undef, undef, undef, undef, undef, undef, undef, undef], defers := [] }) ?assign ?body ?done ?stop
    case assign =>
      intro L x W K hK
      unfold enG
      gi_wp2
      exact hK
    case body =>
      rintro L pre ⟨xk, xg, xv⟩ W hW hI ⟨hv, rest, k, hT, hk, hx1, hx2⟩
      have HW := Lib.hid hW
      have htk := took_at hT
      have hpl := pre_len hT
      have HNEXT : Hid (∀ g, Took (sr l) (pre ++ [((pd rest 0).1, g, (rest.take k).map (·.2))]) (rest.drop k)) := fun g => Took.snoc hT hk
      dsimp only at hv hx1 hx2 ⊢
      have hlen : xv.length = k := by rw [hx2]; exact grp_len hk
      rw [hlen]
      have HI2 := Lib.hid hI
      rw [hQ] at hI
      have c3 : W.cell? ⟨b3, 0, none⟩ = some (.int .u8 stop) := hI.h3.c 0 _ rfl
      have c4 : W.cell? ⟨b4, 0, none⟩ = some (.bool false) := hI.h4.c 0 _ rfl
      have c5 : W.cell? ⟨b5, 0, none⟩ = some (.slice Am l.length cm) := by rw [← HLL.out]; exact hI.h5.c 0 _ rfl
      have c6 : W.cell? ⟨b6, 0, none⟩ = some (.int .i64 (tot pre : Nat)) := hI.h6.c 0 _ rfl
      have hmP : Prs W Am (sr l) := hI.hm.prs
      have hk0 := hk.1
      have hkr := hk.2.1
      have hrl : rest.length = l.length - tot pre := by rw [htk.1, List.length_drop, HLL.out]
      have htl : tot pre ≤ l.length := by rw [← HLL.out]; exact htk.2.1
      obtain ⟨Bm, Om, rfl⟩ := hmP.shape (by rw [HLL.out]; omega)
      have HMP := Lib.hid hmP
      have HED := Lib.hid htk.2.2
      have HKEY : Hid (∀ j, j < k → (pd (sr l) (tot pre + j)).1 = xk ∧ (pd (sr l) (tot pre + j)).2 = vd xv j) := fun j hj => by
        have e1 := hk.2.2.1 j hj
        rw [htk.1, pd_drop, pd_drop] at e1
        refine ⟨by rw [e1, hx1, htk.1, pd_drop], ?_⟩
        unfold vd
        rw [hx2, List.getElem?_map, List.getElem?_take, if_pos hj, htk.1, List.getElem?_drop]
        have hb : tot pre + j < (sr l).length := by rw [HLL.out]; omega
        rw [List.getElem?_eq_getElem hb, pd_at hb]; rfl
      have HV := Lib.hid hv; have HX1 := Lib.hid hx1; have HX2 := Lib.hid hx2; have HTL := Lib.hid (show tot pre + k ≤ l.length by omega)
      have HPL := Lib.hid hpl; have HLEN := Lib.hid hlen; have HK := Lib.hid hk
      clear hv hx1 hx2 hT hk hpl hI hlen hmP hkr hrl htl htk hW
      have hkb : ((k : Int) == 0) = false := by simp; omega
      have htkl := HTL.out
      obtain ⟨t, ht⟩ : ∃ t, t = tot pre := ⟨_, rfl⟩
      rw [← ht] at c6 HTL HKEY htkl HED
      have HT := Lib.hid ht
      clear ht
      have hgt : ¬ l.length < t + k := by omega
      have hgtz : decide ((l.length : Int) < (t : Int) + (k : Int)) = false := decide_eq_false (by omega)
      have hgtd : decide (l.length < t + k) = false := decide_eq_false (by omega)
      by_cases h0 : 0 < t
      case' neg =>
        have h0d : decide (0 < t) = false := decide_eq_false h0
        have h0z : decide ((0 : Int) < (t : Int)) = false := decide_eq_false (by omega)
        generalize hsk : tx xk = sk at *
        have HSK := Lib.hid hsk
        clear hsk
        gi_wp2
        clear h0d h0z h0
      case' pos =>
        obtain ⟨u, rfl⟩ : ∃ u, t = u + 1 := ⟨t - 1, by omega⟩
        have cu := HMP.out.cell (i := u) (by rw [HLL.out]; omega) 0 _ rfl
        rw [Nat.add_zero] at cu
        have hne := tx_ne (a := (pd (sr l) u).1) (b := xk) (by
          have e1 := HED.out h0 (by rw [HLL.out]; omega)
          rw [Nat.add_sub_cancel] at e1
          have e2 := (HKEY.out 0 (by omega)).1
          rw [Nat.add_zero] at e2
          rwa [e2] at e1)
        have hu1 : (u : Int) < (l.length : Int) := by omega
        have e2 : ((u + 1 : Nat) : Int) - 1 = (u : Int) := by omega
        have h0d : decide (0 < u + 1) = true := decide_eq_true h0
        have h0z : decide ((0 : Int) < ((u + 1 : Nat) : Int)) = true := decide_eq_true (by omega)
        generalize tx (pd (sr l) u).1 = su at *
        generalize hsk : tx xk = sk at *
        have HSK := Lib.hid hsk
        clear hsk
        gi_wp2
        clear cu hne hu1 e2 h0d h0z h0
        generalize htu : u + 1 = t at *
        clear htu
      all_goals
        clear hgt hgtz hgtd hkb
        gi_loopw [10] (fun s10 wr => ∃ i q : Nat, i ≤ k ∧ s10 = .int .i64 i ∧ wr = W.drewN q) (fun s10 _ => k - (intOf s10).toNat)
        case atStart => exact ⟨0, 0, Nat.zero_le _, rfl, rfl⟩
        case round =>
          obtain ⟨i, q, hik, rfl, rfl⟩ := hrel
          have d5 : (W.drewN q).cell? ⟨b5, 0, none⟩ = _ := c5
          have d6 : (W.drewN q).cell? ⟨b6, 0, none⟩ = _ := c6
          by_cases hlt : i < k
          · have hltz : (i : Int) < (k : Int) := by omega
            have hm : Prs (W.drewN q) (some ⟨Bm, Om, none⟩) (sr l) := HMP.out
            have hti : t + i < (sr l).length := by rw [HLL.out]; omega
            have m0 := hm.cell hti 0 _ rfl
            have m1 := hm.cell hti 1 _ rfl
            have m2 := hm.cell hti 2 _ rfl
            have m3 := hm.cell hti 3 _ rfl
            have m4 := hm.cell hti 4 _ rfl
            have m5 := hm.cell hti 5 _ rfl
            obtain ⟨k1, k2⟩ := HKEY.out i hlt
            rw [k1, HSK.out, Nat.add_zero] at m0
            rw [k2] at m1 m2 m3 m4 m5
            have hv : Vls (W.drewN q) xg xv := HV.out
            have hil : i < xv.length := by rw [HLEN.out]; exact hlt
            have v0 := hv i 0 _ hil rfl
            have v1 := hv i 1 _ hil rfl
            have v2 := hv i 2 _ hil rfl
            have v3 := hv i 3 _ hil rfl
            have v4 := hv i 4 _ hil rfl
            rw [Nat.add_zero] at v0
            have hti1 : ((t : Int) + (i : Int)) < (l.length : Int) := by omega
            have hti2 : t + i < l.length := by omega
            have hti3 : (0 : Int) ≤ (t : Int) + (i : Int) := by omega
            have hti4 : ¬ ((t : Int) + (i : Int) < 0) := by omega
            have hti7 : IntKind.i64.wrap ((t : Int) + (i : Int)) = (t : Int) + (i : Int) := by rw [IntKind.wrap_i64]; omega
            have hti5 : ((t : Int) + (i : Int)).toNat = t + i := by omega
            clear hm hti k1 k2 hv hil
            generalize vd xv i = y at *
            generalize hwd : W.drewN q = wd at *
            have HWD := Lib.hid hwd
            clear hwd
            gi_upto_region 13 with fail

            have hns := fun w => neq_same y w
            refine region_round (F := Fence.wide) rfl (by kernel_rfl) (by kernel_rfl) (by kernel_rfl) ?_
            repeat (gi_big_quiet_step (fail))
            refine wpQuietIn_nil ?_
            rintro _ ⟨nq, rfl⟩
            gi_wp2
            go_roundw
            case rel => exact ⟨i + 1, q + nq, by omega, by go_num, by rw [← HWD.out, World.drewN_drewN]⟩
            case measure => simp [intOf]; omega
          · obtain rfl : i = k := by omega
            have hiz : ¬ (i : Int) < (i : Int) := by omega
            have hlo := HLO.out
            have hgi := HI2.out.upto hlo (below_drewN (Below.refl _ _) q)
            have hle := lets_drew w6.heap.size W q
            clear d5 d6 c3 c4 c5 c6
            generalize W.drewN q = wd at *
            have hst := fun v6 v7 e6 e7 => GI.step hgi hlo (xk, xg, xv) v6 v7 e6 e7
            have hl2 := fun v6 v7 => lets_set (lets_set hle hlo.h6 v6) hlo.h7 v7
            have hl3 := fun v6 v7 v4 => lets_set (lets_set (lets_set hle hlo.h6 v6) hlo.h7 v7) hlo.h4 v4
            have hb4 : ∀ v6 v7, Blk (((wd.setCell ⟨Q.b6, 0, none⟩ v6).setCell ⟨Q.b7, 0, none⟩ v7).setCell ⟨Q.b4, 0, none⟩ (.bool true)) Q.b4 [.bool true] := fun v6 v7 => ((hgi.h4.put (Ne.symm hlo.d.2.2.1) 0 v6).put (Ne.symm hlo.d.2.2.2.1) 0 v7).set 0 _
            have hb5 : ∀ v6 v7 v4, Below w.heap.size w (((wd.setCell ⟨Q.b6, 0, none⟩ v6).setCell ⟨Q.b7, 0, none⟩ v7).setCell ⟨Q.b4, 0, none⟩ v4) := fun v6 v7 v4 => ((hgi.hb.setCell (p := ⟨Q.b6, 0, none⟩) hlo.n6 _).setCell (p := ⟨Q.b7, 0, none⟩) hlo.n7 _).setCell (p := ⟨Q.b4, 0, none⟩) hlo.n4 _
            have hd := hlo.d
            rw [hQ] at hgi hd
            have d3 : wd.cell? ⟨b3, 0, none⟩ = some (.int .u8 stop) := hgi.h3.c 0 _ rfl
            have d4 : wd.cell? ⟨b4, 0, none⟩ = some (.bool false) := hgi.h4.c 0 _ rfl
            have f4 : wd.frozen? ⟨b4, 0, none⟩ = false := hgi.h4.f 0 _ rfl
            have d6 : wd.cell? ⟨b6, 0, none⟩ = some (.int .i64 (t : Nat)) := by rw [HT.out]; exact hgi.h6.c 0 _ rfl
            have f6 : wd.frozen? ⟨b6, 0, none⟩ = false := hgi.h6.f 0 _ rfl
            have d7 : wd.cell? ⟨b7, 0, none⟩ = some (.int .i64 (pre.length : Nat)) := hgi.h7.c 0 _ rfl
            have f7 : wd.frozen? ⟨b7, 0, none⟩ = false := hgi.h7.f 0 _ rfl
            obtain ⟨n1, n2, n3, n4, n5, n6, n7, n8, n9, n10, n11, n12⟩ := hd
            dsimp only at n1 n3 n4 n6 n8 n10
            have n1' := Ne.symm n1; have n3' := Ne.symm n3; have n4' := Ne.symm n4; have n6' := Ne.symm n6; have n8' := Ne.symm n8; have n10' := Ne.symm n10
            clear n2 n5 n7 n9 n11 n12 hgi hlo hle
            have HST2 := Lib.hid hst; have HL2 := Lib.hid hl2; have HL3 := Lib.hid hl3; have HB4 := Lib.hid hb4; have HB5 := Lib.hid hb5
            clear hst hl2 hl3 hb4 hb5
            have hws : IntKind.i64.wrap stop = stop := by have := HST.out; rw [IntKind.wrap_i64]; omega
            have hpl : pre.length ≤ 100 := by have := HPL.out; have := HT.out; omega
            have hw6 : IntKind.i64.wrap ((t : Int) + (i : Int)) = (t : Int) + (i : Int) := by rw [IntKind.wrap_i64]; omega
            have hw7 : IntKind.i64.wrap ((pre.length : Int) + 1) = (pre.length : Int) + 1 := by rw [IntKind.wrap_i64]; omega
            by_cases hs : (pre.length : Int) + 1 = stop
            · have hsb : ((pre.length : Int) + 1 == stop) = true := by simpa using hs
              gi_wp2
              have g1 := HL3.out (.int .i64 ((t : Int) + (i : Int))) (.int .i64 stop) (.bool true)
              have g2 := HB4.out (.int .i64 ((t : Int) + (i : Int))) (.int .i64 stop)
              have g3 := HB5.out (.int .i64 ((t : Int) + (i : Int))) (.int .i64 stop) (.bool true)
              rw [hQ] at g1 g2 g3
              exact ⟨g1, g2, g3⟩
            · have hsb : ((pre.length : Int) + 1 == stop) = false := by simpa using hs
              gi_wp2
              have g1 := HL2.out (.int .i64 ((t : Int) + (i : Int))) (.int .i64 ((pre.length : Int) + 1))
              have g2 := HST2.out ((t : Int) + (i : Int)) ((pre.length : Int) + 1) (by
                have e1 := tot_snoc pre (xk, xg, xv); have e2 := HT.out; have e3 := HLEN.out
                dsimp only at e1
                omega) (by rw [List.length_append]; rfl)
              rw [hQ] at g1 g2
              exact ⟨g1, g2⟩
    case done =>
      rintro D xs W hD hS hI hK
      have htk := took_at hS
      have hlo := HLO.out
      rw [hQ] at hI
      have c4 : W.cell? ⟨b4, 0, none⟩ = some (.bool false) := hI.h4.c 0 _ rfl
      have f4 : W.frozen? ⟨b4, 0, none⟩ = false := hI.h4.f 0 _ rfl
      have c5 : W.cell? ⟨b5, 0, none⟩ = some (.slice Am l.length cm) := by rw [← HLL.out]; exact hI.h5.c 0 _ rfl
      have htot : tot xs = l.length := by
        have e1 := congrArg List.length htk.1
        rw [List.length_drop, HLL.out] at e1
        have e2 := htk.2.1
        rw [HLL.out] at e2
        simp only [List.length_nil] at e1
        omega
      have c6 : W.cell? ⟨b6, 0, none⟩ = some (.int .i64 (l.length : Nat)) := by rw [← htot]; exact hI.h6.c 0 _ rfl
      have hbw := hI.hb
      have c4' := (hI.h4.set 0 (.bool true)).c 0 _ rfl
      have hq4 : b4 < w6.heap.size := by have := hlo.h4; rw [hQ] at this; exact this
      have hq5 : w.heap.size ≤ b4 := by have := hlo.n4; rw [hQ] at this; exact this
      have hbs := hbw.setCell (p := ⟨b4, 0, none⟩) hq5 (.bool true)
      have hDD := Lib.hid (Nat.le_trans hlo.hn hD)
      have hK' : (W.setCell ⟨b4, 0, none⟩ (.bool true)).heap[D]? = some (.deferred (some [])) := (Below.heap_setCell _ _ _ _ (by dsimp only; omega)).trans hK
      have HK' := Lib.hid hK'; have HBS := Lib.hid hbs; have HC4 := Lib.hid c4'
      clear hK' hbs c4' hbw hI htk htot hlo hD hS hK hq4 hq5
      gi_wp2
      refine ⟨by simp, .inl ⟨D, _, rfl, run_takeDeferred HK'.out, ?_⟩⟩
      have c4'' := cell_kept HC4.out (grownBy_putObj' _ D (.deferred none)) (fun r e => by cases e; exact ⟨_, HK'.out, rfl⟩)
      exact ⟨.bool true, by simp [results, Try.results6, go_sem, c4''], rfl, HBS.out.trans (below_put _ hDD.out HBS.out.size)⟩
    case stop =>
      rintro D pre W hD _ ⟨h4, hbw⟩ hK
      have c4 : W.cell? ⟨b4, 0, none⟩ = some (.bool true) := h4.c 0 _ rfl
      have HK' := Lib.hid hK; have HBS := Lib.hid hbw; have HC4 := Lib.hid c4
      have hDD := Lib.hid (Nat.le_trans HLO.out.hn hD)
      clear hK hbw c4 h4 hD
      gi_wp2
      refine ⟨by simp, .inl ⟨D, _, rfl, run_takeDeferred HK'.out, ?_⟩⟩
      have c4'' := cell_kept HC4.out (grownBy_putObj' _ D (.deferred none)) (fun r e => by cases e; exact ⟨_, HK'.out, rfl⟩)
      exact ⟨.bool true, by simp [results, Try.results6, go_sem, c4''], rfl, HBS.out.trans (below_put _ hDD.out HBS.out.size)⟩
end Go.Proofs.Ytgakcpcpfkoaiaa.Pr

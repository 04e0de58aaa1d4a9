/-
  A text of this claim: RdWriteW.
-/
import Derived.Test.YtchmepalhldpcaaQ3
namespace Go.Proofs.Ytchmepalhldpcaa.Dk
open Go.ChangeShapes Go.WideShapes Go.ChangeAt Go.RowKit Go.ChangeMaps Go.Maps Go.MapKept Ov
theorem rd_strs {w : World} {L : Ls} {A B : Option Addr} {c d : Nat} (h : RD w L (.slice A L.length c) (.slice B L.length d)) : Strs w A L.length (nmf L) ∧ Strs w B L.length (hdf L) := by
 obtain ⟨A1, c1, A2, c2, e1, e2, h1, h2⟩ := h
 injection e1 with e1 _ _; injection e2 with e2 _ _
 subst e1; subst e2
 exact ⟨h1, h2⟩
theorem kp_of {lo : Nat} {w w' : World} (k : Below lo w w') : Kp (fun q => lo ≤ q) w w' := ⟨k.os, k.tape, k.output, k.size, fun q _ hn => k.block q (by omega)⟩
theorem us_rm_le {n : List UInt8} {L : Ls} (h : Srt L) : us (rm n L) ≤ us L := by rw [us_rm n h]; exact Nat.le_add_right _ _
theorem rd_slices {w : World} {L : Ls} {v1 v2 : Value} (h : RD w L v1 v2) : ∃ A1 c1 A2 c2, v1 = .slice A1 L.length c1 ∧ v2 = .slice A2 L.length c2 := by
 obtain ⟨A1, c1, A2, c2, e1, e2, _, _⟩ := h; exact ⟨A1, c1, A2, c2, e1, e2⟩
set_option maxHeartbeats 16000000 in
set_option maxRecDepth 100000 in
theorem rwrite_any (sz : Nat) (L : Ls) (v1 v2 : Value) (t s : ByteArray) (w : World) (h : RD w L v1 v2) (hu : us L ≤ sz) (hz : sz ≤ 4194304) (hsrt : Srt L) (hss : s.size ≤ 2305843009213693952) :
 Calls Try.prog 20 #[rdv3 sz v1 v2, .string t, .string s] w (WrQ sz v1 v2 (wrt sz t.data.toList s.data.toList L) w) := by
 have hl := us_len L
 have hl6 : L.length ≤ 1000000 := by omega
 have hsz : t.data.toList.length = t.size := by simp
 have hsl : s.data.toList.length = s.size := by simp
 have HRD := Lib.hid h
 obtain ⟨A1, c1, A2, c2, e1, e2⟩ := rd_slices h
 subst e1; subst e2
 clear h
 unfold rdv3
 go_enter Try.func20, Try.ntmps20
 go_upto_region 1 with (fail)
 have HK := Lib.hid ((Blk.made w 31 [.int .i64 (sz : Int), .slice A1 L.length c1, .slice A2 L.length c2] rfl).old (.cells #[.int .i64 0, .slice none 0 0, .slice none 0 0] 31))
 have HR := Lib.hid (Blk.made (w.alloc (.cells #[.int .i64 (sz : Int), .slice A1 L.length c1, .slice A2 L.length c2] 31)) 31 [.int .i64 0, .slice none 0 0, .slice none 0 0] (n := w.heap.size + 1) (by simp))
 have HB := Lib.hid (box2 w (.cells #[.int .i64 (sz : Int), .slice A1 L.length c1, .slice A2 L.length c2] 31) (.cells #[.int .i64 0, .slice none 0 0, .slice none 0 0] 31))
 change Hid (Blk ((w.alloc (.cells #[.int .i64 (sz : Int), .slice A1 L.length c1, .slice A2 L.length c2] 31)).alloc (.cells #[.int .i64 0, .slice none 0 0, .slice none 0 0] 31)) _ _) at HK HR
 obtain ⟨p, hp⟩ : ∃ p, w.heap.size = p := ⟨_, rfl⟩
 rw [hp] at HK HR ⊢
 have HP := Lib.hid hp
 obtain ⟨p1, hp1⟩ : ∃ p1, p + 1 = p1 := ⟨_, rfl⟩
 rw [hp1] at HR ⊢
 have HPP : Hid (p < p1) := Lib.hid (by omega)
 generalize (w.alloc (.cells #[.int .i64 (sz : Int), .slice A1 L.length c1, .slice A2 L.length c2] 31)).alloc (.cells #[.int .i64 0, .slice none 0 0, .slice none 0 0] 31) = W at *
 clear hp hp1
 have k0 := HK.out.c 0 _ rfl; have k1 := HK.out.c 1 _ rfl; have k2 := HK.out.c 2 _ rfl
 by_cases h0 : t = ⟨#[]⟩
 · subst h0
   have r0 := HR.out.c 0 _ rfl; have r1 := HR.out.c 1 _ rfl; have r2 := HR.out.c 2 _ rfl
   have f0 := HR.out.f 0 _ rfl; have f1 := HR.out.f 1 _ rfl; have f2 := HR.out.f 2 _ rfl
   have HRF := Lib.hid (Dk.Blk.set3 HR.out (.int .i64 (sz : Int)) (.slice A1 L.length c1) (.slice A2 L.length c2))
   have HKS := Lib.hid (Dk.set3 W p1 (.int .i64 (sz : Int)) (.slice A1 L.length c1) (.slice A2 L.length c2))
   go_wp2_with (fail)
   rw [show wrt sz (⟨#[]⟩ : ByteArray).data.toList s.data.toList L = (1, L) from if_pos (.inl rfl)]
   have g0 := HRF.out.c 0 _ rfl; have g1 := HRF.out.c 1 _ rfl; have g2 := HRF.out.c 2 _ rfl
   refine bodyPost_ret (v := .tuple #[rdv3 sz (.slice A1 L.length c1) (.slice A2 L.length c2), .int .i64 1]) (by simp [results, Try.results20, go_sem, g0, g1, g2]; rfl) rfl ⟨(.slice A1 L.length c1), (.slice A2 L.length c2), rfl, HRD.out.next (HB.out.trans (HKS.out.below (fun b e => by rw [e, HP.out]; exact Nat.le_of_lt HPP.out) HB.out.size)), (HB.out.trans (HKS.out.below (fun b e => by rw [e, HP.out]; exact Nat.le_of_lt HPP.out) HB.out.size)), Fm.same⟩
 have hne : t.data.toList ≠ [] := fun e => h0 (by rw [← tx_of t, e]; rfl)
 have t0 : (t.toList == []) = false := beq_eq_false_iff_ne.2 (by rw [ByteArray.toList_eq]; exact hne)
 by_cases h6 : 64 < t.size
 · have t1 : decide ((64 : Int) < (t.size : Int)) = true := decide_eq_true (by omega)
   have HQE : Hid (wrt sz t.data.toList s.data.toList L = (1, L)) := Lib.hid (if_pos (.inr (by omega)))
   have r0 := HR.out.c 0 _ rfl; have r1 := HR.out.c 1 _ rfl; have r2 := HR.out.c 2 _ rfl
   have f0 := HR.out.f 0 _ rfl; have f1 := HR.out.f 1 _ rfl; have f2 := HR.out.f 2 _ rfl
   have HRF := Lib.hid (Dk.Blk.set3 HR.out (.int .i64 (sz : Int)) (.slice A1 L.length c1) (.slice A2 L.length c2))
   have HKS := Lib.hid (Dk.set3 W p1 (.int .i64 (sz : Int)) (.slice A1 L.length c1) (.slice A2 L.length c2))
   go_wp2_with (fail)
   rw [HQE.out]
   have g0 := HRF.out.c 0 _ rfl; have g1 := HRF.out.c 1 _ rfl; have g2 := HRF.out.c 2 _ rfl
   refine bodyPost_ret (v := .tuple #[rdv3 sz (.slice A1 L.length c1) (.slice A2 L.length c2), .int .i64 1]) (by simp [results, Try.results20, go_sem, g0, g1, g2]; rfl) rfl ⟨(.slice A1 L.length c1), (.slice A2 L.length c2), rfl, HRD.out.next (HB.out.trans (HKS.out.below (fun b e => by rw [e, HP.out]; exact Nat.le_of_lt HPP.out) HB.out.size)), (HB.out.trans (HKS.out.below (fun b e => by rw [e, HP.out]; exact Nat.le_of_lt HPP.out) HB.out.size)), Fm.same⟩
 have t1 : decide ((64 : Int) < (t.size : Int)) = false := decide_eq_false (by omega)
 have hln : ¬ (t.data.toList = [] ∨ 64 < t.data.toList.length) := fun e => e.elim hne (by omega)
 have hw : wrt sz t.data.toList s.data.toList L = if sz < us (rm t.data.toList L) + (t.size + s.size + 16) then (9, L) else (0, pt t.data.toList s.data.toList L) := by
  unfold wrt; rw [if_neg hln, hsz, hsl]
 have HWQ := Lib.hid hw
 have hur := us_rm_le (n := t.data.toList) hsrt
 have hrl := rm_len t.data.toList L
 have HWO := Lib.hid (rwithout_any sz L _ _ t W (HRD.out.next HB.out) hl6)
 have HSZ := Lib.hid (And.intro hsz hsl)
 have HPT : Hid (pt t.data.toList s.data.toList L = ins t.data.toList s.data.toList (rm t.data.toList L)) := Lib.hid rfl
 have hpl : (pt t.data.toList s.data.toList L).length ≤ 1000001 := by
  have h3 : (ins t.data.toList s.data.toList (rm t.data.toList L)).length = (rm t.data.toList L).length + 1 := (ins_perm _ _ _).length_eq
  show (ins _ _ _).length ≤ _
  omega
 obtain ⟨M, hM⟩ : ∃ M, rm t.data.toList L = M := ⟨_, rfl⟩
 obtain ⟨PT, hPT⟩ : ∃ PT, pt t.data.toList s.data.toList L = PT := ⟨_, rfl⟩
 rw [hM] at hur hrl HWO HPT HWQ
 rw [hPT] at HPT hpl HWQ
 clear hw hln h0 hne hM hPT hsz hsl
 unfold rdv3 at HWO
 go_wp2_with (fail)
 refine HWO.out.mono ?_
 rintro e w2 ⟨u1, u2, rfl, hrd, hb2⟩
 obtain ⟨B1, d1, B2, d2, e1, e2⟩ := rd_slices hrd
 subst e1; subst e2
 have HRD2 := Lib.hid hrd; have HB2 := Lib.hid (Below.next HB.out hb2)
 have HR2 := Lib.hid (HR.out.next hb2); have HK2 := Lib.hid (HK.out.next hb2)
 unfold rdv3
 clear hb2 HWO hrd k0 k1 k2
 go_upto_region 4 with (fail)
 have HK8 := Lib.hid (Blk.made w2 31 [.int .i64 (sz : Int), .slice B1 M.length d1, .slice B2 M.length d2] rfl)
 have hx := box1 w2 (.cells #[.int .i64 (sz : Int), .slice B1 M.length d1, .slice B2 M.length d2] 31)
 have HRD3 := Lib.hid (HRD2.out.next hx); have HB3 := Lib.hid (Below.next HB2.out hx); have HR3 := Lib.hid (HR2.out.next hx); have HK3 := Lib.hid (HK2.out.next hx)
 change Hid (Blk (w2.alloc (.cells #[.int .i64 (sz : Int), .slice B1 M.length d1, .slice B2 M.length d2] 31)) _ _) at HK8
 have hp8 := HB2.out.size
 obtain ⟨p8, hp8e⟩ : ∃ p8, w2.heap.size = p8 := ⟨_, rfl⟩
 rw [hp8e] at HK8 ⊢
 have HP18 : Hid (p1 < p8) := Lib.hid (by rw [← hp8e]; exact HR2.out.lt)
 clear hx HRD2 HB2 HR2 HK2 HK HR hp8 hp8e
 generalize w2.alloc (.cells #[.int .i64 (sz : Int), .slice B1 M.length d1, .slice B2 M.length d2] 31) = w3 at *
 have x0 := HK8.out.c 0 _ rfl; have x1 := HK8.out.c 1 _ rfl; have x2 := HK8.out.c 2 _ rfl
 have HRM := Lib.hid (rroom_any sz M _ _ w3 HRD3.out (by omega) hz)
 unfold rdv3 at HRM
 go_wp2_with (fail)
 refine HRM.out.mono ?_
 rintro e w4 ⟨rfl, hb4⟩
 have HRD4 := Lib.hid (HRD3.out.next hb4); have HB4 := Lib.hid (Below.next HB3.out hb4); have HR4 := Lib.hid (HR3.out.next hb4); have HK4 := Lib.hid (HK3.out.next hb4); have HK84 := Lib.hid (HK8.out.next hb4)
 clear hb4 HRD3 HB3 HR3 HK3 HK8 HRM x0 x1 x2
 have k0 := HK4.out.c 0 _ rfl; have k1 := HK4.out.c 1 _ rfl; have k2 := HK4.out.c 2 _ rfl
 by_cases hf : sz < us M + (t.size + s.size + 16)
 · have HQE := Lib.hid (HWQ.out.trans (if_pos hf))
   have t2 : decide (((sz - us M : Nat) : Int) < (t.size : Int) + (s.size : Int) + 16) = true := decide_eq_true (by omega)
   obtain ⟨R, hRR⟩ : ∃ R, sz - us M = R := ⟨_, rfl⟩
   rw [hRR] at t2 ⊢
   have r0 := HR4.out.c 0 _ rfl; have r1 := HR4.out.c 1 _ rfl; have r2 := HR4.out.c 2 _ rfl
   have f0 := HR4.out.f 0 _ rfl; have f1 := HR4.out.f 1 _ rfl; have f2 := HR4.out.f 2 _ rfl
   have HRF := Lib.hid (Dk.Blk.set3 HR4.out (.int .i64 (sz : Int)) (.slice A1 L.length c1) (.slice A2 L.length c2))
   have HKS := Lib.hid (Dk.set3 w4 p1 (.int .i64 (sz : Int)) (.slice A1 L.length c1) (.slice A2 L.length c2))
   clear hRR hf
   go_wp2_with (fail)
   rw [HQE.out]
   have g0 := HRF.out.c 0 _ rfl; have g1 := HRF.out.c 1 _ rfl; have g2 := HRF.out.c 2 _ rfl
   refine bodyPost_ret (v := .tuple #[rdv3 sz (.slice A1 L.length c1) (.slice A2 L.length c2), .int .i64 9]) (by simp [results, Try.results20, go_sem, g0, g1, g2]; rfl) rfl ⟨(.slice A1 L.length c1), (.slice A2 L.length c2), rfl, HRD.out.next (HB4.out.trans (HKS.out.below (fun b e => by rw [e, HP.out]; exact Nat.le_of_lt HPP.out) HB4.out.size)), (HB4.out.trans (HKS.out.below (fun b e => by rw [e, HP.out]; exact Nat.le_of_lt HPP.out) HB4.out.size)), Fm.same⟩
 have HQE := Lib.hid (HWQ.out.trans (if_neg hf))
 have t2 : decide (((sz - us M : Nat) : Int) < (t.size : Int) + (s.size : Int) + 16) = false := decide_eq_false (by omega)
 obtain ⟨R, hRR⟩ : ∃ R, sz - us M = R := ⟨_, rfl⟩
 rw [hRR] at t2 ⊢
 clear hRR hf
 obtain ⟨iS, hiS⟩ : ∃ i, Try.prog.info? 9 = some i ∧ i.zero = some (.string ⟨#[]⟩) ∧ i.size = 1 ∧ i.bytes = 16 := info_parts infoS
 have HIS := Lib.hid hiS.1; have HZS := Lib.hid hiS.2.1; have HSS := Lib.hid hiS.2.2.1; have HBS := Lib.hid hiS.2.2.2
 clear hiS
 go_upto_region 7 with (fail)
 have HO := Lib.hid (RH.start (Blk.made w4 31 [.int .i64 (sz : Int), .slice none 0 0, .slice none 0 0] rfl))
 have hx := box1 w4 (.cells #[.int .i64 (sz : Int), .slice none 0 0, .slice none 0 0] 31)
 have HRD5 := Lib.hid (HRD4.out.next hx); have HB5 := Lib.hid (Below.next HB4.out hx); have HR5 := Lib.hid (HR4.out.next hx); have HK85 := Lib.hid (HK84.out.next hx)
 change Hid (RH (w4.alloc (.cells #[.int .i64 (sz : Int), .slice none 0 0, .slice none 0 0] 31)) _ _ _ _ _ _ _) at HO
 have HP89 : Hid (p8 < w4.heap.size) := Lib.hid HK84.out.lt
 have HP9 : Hid (w.heap.size ≤ w4.heap.size) := Lib.hid HB4.out.size
 obtain ⟨p9, hp9⟩ : ∃ p9, w4.heap.size = p9 := ⟨_, rfl⟩
 rw [hp9] at HO HP89 HP9 ⊢
 have HM9 : Hid (∀ b, b < w4.heap.size → b < p9) := Lib.hid (by intro b hb; omega)
 have HR49 := HR4; have HK49 := HK84; have HRD49 := HRD4; have HBW4 := HB4
 have HX9 : Hid (Below p9 w4 (w4.alloc (.cells #[.int .i64 (sz : Int), .slice none 0 0, .slice none 0 0] 31))) := Lib.hid (by rw [← hp9]; exact hx)
 clear hx hp9 HRD4 HB4 HR4 HK4 HK84 k0 k1 k2
 generalize w4.alloc (.cells #[.int .i64 (sz : Int), .slice none 0 0, .slice none 0 0] 31) = w5 at *
 have HPW : Hid (p9 ≤ w5.heap.size) := Lib.hid (Nat.le_of_lt HO.out.h.lt)
 go_wp2_with (fail)
 go_loopg [10, 11] M.length (fun kx s10 s11 wr => ∃ (i : Nat) (b : Bool) (acc : Ls) (a1 a2 : Value), i ≤ M.length ∧ M.length - i ≤ kx ∧ s11 = .int .i64 (i : Int) ∧ s10 = .bool b ∧ acc.length ≤ i + 1 ∧ Hid (At t.data.toList s.data.toList M i b acc) ∧ Hid (RH wr p9 p9 sz (nms acc) (hds acc) a1 a2) ∧ Hid (Below p9 w5 wr))
 case atStart => exact ⟨0, false, [], _, _, by omega, by omega, rfl, rfl, by simp, Lib.hid (show _ ∧ _ from ⟨rfl, fun y hy => by cases hy⟩), HO, Lib.hid (Below.refl _ _)⟩
 case round =>
  clear HO
  obtain ⟨i, b, acc, a1, a2, hi, hkx, rfl, rfl, hacc, HAT, HO, HBW⟩ := hrel
  have HB94 : Hid (Below p9 w4 wr) := Lib.hid (HX9.out.trans HBW.out)
  have HBA : Hid (Below w.heap.size w wr) := Lib.hid (HBW4.out.trans (HB94.out.mono HP9.out))
  have HR9 := Lib.hid (HR49.out.kp (kp_of HB94.out) (by have := HP18.out; have := HP89.out; omega))
  have HK9 := Lib.hid (HK49.out.kp (kp_of HB94.out) (by have := HP89.out; omega))
  have k1 := HK9.out.c 1 _ rfl
  have hXl : (nms acc).length ≤ 1000002 := by rw [nms_len]; omega
  have hYl : (hds acc).length ≤ 1000002 := by rw [hds_len]; omega
  by_cases hlt : i < M.length
  · have hltz : (i : Int) < (M.length : Int) := by omega
    obtain ⟨HS1, HS2⟩ := rd_strs HRD49.out
    obtain ⟨G, Q, rfl, hc⟩ := HS1 (by omega)
    obtain ⟨G2, Q2, rfl, hc2⟩ := HS2 (by omega)
    obtain ⟨y, hy⟩ : ∃ y, nmf M i = y := ⟨_, rfl⟩
    obtain ⟨z, hz'⟩ : ∃ z, hdf M i = z := ⟨_, rfl⟩
    have hci := hc i hlt; have hci2 := hc2 i hlt
    rw [hy] at hci; rw [hz'] at hci2
    have HCA : Hid (∀ W, Below p9 w4 W → W.cell? ⟨G, Q + i, none⟩ = some (.string y)) := Lib.hid fun W k => (k.cell (p := ⟨G, Q + i, none⟩) (HM9.out _ (block_lt_of_cell hci))).trans hci
    have HCB : Hid (∀ W, Below p9 w4 W → W.cell? ⟨G2, Q2 + i, none⟩ = some (.string z)) := Lib.hid fun W k => (k.cell (p := ⟨G2, Q2 + i, none⟩) (HM9.out _ (block_lt_of_cell hci2))).trans hci2
    have HLT := Lib.hid hlt
    have HE1 : Hid (y = tx (M[i]'HLT.out).1) := Lib.hid (by rw [← hy]; exact nmf_at hlt)
    have HE2 : Hid (z = tx (M[i]'HLT.out).2) := Lib.hid (by rw [← hz']; exact hdf_at hlt)
    have a0 := HCA.out wr HB94.out
    clear hc hc2 hci hci2 hy hz' HS1 HS2 hlt
    obtain ⟨X, hX⟩ : ∃ X, nms acc = X := ⟨_, rfl⟩
    obtain ⟨Y, hY⟩ : ∃ Y, hds acc = Y := ⟨_, rfl⟩
    rw [hX] at HO hXl; rw [hY] at HO hYl
    have HXE := Lib.hid hX; have HYE := Lib.hid hY
    clear hX hY
    cases b with
    | true =>
      have HAT2 := Lib.hid (HAT.out.put HLT.out)
      have HX : Hid (nms (acc ++ [M[i]'HLT.out]) = X ++ [.string y]) := Lib.hid (by rw [nms_snoc, HXE.out, HE1.out])
      have HY : Hid (hds (acc ++ [M[i]'HLT.out]) = Y ++ [.string z]) := Lib.hid (by rw [hds_snoc, HYE.out, HE2.out])
      have hal : (acc ++ [M[i]'HLT.out]).length ≤ i + 1 + 1 := by simp; omega
      go_upto_region 15 with (fail)
      have hrs := Nat.le_trans HPW.out HBW.out.size
      have HRS := Lib.hid hrs
      have hba := box1 wr (.cells #[.string y] 9)
      have hb1 : Below wr.heap.size wr (wr.alloc (.cells #[.string y] 9)).drew := below_drewN hba 1
      have HBX := Lib.hid hb1
      have x1 := HO.out.h.c 1 _ rfl
      have x2 := (HO.out.h.next hba).c 1 _ rfl
      clear hb1
      have HOO := Lib.hid (owns_old HO.out.o1 HBX.out)
      have HNW := Lib.hid (one_news wr (.string y) 9)
      clear hba hrs
      go_wp2_with (fail)
      go_region_law (refine step_append_lies _ rfl (.tmp 67) (.tmp 73) 29 rfl p9 9 iS (.string ⟨#[]⟩) 1 16 Try.underlying29 HIS.out HZS.out HSS.out HBS.out rfl (by decide) a1 X.length X (by simp [Act.eval]) (by exact HOO.out) ⟨wr.heap.size, 0, none⟩ 1 1 [.string y] (by simp [Act.eval]) rfl (by exact HNW.out) (fun u hu => by simp at hu; subst hu; rfl) (by omega) (by unfold maxLen; omega) (by omega) (by exact Nat.le_trans HRS.out HBX.out.size) (wr.heap.size + 1) (by simp) ?_
                     intro gN capN wnp hown' hgrow hat _
                     have hq := RH.app1 HO.out HBX.out (.string y) hown' hgrow (hat.imp id (by omega))
                     have HBP : Hid (Below p9 w5 wnp) := Lib.hid ((HBW.out.trans (HBX.out.mono HRS.out)).grown hgrow (Nat.le_trans HRS.out HBX.out.size) (fun q e => by
                      rcases HOO.out.2 with ⟨e2, _⟩ | ⟨g2, cap2, cur, e2, hlo, _⟩
                      · rw [e2] at e; cases e
                      · rw [e2] at e; rw [own_is e]; exact hlo))
                     have x3 := hq.2.c 1 _ rfl
                     have x4 := hq.2.f 1 _ rfl
                     have HQN := Lib.hid hq.1
                     clear hown' hgrow hat hq)
      all_goals
       have HBN := Lib.hid (HBP.out.setCell (p := ⟨p9, 1, none⟩) (Nat.le_refl _) (.slice (some ⟨gN, 0, none⟩) (X.length + 1) capN))
       generalize wnp.setCell ⟨p9, 1, none⟩ (.slice (some ⟨gN, 0, none⟩) (X.length + 1) capN) = wn at *
       clear x1 x3 x4 HOO HBX HNW HBP HRS x2
       have HB9N : Hid (Below p9 w4 wn) := Lib.hid (HX9.out.trans HBN.out)
       have k1 := (HK49.out.kp (kp_of HB9N.out) (by have := HP89.out; omega)).c 2 _ rfl
       have b0 := HCB.out wn HB9N.out
       have hrs := Nat.le_trans HPW.out HBN.out.size
       have HRS := Lib.hid hrs
       have hba := box1 wn (.cells #[.string z] 9)
       have hb1 : Below wn.heap.size wn (wn.alloc (.cells #[.string z] 9)).drew := below_drewN hba 1
       have HBX := Lib.hid hb1
       have x1 := HQN.out.h.c 2 _ rfl
       have x2 := (HQN.out.h.next hba).c 2 _ rfl
       clear hb1
       have HOO := Lib.hid (owns_old HQN.out.o2 HBX.out)
       have HNW := Lib.hid (one_news wn (.string z) 9)
       clear hba hrs
       go_wp2_with (fail)
       go_region_law (refine step_append_lies _ rfl (.tmp 77) (.tmp 83) 29 rfl p9 9 iS (.string ⟨#[]⟩) 1 16 Try.underlying29 HIS.out HZS.out HSS.out HBS.out rfl (by decide) a2 Y.length Y (by simp [Act.eval]) (by exact HOO.out) ⟨wn.heap.size, 0, none⟩ 1 1 [.string z] (by simp [Act.eval]) rfl (by exact HNW.out) (fun u hu => by simp at hu; subst hu; rfl) (by omega) (by unfold maxLen; omega) (by omega) (by exact Nat.le_trans HRS.out HBX.out.size) (wn.heap.size + 1) (by simp) ?_
                      intro gM capM wmp hown' hgrow hat _
                      have hq := RH.app2 HQN.out HBX.out (.string z) hown' hgrow (hat.imp id (by omega))
                      have HBP : Hid (Below p9 w5 wmp) := Lib.hid ((HBN.out.trans (HBX.out.mono HRS.out)).grown hgrow (Nat.le_trans HRS.out HBX.out.size) (fun q e => by
                       rcases HOO.out.2 with ⟨e2, _⟩ | ⟨g2, cap2, cur, e2, hlo, _⟩
                       · rw [e2] at e; cases e
                       · rw [e2] at e; rw [own_is e]; exact hlo))
                      have x3 := hq.2.c 2 _ rfl
                      have x4 := hq.2.f 2 _ rfl
                      have HQM := Lib.hid hq.1
                      clear hown' hgrow hat hq)
       all_goals
        have HBM := Lib.hid (HBP.out.setCell (p := ⟨p9, 2, none⟩) (Nat.le_refl _) (.slice (some ⟨gM, 0, none⟩) (Y.length + 1) capM))
        generalize wmp.setCell ⟨p9, 2, none⟩ (.slice (some ⟨gM, 0, none⟩) (Y.length + 1) capM) = wm at *
        clear x1 x3 x4 HOO HBX HNW HBP HRS x2
        go_wp2_with (fail)
        go_roundg (M.length - (i + 1))
        case measure => have := HLT.out; omega
        case rel => exact ⟨i + 1, true, _, _, _, by have := HLT.out; omega, Nat.le_refl _, by go_num, rfl, hal, HAT2, by rw [HX.out, HY.out]; exact HQM, HBM⟩
    | false =>
      have tg := gt_bf y t
      cases hb : bf t.data.toList y.data.toList with
      | true =>
        rw [hb] at tg
        have HAT2 := Lib.hid (HAT.out.here HLT.out (by have := HE1.out; rw [← hb, this, tx_list]))
        have HX : Hid (nms (acc ++ [(t.data.toList, s.data.toList)] ++ [M[i]'HLT.out]) = X ++ [.string t] ++ [.string y]) := Lib.hid (by rw [nms_snoc, nms_snoc, HXE.out, HE1.out]; simp only [tx_of])
        have HY : Hid (hds (acc ++ [(t.data.toList, s.data.toList)] ++ [M[i]'HLT.out]) = Y ++ [.string s] ++ [.string z]) := Lib.hid (by rw [hds_snoc, hds_snoc, HYE.out, HE2.out]; simp only [tx_of])
        have hal : (acc ++ [(t.data.toList, s.data.toList)] ++ [M[i]'HLT.out]).length ≤ i + 1 + 1 := by
         have h1 : acc.length = i := by have := (show _ ∧ _ from HAT.out).1; rw [this]; simp; have := HLT.out; omega
         simp; omega
        clear hb
        go_upto_region 12 with (fail)
        have hrs := Nat.le_trans HPW.out HBW.out.size
        have HRS := Lib.hid hrs
        have hba := box1 wr (.cells #[.string t] 9)
        have HBX := Lib.hid hba
        have x1 := HO.out.h.c 1 _ rfl
        have HOO := Lib.hid (owns_old HO.out.o1 HBX.out)
        have HNW := Lib.hid (one_news wr (.string t) 9)
        clear hba hrs
        go_upto_region 13 with (at_builtin; refine wpList_append_lies _ rfl (.tmp 55) (.tmp 57) 29 rfl p9 9 iS (.string ⟨#[]⟩) 1 16 Try.underlying29 HIS.out HZS.out HSS.out HBS.out rfl (by decide) a1 X.length X (by simp [Act.eval]) (by exact HOO.out) ⟨wr.heap.size, 0, none⟩ 1 1 [.string t] (by simp [Act.eval]) rfl (by exact HNW.out) (fun u hu => by simp at hu; subst hu; rfl) (by omega) (by unfold maxLen; omega) (by omega) (by exact Nat.le_trans HRS.out HBX.out.size) (wr.heap.size + 1) (by simp) ?_
                                intro gA capA wap hown' hgrow hat _
                                have hq := RH.app1 HO.out HBX.out (.string t) hown' hgrow (hat.imp id (by omega))
                                have HBP : Hid (Below p9 w5 wap) := Lib.hid ((HBW.out.trans (HBX.out.mono HRS.out)).grown hgrow (Nat.le_trans HRS.out HBX.out.size) (fun q e => by
                                 rcases HOO.out.2 with ⟨e2, _⟩ | ⟨g2, cap2, cur, e2, hlo, _⟩
                                 · rw [e2] at e; cases e
                                 · rw [e2] at e; rw [own_is e]; exact hlo))
                                have x3 := hq.2.c 1 _ rfl
                                have x4 := hq.2.f 1 _ rfl
                                have HQA := Lib.hid hq.1
                                clear hown' hgrow hat hq)
        have HBA := Lib.hid (HBP.out.setCell (p := ⟨p9, 1, none⟩) (Nat.le_refl _) (.slice (some ⟨gA, 0, none⟩) (X.length + 1) capA))
        generalize wap.setCell ⟨p9, 1, none⟩ (.slice (some ⟨gA, 0, none⟩) (X.length + 1) capA) = wa at *
        clear x1 x3 x4 HOO HBX HNW HBP HRS
        have hrs := Nat.le_trans HPW.out HBA.out.size
        have HRS := Lib.hid hrs
        have hba := box1 wa (.cells #[.string s] 9)
        have HBX := Lib.hid hba
        have x1 := HQA.out.h.c 2 _ rfl
        have HOO := Lib.hid (owns_old HQA.out.o2 HBX.out)
        have HNW := Lib.hid (one_news wa (.string s) 9)
        clear hba hrs
        go_upto_region 15 with (at_builtin; refine wpList_append_lies _ rfl (.tmp 61) (.tmp 63) 29 rfl p9 9 iS (.string ⟨#[]⟩) 1 16 Try.underlying29 HIS.out HZS.out HSS.out HBS.out rfl (by decide) a2 Y.length Y (by simp [Act.eval]) (by exact HOO.out) ⟨wa.heap.size, 0, none⟩ 1 1 [.string s] (by simp [Act.eval]) rfl (by exact HNW.out) (fun u hu => by simp at hu; subst hu; rfl) (by omega) (by unfold maxLen; omega) (by omega) (by exact Nat.le_trans HRS.out HBX.out.size) (wa.heap.size + 1) (by simp) ?_
                                intro gC capC wbp hown' hgrow hat _
                                have hq := RH.app2 HQA.out HBX.out (.string s) hown' hgrow (hat.imp id (by omega))
                                have HBP : Hid (Below p9 w5 wbp) := Lib.hid ((HBA.out.trans (HBX.out.mono HRS.out)).grown hgrow (Nat.le_trans HRS.out HBX.out.size) (fun q e => by
                                 rcases HOO.out.2 with ⟨e2, _⟩ | ⟨g2, cap2, cur, e2, hlo, _⟩
                                 · rw [e2] at e; cases e
                                 · rw [e2] at e; rw [own_is e]; exact hlo))
                                have x3 := hq.2.c 2 _ rfl
                                have x4 := hq.2.f 2 _ rfl
                                have HQC := Lib.hid hq.1
                                clear hown' hgrow hat hq)
        have HBC := Lib.hid (HBP.out.setCell (p := ⟨p9, 2, none⟩) (Nat.le_refl _) (.slice (some ⟨gC, 0, none⟩) (Y.length + 1) capC))
        generalize wbp.setCell ⟨p9, 2, none⟩ (.slice (some ⟨gC, 0, none⟩) (Y.length + 1) capC) = wb at *
        clear x1 x3 x4 HOO HBX HNW HBP HRS
        have HB9C : Hid (Below p9 w4 wb) := Lib.hid (HX9.out.trans HBC.out)
        have k1 := (HK49.out.kp (kp_of HB9C.out) (by have := HP89.out; omega)).c 1 _ rfl
        have a0 := HCA.out wb HB9C.out
        have hXl2 : (X ++ [Value.string t]).length ≤ 1000003 := by simp; omega
        have hYl2 : (Y ++ [Value.string s]).length ≤ 1000003 := by simp; omega
        obtain ⟨X2, hX2⟩ : ∃ X2, X ++ [Value.string t] = X2 := ⟨_, rfl⟩
        obtain ⟨Y2, hY2⟩ : ∃ Y2, Y ++ [Value.string s] = Y2 := ⟨_, rfl⟩
        have HQC2 := HQC
        rw [hX2] at hXl2 HX HQC2
        rw [hY2] at hYl2 HY HQC2
        clear hX2 hY2 HQC
        have hrs := Nat.le_trans HPW.out HBC.out.size
        have HRS := Lib.hid hrs
        have hba := box1 wb (.cells #[.string y] 9)
        have hb1 : Below wb.heap.size wb (wb.alloc (.cells #[.string y] 9)).drew := below_drewN hba 1
        have HBX := Lib.hid hb1
        have x1 := HQC2.out.h.c 1 _ rfl
        have x2 := (HQC2.out.h.next hba).c 1 _ rfl
        clear hb1
        have HOO := Lib.hid (owns_old HQC2.out.o1 HBX.out)
        have HNW := Lib.hid (one_news wb (.string y) 9)
        clear hba hrs
        go_wp2_with (fail)
        go_region_law (refine step_append_lies _ rfl (.tmp 67) (.tmp 73) 29 rfl p9 9 iS (.string ⟨#[]⟩) 1 16 Try.underlying29 HIS.out HZS.out HSS.out HBS.out rfl (by decide) (.slice (some ⟨gA, 0, none⟩) (X.length + 1) capA) X2.length X2 (by simp [Act.eval]) (by exact HOO.out) ⟨wb.heap.size, 0, none⟩ 1 1 [.string y] (by simp [Act.eval]) rfl (by exact HNW.out) (fun u hu => by simp at hu; subst hu; rfl) (by omega) (by unfold maxLen; omega) (by omega) (by exact Nat.le_trans HRS.out HBX.out.size) (wb.heap.size + 1) (by simp) ?_
                       intro gN capN wnp hown' hgrow hat _
                       have hq := RH.app1 HQC2.out HBX.out (.string y) hown' hgrow (hat.imp id (by omega))
                       have HBP : Hid (Below p9 w5 wnp) := Lib.hid ((HBC.out.trans (HBX.out.mono HRS.out)).grown hgrow (Nat.le_trans HRS.out HBX.out.size) (fun q e => by
                        rcases HOO.out.2 with ⟨e2, _⟩ | ⟨g2, cap2, cur, e2, hlo, _⟩
                        · rw [e2] at e; cases e
                        · rw [e2] at e; rw [own_is e]; exact hlo))
                       have x3 := hq.2.c 1 _ rfl
                       have x4 := hq.2.f 1 _ rfl
                       have HQN := Lib.hid hq.1
                       clear hown' hgrow hat hq)
        all_goals
         have HBN := Lib.hid (HBP.out.setCell (p := ⟨p9, 1, none⟩) (Nat.le_refl _) (.slice (some ⟨gN, 0, none⟩) (X2.length + 1) capN))
         generalize wnp.setCell ⟨p9, 1, none⟩ (.slice (some ⟨gN, 0, none⟩) (X2.length + 1) capN) = wn at *
         clear x1 x3 x4 HOO HBX HNW HBP HRS x2
         have HB9N : Hid (Below p9 w4 wn) := Lib.hid (HX9.out.trans HBN.out)
         have k1 := (HK49.out.kp (kp_of HB9N.out) (by have := HP89.out; omega)).c 2 _ rfl
         have b0 := HCB.out wn HB9N.out
         have hrs := Nat.le_trans HPW.out HBN.out.size
         have HRS := Lib.hid hrs
         have hba := box1 wn (.cells #[.string z] 9)
         have hb1 : Below wn.heap.size wn (wn.alloc (.cells #[.string z] 9)).drew := below_drewN hba 1
         have HBX := Lib.hid hb1
         have x1 := HQN.out.h.c 2 _ rfl
         have x2 := (HQN.out.h.next hba).c 2 _ rfl
         clear hb1
         have HOO := Lib.hid (owns_old HQN.out.o2 HBX.out)
         have HNW := Lib.hid (one_news wn (.string z) 9)
         clear hba hrs
         go_wp2_with (fail)
         go_region_law (refine step_append_lies _ rfl (.tmp 77) (.tmp 83) 29 rfl p9 9 iS (.string ⟨#[]⟩) 1 16 Try.underlying29 HIS.out HZS.out HSS.out HBS.out rfl (by decide) (.slice (some ⟨gC, 0, none⟩) (Y.length + 1) capC) Y2.length Y2 (by simp [Act.eval]) (by exact HOO.out) ⟨wn.heap.size, 0, none⟩ 1 1 [.string z] (by simp [Act.eval]) rfl (by exact HNW.out) (fun u hu => by simp at hu; subst hu; rfl) (by omega) (by unfold maxLen; omega) (by omega) (by exact Nat.le_trans HRS.out HBX.out.size) (wn.heap.size + 1) (by simp) ?_
                        intro gM capM wmp hown' hgrow hat _
                        have hq := RH.app2 HQN.out HBX.out (.string z) hown' hgrow (hat.imp id (by omega))
                        have HBP : Hid (Below p9 w5 wmp) := Lib.hid ((HBN.out.trans (HBX.out.mono HRS.out)).grown hgrow (Nat.le_trans HRS.out HBX.out.size) (fun q e => by
                         rcases HOO.out.2 with ⟨e2, _⟩ | ⟨g2, cap2, cur, e2, hlo, _⟩
                         · rw [e2] at e; cases e
                         · rw [e2] at e; rw [own_is e]; exact hlo))
                        have x3 := hq.2.c 2 _ rfl
                        have x4 := hq.2.f 2 _ rfl
                        have HQM := Lib.hid hq.1
                        clear hown' hgrow hat hq)
         all_goals
          have HBM := Lib.hid (HBP.out.setCell (p := ⟨p9, 2, none⟩) (Nat.le_refl _) (.slice (some ⟨gM, 0, none⟩) (Y2.length + 1) capM))
          generalize wmp.setCell ⟨p9, 2, none⟩ (.slice (some ⟨gM, 0, none⟩) (Y2.length + 1) capM) = wm at *
          clear x1 x3 x4 HOO HBX HNW HBP HRS x2
          go_wp2_with (fail)
          go_roundg (M.length - (i + 1))
          case measure => have := HLT.out; omega
          case rel => exact ⟨i + 1, true, _, _, _, by have := HLT.out; omega, Nat.le_refl _, by go_num, rfl, hal, HAT2, by rw [HX.out, HY.out]; exact HQM, HBM⟩
      | false =>
        rw [hb] at tg
        have HAT2 := Lib.hid (HAT.out.on HLT.out (by have := HE1.out; rw [← hb, this, tx_list]))
        have HX : Hid (nms (acc ++ [M[i]'HLT.out]) = X ++ [.string y]) := Lib.hid (by rw [nms_snoc, HXE.out, HE1.out])
        have HY : Hid (hds (acc ++ [M[i]'HLT.out]) = Y ++ [.string z]) := Lib.hid (by rw [hds_snoc, HYE.out, HE2.out])
        have hal : (acc ++ [M[i]'HLT.out]).length ≤ i + 1 + 1 := by simp; omega
        clear hb
        go_upto_region 15 with (fail)
        have hrs := Nat.le_trans HPW.out HBW.out.size
        have HRS := Lib.hid hrs
        have hba := box1 wr (.cells #[.string y] 9)
        have hb1 : Below wr.heap.size wr (wr.alloc (.cells #[.string y] 9)).drew := below_drewN hba 1
        have HBX := Lib.hid hb1
        have x1 := HO.out.h.c 1 _ rfl
        have x2 := (HO.out.h.next hba).c 1 _ rfl
        clear hb1
        have HOO := Lib.hid (owns_old HO.out.o1 HBX.out)
        have HNW := Lib.hid (one_news wr (.string y) 9)
        clear hba hrs
        go_wp2_with (fail)
        go_region_law (refine step_append_lies _ rfl (.tmp 67) (.tmp 73) 29 rfl p9 9 iS (.string ⟨#[]⟩) 1 16 Try.underlying29 HIS.out HZS.out HSS.out HBS.out rfl (by decide) a1 X.length X (by simp [Act.eval]) (by exact HOO.out) ⟨wr.heap.size, 0, none⟩ 1 1 [.string y] (by simp [Act.eval]) rfl (by exact HNW.out) (fun u hu => by simp at hu; subst hu; rfl) (by omega) (by unfold maxLen; omega) (by omega) (by exact Nat.le_trans HRS.out HBX.out.size) (wr.heap.size + 1) (by simp) ?_
                       intro gN capN wnp hown' hgrow hat _
                       have hq := RH.app1 HO.out HBX.out (.string y) hown' hgrow (hat.imp id (by omega))
                       have HBP : Hid (Below p9 w5 wnp) := Lib.hid ((HBW.out.trans (HBX.out.mono HRS.out)).grown hgrow (Nat.le_trans HRS.out HBX.out.size) (fun q e => by
                        rcases HOO.out.2 with ⟨e2, _⟩ | ⟨g2, cap2, cur, e2, hlo, _⟩
                        · rw [e2] at e; cases e
                        · rw [e2] at e; rw [own_is e]; exact hlo))
                       have x3 := hq.2.c 1 _ rfl
                       have x4 := hq.2.f 1 _ rfl
                       have HQN := Lib.hid hq.1
                       clear hown' hgrow hat hq)
        all_goals
         have HBN := Lib.hid (HBP.out.setCell (p := ⟨p9, 1, none⟩) (Nat.le_refl _) (.slice (some ⟨gN, 0, none⟩) (X.length + 1) capN))
         generalize wnp.setCell ⟨p9, 1, none⟩ (.slice (some ⟨gN, 0, none⟩) (X.length + 1) capN) = wn at *
         clear x1 x3 x4 HOO HBX HNW HBP HRS x2
         have HB9N : Hid (Below p9 w4 wn) := Lib.hid (HX9.out.trans HBN.out)
         have k1 := (HK49.out.kp (kp_of HB9N.out) (by have := HP89.out; omega)).c 2 _ rfl
         have b0 := HCB.out wn HB9N.out
         have hrs := Nat.le_trans HPW.out HBN.out.size
         have HRS := Lib.hid hrs
         have hba := box1 wn (.cells #[.string z] 9)
         have hb1 : Below wn.heap.size wn (wn.alloc (.cells #[.string z] 9)).drew := below_drewN hba 1
         have HBX := Lib.hid hb1
         have x1 := HQN.out.h.c 2 _ rfl
         have x2 := (HQN.out.h.next hba).c 2 _ rfl
         clear hb1
         have HOO := Lib.hid (owns_old HQN.out.o2 HBX.out)
         have HNW := Lib.hid (one_news wn (.string z) 9)
         clear hba hrs
         go_wp2_with (fail)
         go_region_law (refine step_append_lies _ rfl (.tmp 77) (.tmp 83) 29 rfl p9 9 iS (.string ⟨#[]⟩) 1 16 Try.underlying29 HIS.out HZS.out HSS.out HBS.out rfl (by decide) a2 Y.length Y (by simp [Act.eval]) (by exact HOO.out) ⟨wn.heap.size, 0, none⟩ 1 1 [.string z] (by simp [Act.eval]) rfl (by exact HNW.out) (fun u hu => by simp at hu; subst hu; rfl) (by omega) (by unfold maxLen; omega) (by omega) (by exact Nat.le_trans HRS.out HBX.out.size) (wn.heap.size + 1) (by simp) ?_
                        intro gM capM wmp hown' hgrow hat _
                        have hq := RH.app2 HQN.out HBX.out (.string z) hown' hgrow (hat.imp id (by omega))
                        have HBP : Hid (Below p9 w5 wmp) := Lib.hid ((HBN.out.trans (HBX.out.mono HRS.out)).grown hgrow (Nat.le_trans HRS.out HBX.out.size) (fun q e => by
                         rcases HOO.out.2 with ⟨e2, _⟩ | ⟨g2, cap2, cur, e2, hlo, _⟩
                         · rw [e2] at e; cases e
                         · rw [e2] at e; rw [own_is e]; exact hlo))
                        have x3 := hq.2.c 2 _ rfl
                        have x4 := hq.2.f 2 _ rfl
                        have HQM := Lib.hid hq.1
                        clear hown' hgrow hat hq)
         all_goals
          have HBM := Lib.hid (HBP.out.setCell (p := ⟨p9, 2, none⟩) (Nat.le_refl _) (.slice (some ⟨gM, 0, none⟩) (Y.length + 1) capM))
          generalize wmp.setCell ⟨p9, 2, none⟩ (.slice (some ⟨gM, 0, none⟩) (Y.length + 1) capM) = wm at *
          clear x1 x3 x4 HOO HBX HNW HBP HRS x2
          go_wp2_with (fail)
          go_roundg (M.length - (i + 1))
          case measure => have := HLT.out; omega
          case rel => exact ⟨i + 1, false, _, _, _, by have := HLT.out; omega, Nat.le_refl _, by go_num, rfl, hal, HAT2, by rw [HX.out, HY.out]; exact HQM, HBM⟩
  · obtain rfl : i = M.length := by omega
    have hltz : ¬ (M.length : Int) < (M.length : Int) := by omega
    clear hlt
    cases b with
    | true =>
      have HFA : Hid (acc = PT) := Lib.hid (HAT.out.done.trans HPT.out.symm)
      obtain rfl : acc = PT := HFA.out
      have HB9E : Hid (Below p9 w4 wr) := Lib.hid (HX9.out.trans HBW.out)
      have HBAE : Hid (Below w.heap.size w wr) := Lib.hid (HBW4.out.trans (HB9E.out.mono HP9.out))
      have HRE := Lib.hid (HR49.out.kp (kp_of HB9E.out) (by have := HP18.out; have := HP89.out; omega))
      obtain ⟨E1, d3, e3, _⟩ := own_slice HO.out.o1
      obtain ⟨E2, d4, e4, _⟩ := own_slice HO.out.o2
      rw [e3, e4] at HO
      have c0 := HO.out.h.c 0 _ rfl; have c1' := HO.out.h.c 1 _ rfl; have c2' := HO.out.h.c 2 _ rfl
      have r0 := HRE.out.c 0 _ rfl; have r1 := HRE.out.c 1 _ rfl; have r2 := HRE.out.c 2 _ rfl
      have f0 := HRE.out.f 0 _ rfl; have f1 := HRE.out.f 1 _ rfl; have f2 := HRE.out.f 2 _ rfl
      have HRF := Lib.hid (Dk.Blk.set3 HRE.out (.int .i64 (sz : Int)) (.slice E1 (nms acc).length d3) (.slice E2 (hds acc).length d4))
      have HKS := Lib.hid (Dk.set3 wr p1 (.int .i64 (sz : Int)) (.slice E1 (nms acc).length d3) (.slice E2 (hds acc).length d4))
      go_wp2_with (fail)
      rw [HQE.out]
      have g0 := HRF.out.c 0 _ rfl; have g1 := HRF.out.c 1 _ rfl; have g2 := HRF.out.c 2 _ rfl
      refine bodyPost_ret (v := .tuple #[rdv3 sz (.slice E1 (nms acc).length d3) (.slice E2 (hds acc).length d4), .int .i64 0]) (by simp [results, Try.results20, go_sem, g0, g1, g2]; rfl) rfl ⟨(.slice E1 (nms acc).length d3), (.slice E2 (hds acc).length d4), rfl, (HO.out.far HKS.out (by have := HP18.out; have := HP89.out; omega)).rd, (HBAE.out.trans (HKS.out.below (fun b e => by rw [e, HP.out]; exact Nat.le_of_lt HPP.out) HBAE.out.size)), Fm.own (HO.out.far HKS.out (by have := HP18.out; have := HP89.out; omega)) HP9.out⟩
    | false =>
      have HFA : Hid (acc ++ [(t.data.toList, s.data.toList)] = PT) := Lib.hid (HAT.out.last.trans HPT.out.symm)
      obtain ⟨X, hX⟩ : ∃ X, nms acc = X := ⟨_, rfl⟩
      obtain ⟨Y, hY⟩ : ∃ Y, hds acc = Y := ⟨_, rfl⟩
      rw [hX] at HO hXl; rw [hY] at HO hYl
      have HX : Hid (nms PT = X ++ [.string t]) := Lib.hid (by rw [← HFA.out, nms_snoc, hX]; simp only [tx_of])
      have HY : Hid (hds PT = Y ++ [.string s]) := Lib.hid (by rw [← HFA.out, hds_snoc, hY]; simp only [tx_of])
      clear hX hY
      go_upto_region 18 with (fail)
      have hrs := Nat.le_trans HPW.out HBW.out.size
      have HRS := Lib.hid hrs
      have hba := box1 wr (.cells #[.string t] 9)
      have HBX := Lib.hid hba
      have x1 := HO.out.h.c 1 _ rfl
      have HOO := Lib.hid (owns_old HO.out.o1 HBX.out)
      have HNW := Lib.hid (one_news wr (.string t) 9)
      clear hba hrs
      go_upto_region 19 with (at_builtin; refine wpList_append_lies _ rfl (.tmp 89) (.tmp 91) 29 rfl p9 9 iS (.string ⟨#[]⟩) 1 16 Try.underlying29 HIS.out HZS.out HSS.out HBS.out rfl (by decide) a1 X.length X (by simp [Act.eval]) (by exact HOO.out) ⟨wr.heap.size, 0, none⟩ 1 1 [.string t] (by simp [Act.eval]) rfl (by exact HNW.out) (fun u hu => by simp at hu; subst hu; rfl) (by omega) (by unfold maxLen; omega) (by omega) (by exact Nat.le_trans HRS.out HBX.out.size) (wr.heap.size + 1) (by simp) ?_
                              intro gA capA wap hown' hgrow hat _
                              have hq := RH.app1 HO.out HBX.out (.string t) hown' hgrow (hat.imp id (by omega))
                              have HBP : Hid (Below p9 w5 wap) := Lib.hid ((HBW.out.trans (HBX.out.mono HRS.out)).grown hgrow (Nat.le_trans HRS.out HBX.out.size) (fun q e => by
                               rcases HOO.out.2 with ⟨e2, _⟩ | ⟨g2, cap2, cur, e2, hlo, _⟩
                               · rw [e2] at e; cases e
                               · rw [e2] at e; rw [own_is e]; exact hlo))
                              have x3 := hq.2.c 1 _ rfl
                              have x4 := hq.2.f 1 _ rfl
                              have HQA := Lib.hid hq.1
                              clear hown' hgrow hat hq)
      have HBA := Lib.hid (HBP.out.setCell (p := ⟨p9, 1, none⟩) (Nat.le_refl _) (.slice (some ⟨gA, 0, none⟩) (X.length + 1) capA))
      generalize wap.setCell ⟨p9, 1, none⟩ (.slice (some ⟨gA, 0, none⟩) (X.length + 1) capA) = wa at *
      clear x1 x3 x4 HOO HBX HNW HBP HRS
      have hrs := Nat.le_trans HPW.out HBA.out.size
      have HRS := Lib.hid hrs
      have hba := box1 wa (.cells #[.string s] 9)
      have HBX := Lib.hid hba
      have x1 := HQA.out.h.c 2 _ rfl
      have HOO := Lib.hid (owns_old HQA.out.o2 HBX.out)
      have HNW := Lib.hid (one_news wa (.string s) 9)
      clear hba hrs
      go_upto_region 20 with (at_builtin; refine wpList_append_lies _ rfl (.tmp 95) (.tmp 97) 29 rfl p9 9 iS (.string ⟨#[]⟩) 1 16 Try.underlying29 HIS.out HZS.out HSS.out HBS.out rfl (by decide) a2 Y.length Y (by simp [Act.eval]) (by exact HOO.out) ⟨wa.heap.size, 0, none⟩ 1 1 [.string s] (by simp [Act.eval]) rfl (by exact HNW.out) (fun u hu => by simp at hu; subst hu; rfl) (by omega) (by unfold maxLen; omega) (by omega) (by exact Nat.le_trans HRS.out HBX.out.size) (wa.heap.size + 1) (by simp) ?_
                              intro gC capC wbp hown' hgrow hat _
                              have hq := RH.app2 HQA.out HBX.out (.string s) hown' hgrow (hat.imp id (by omega))
                              have HBP : Hid (Below p9 w5 wbp) := Lib.hid ((HBA.out.trans (HBX.out.mono HRS.out)).grown hgrow (Nat.le_trans HRS.out HBX.out.size) (fun q e => by
                               rcases HOO.out.2 with ⟨e2, _⟩ | ⟨g2, cap2, cur, e2, hlo, _⟩
                               · rw [e2] at e; cases e
                               · rw [e2] at e; rw [own_is e]; exact hlo))
                              have x3 := hq.2.c 2 _ rfl
                              have x4 := hq.2.f 2 _ rfl
                              have HQC := Lib.hid hq.1
                              clear hown' hgrow hat hq)
      have HBC := Lib.hid (HBP.out.setCell (p := ⟨p9, 2, none⟩) (Nat.le_refl _) (.slice (some ⟨gC, 0, none⟩) (Y.length + 1) capC))
      generalize wbp.setCell ⟨p9, 2, none⟩ (.slice (some ⟨gC, 0, none⟩) (Y.length + 1) capC) = wb at *
      clear x1 x3 x4 HOO HBX HNW HBP HRS
      rw [← HX.out, ← HY.out] at HQC
      have HB9E : Hid (Below p9 w4 wb) := Lib.hid (HX9.out.trans HBC.out)
      have HBAE : Hid (Below w.heap.size w wb) := Lib.hid (HBW4.out.trans (HB9E.out.mono HP9.out))
      have HRE := Lib.hid (HR49.out.kp (kp_of HB9E.out) (by have := HP18.out; have := HP89.out; omega))
      obtain ⟨E1, d3, e3, _⟩ := own_slice HQC.out.o1
      obtain ⟨E2, d4, e4, _⟩ := own_slice HQC.out.o2
      rw [e3, e4] at HQC
      have c0 := HQC.out.h.c 0 _ rfl; have c1' := HQC.out.h.c 1 _ rfl; have c2' := HQC.out.h.c 2 _ rfl
      have r0 := HRE.out.c 0 _ rfl; have r1 := HRE.out.c 1 _ rfl; have r2 := HRE.out.c 2 _ rfl
      have f0 := HRE.out.f 0 _ rfl; have f1 := HRE.out.f 1 _ rfl; have f2 := HRE.out.f 2 _ rfl
      have HRF := Lib.hid (Dk.Blk.set3 HRE.out (.int .i64 (sz : Int)) (.slice E1 (nms PT).length d3) (.slice E2 (hds PT).length d4))
      have HKS := Lib.hid (Dk.set3 wb p1 (.int .i64 (sz : Int)) (.slice E1 (nms PT).length d3) (.slice E2 (hds PT).length d4))
      go_wp2_with (fail)
      rw [HQE.out]
      have g0 := HRF.out.c 0 _ rfl; have g1 := HRF.out.c 1 _ rfl; have g2 := HRF.out.c 2 _ rfl
      refine bodyPost_ret (v := .tuple #[rdv3 sz (.slice E1 (nms PT).length d3) (.slice E2 (hds PT).length d4), .int .i64 0]) (by simp [results, Try.results20, go_sem, g0, g1, g2]; rfl) rfl ⟨(.slice E1 (nms PT).length d3), (.slice E2 (hds PT).length d4), rfl, (HQC.out.far HKS.out (by have := HP18.out; have := HP89.out; omega)).rd, (HBAE.out.trans (HKS.out.below (fun b e => by rw [e, HP.out]; exact Nat.le_of_lt HPP.out) HBAE.out.size)), Fm.own (HQC.out.far HKS.out (by have := HP18.out; have := HP89.out; omega)) HP9.out⟩
end Go.Proofs.Ytchmepalhldpcaa.Dk

/-
  A text of this claim: RdWithout.
-/
import Derived.Test.YtchmepalhldpcaaQ2
import Derived.Test.YtchmepalhldpcaaQ1
namespace Go.Proofs.Ytchmepalhldpcaa.Dk
open Go.ChangeShapes Go.WideShapes Go.ChangeAt Go.RowKit Go.ChangeMaps Go.Maps Go.MapKept Ov
def WoQ (sz : Nat) (L : Ls) (w : World) (e : Ending) (w' : World) : Prop := ∃ v1 v2, e = .returned (rdv3 sz v1 v2) ∧ RD w' L v1 v2 ∧ Below w.heap.size w w'
def WoO (sz : Nat) (L : Ls) (w : World) (e : Ending) (w' : World) : Prop := ∃ v1 v2 lo b, e = .returned (rdv3 sz v1 v2) ∧ RH w' lo b sz (nms L) (hds L) v1 v2 ∧ w.heap.size ≤ lo ∧ Below w.heap.size w w'
theorem rm_snoc {n : List UInt8} {L : Ls} {i : Nat} (h : i < L.length) : rm n (L.take (i + 1)) = if L[i].1 = n then rm n (L.take i) else rm n (L.take i) ++ [L[i]] := by
 unfold rm
 rw [List.take_succ_eq_append_getElem h, List.filter_append]
 by_cases e : L[i].1 = n
 · rw [if_pos e]; simp [e]
 · rw [if_neg e]; simp [e]
theorem nms_snoc (L : Ls) (x : List UInt8 × List UInt8) : nms (L ++ [x]) = nms L ++ [.string (tx x.1)] := by unfold nms; simp; rfl
theorem hds_snoc (L : Ls) (x : List UInt8 × List UInt8) : hds (L ++ [x]) = hds L ++ [.string (tx x.2)] := by unfold hds; simp
theorem nms_len (L : Ls) : (nms L).length = L.length := by simp [nms]
theorem hds_len (L : Ls) : (hds L).length = L.length := by simp [hds]
theorem rm_len (n : List UInt8) (L : Ls) : (rm n L).length ≤ L.length := List.length_filter_le _ _
theorem RH.far {w w' : World} {lo b sz p : Nat} {xs ys : List Value} {v1 v2 : Value} (h : RH w lo b sz xs ys v1 v2) (k : Kp (fun q => q = p) w w') (hp : p < lo) : RH w' lo b sz xs ys v1 v2 := by
 have hb := h.l
 have ho : ∀ (v : Value) (n : Nat) (zs : List Value), w.ownsRow lo 9 1 v n zs → ∀ g, v.ownBlock = some g → ¬ g = p := fun v n zs ho g e q => by
  rcases ho.2 with ⟨rfl, _⟩ | ⟨g2, cap, cur, rfl, hlo, _⟩
  · cases e
  · have := own_is e; omega
 exact ⟨h.h.kp k (by omega), own_kp h.o1 k (ho _ _ _ h.o1), own_kp h.o2 k (ho _ _ _ h.o2), h.n1, h.n2, h.n3, h.l⟩
theorem RH.start {W : World} {p sz : Nat} (h : Blk W p [.int .i64 (sz : Int), .slice none 0 0, .slice none 0 0]) : RH W p p sz [] [] (.slice none 0 0) (.slice none 0 0) :=
 ⟨h, World.ownsRow_nil _ _ _ _, World.ownsRow_nil _ _ _ _, (fun e => by cases e), (fun e => by cases e), (fun _ e => by cases e), Nat.le_refl _⟩
theorem set3 (w : World) (p : Nat) (a b c : Value) : Kp (fun q => q = p) w (((w.setCell ⟨p, 0, none⟩ a).setCell ⟨p, 1, none⟩ b).setCell ⟨p, 2, none⟩ c) := (((Kp.refl (fun q => q = p) w).setCell rfl _ _).setCell rfl _ _).setCell rfl _ _
theorem Blk.set3 {w : World} {p : Nat} {x y z : Value} (h : Blk w p [x, y, z]) (a b c : Value) : Blk (((w.setCell ⟨p, 0, none⟩ a).setCell ⟨p, 1, none⟩ b).setCell ⟨p, 2, none⟩ c) p [a, b, c] := (((h.set 0 a).set 1 b).set 2 c).cast rfl
set_option maxHeartbeats 8000000 in
set_option maxRecDepth 100000 in
theorem rwithout_own (sz : Nat) (L : Ls) (v1 v2 : Value) (t : ByteArray) (w : World) (h : RD w L v1 v2) (hl : L.length ≤ 1000000) :
 Calls Try.prog 19 #[rdv3 sz v1 v2, .string t] w (WoO sz (rm t.data.toList L) w) := by
 obtain ⟨A1, c1, A2, c2, rfl, rfl, h1, h2⟩ := h
 obtain ⟨iS, hiS⟩ : ∃ i, Try.prog.info? 9 = some i ∧ i.zero = some (.string ⟨#[]⟩) ∧ i.size = 1 ∧ i.bytes = 16 := info_parts infoS
 have HIS := Lib.hid hiS.1; have HZS := Lib.hid hiS.2.1; have HSS := Lib.hid hiS.2.2.1; have HBS := Lib.hid hiS.2.2.2
 have HA1 := Lib.hid h1; have HA2 := Lib.hid h2
 clear hiS h1 h2
 unfold rdv3
 go_enter Try.func19, Try.ntmps19
 go_upto_region 2 with (fail)
 have HK := Lib.hid ((((Blk.made w 31 [.int .i64 (sz : Int), .slice A1 L.length c1, .slice A2 L.length c2] rfl).old (.cells #[.int .i64 0, .slice none 0 0, .slice none 0 0] 31)).old (.cells #[.int .i64 (sz : Int), .slice none 0 0, .slice none 0 0] 31)))
 have HR := Lib.hid ((Blk.made (w.alloc (.cells #[.int .i64 (sz : Int), .slice A1 L.length c1, .slice A2 L.length c2] 31)) 31 [.int .i64 0, .slice none 0 0, .slice none 0 0] (n := w.heap.size + 1) (by simp)).old (.cells #[.int .i64 (sz : Int), .slice none 0 0, .slice none 0 0] 31))
 have HO := Lib.hid (RH.start (Blk.made ((w.alloc (.cells #[.int .i64 (sz : Int), .slice A1 L.length c1, .slice A2 L.length c2] 31)).alloc (.cells #[.int .i64 0, .slice none 0 0, .slice none 0 0] 31)) 31 [.int .i64 (sz : Int), .slice none 0 0, .slice none 0 0] (n := w.heap.size + 1 + 1) (by simp)))
 have HB := Lib.hid (box3 w (.cells #[.int .i64 (sz : Int), .slice A1 L.length c1, .slice A2 L.length c2] 31) (.cells #[.int .i64 0, .slice none 0 0, .slice none 0 0] 31) (.cells #[.int .i64 (sz : Int), .slice none 0 0, .slice none 0 0] 31))
 change Hid (Blk (((w.alloc (.cells #[.int .i64 (sz : Int), .slice A1 L.length c1, .slice A2 L.length c2] 31)).alloc (.cells #[.int .i64 0, .slice none 0 0, .slice none 0 0] 31)).alloc (.cells #[.int .i64 (sz : Int), .slice none 0 0, .slice none 0 0] 31)) _ _) at HK HR
 change Hid (RH (((w.alloc (.cells #[.int .i64 (sz : Int), .slice A1 L.length c1, .slice A2 L.length c2] 31)).alloc (.cells #[.int .i64 0, .slice none 0 0, .slice none 0 0] 31)).alloc (.cells #[.int .i64 (sz : Int), .slice none 0 0, .slice none 0 0] 31)) _ _ _ _ _ _ _) at HO
 obtain ⟨p, hp⟩ : ∃ p, w.heap.size = p := ⟨_, rfl⟩
 rw [hp] at HK HR HO ⊢
 have HP := Lib.hid hp
 obtain ⟨p1, hp1⟩ : ∃ p1, p + 1 = p1 := ⟨_, rfl⟩
 rw [hp1] at HR HO ⊢
 obtain ⟨p2, hp2⟩ : ∃ p2, p1 + 1 = p2 := ⟨_, rfl⟩
 rw [hp2] at HO ⊢
 have HPP : Hid (p < p1 ∧ p1 < p2) := Lib.hid (by omega)
 generalize ((w.alloc (.cells #[.int .i64 (sz : Int), .slice A1 L.length c1, .slice A2 L.length c2] 31)).alloc (.cells #[.int .i64 0, .slice none 0 0, .slice none 0 0] 31)).alloc (.cells #[.int .i64 (sz : Int), .slice none 0 0, .slice none 0 0] 31) = W at *
 clear hp hp1 hp2
 have HPW : Hid (p2 ≤ W.heap.size) := Lib.hid (Nat.le_of_lt HO.out.h.lt)
 go_wp2_with (fail)
 go_loopw [6] (fun I wr => ∃ (i : Nat) (v1 v2 : Value), i ≤ L.length ∧ I = .int .i64 (i : Int) ∧ RH wr p2 p2 sz (nms (rm t.data.toList (L.take i))) (hds (rm t.data.toList (L.take i))) v1 v2 ∧ Below p2 W wr) (fun I _ => L.length - (intOf I).toNat)
 case atStart => exact ⟨0, _, _, by omega, rfl, HO.out, Below.refl _ _⟩
 case round =>
  clear HO
  obtain ⟨i, v1, v2, hi, rfl, ho, hbw⟩ := hrel
  have HO := Lib.hid ho; have HBW := Lib.hid hbw
  have HBA : Hid (Below w.heap.size w wr) := Lib.hid (HB.out.trans (hbw.mono (by rw [HP.out]; have := HPP.out; omega)))
  have HKR : Hid (Blk wr p [.int .i64 (sz : Int), .slice A1 L.length c1, .slice A2 L.length c2]) := Lib.hid (HK.out.kp (Kp.mk (O := fun q => p2 ≤ q) hbw.os hbw.tape hbw.output hbw.size (fun k _ hn => hbw.block k (by omega))) (by have := HPP.out; omega))
  have HRR : Hid (Blk wr p1 [.int .i64 0, .slice none 0 0, .slice none 0 0]) := Lib.hid (HR.out.kp (Kp.mk (O := fun q => p2 ≤ q) hbw.os hbw.tape hbw.output hbw.size (fun k _ hn => hbw.block k (by omega))) (by have := HPP.out; omega))
  have k1 := HKR.out.c 1 _ rfl
  have k2 := HKR.out.c 2 _ rfl
  clear ho hbw
  by_cases hlt : i < L.length
  · have hltz : (i : Int) < (L.length : Int) := by omega
    obtain ⟨G, O, rfl, hc⟩ := HA1.out.old HBA.out (by omega)
    obtain ⟨G2, O2, rfl, hc2⟩ := HA2.out.old HBA.out (by omega)
    have a0 := hc i hlt
    have b0 := hc2 i hlt
    have HE1 := Lib.hid (nmf_at hlt); have HE2 := Lib.hid (hdf_at hlt)
    obtain ⟨y, hy⟩ : ∃ y, nmf L i = y := ⟨_, rfl⟩
    obtain ⟨z, hz⟩ : ∃ z, hdf L i = z := ⟨_, rfl⟩
    rw [hy] at a0 HE1; rw [hz] at b0 HE2
    have HBC : Hid (w.cell? ⟨G2, O2 + i, none⟩ = some (.string z)) := Lib.hid (by
     obtain ⟨B', O', e, hcc⟩ := HA2.out (by omega)
     injection e with e; injection e with e1 e2; subst e1; subst e2
     rw [hcc i hlt, hz])
    clear hc hc2 hy hz
    by_cases he : y.data.toList = t.data.toList
    · have t1 : (y.toList == t.toList) = true := by rw [tol_eq]; exact decide_eq_true he
      have hSN := rm_snoc (n := t.data.toList) hlt
      rw [if_pos (by rw [← he, HE1.out, tx_list])] at hSN
      have HSN := Lib.hid hSN
      clear he hSN
      go_wp2_with (fail)
      go_roundw
      case rel => exact ⟨i + 1, v1, v2, by omega, by go_num, by rw [HSN.out]; exact HO.out, HBW.out⟩
      case measure => simp [intOf]; omega
    · have t1 : (y.toList == t.toList) = false := by rw [tol_eq]; exact decide_eq_false he
      have hSN := rm_snoc (n := t.data.toList) hlt
      rw [if_neg (fun q => he (by rw [HE1.out, tx_list, q]))] at hSN
      have HSN := Lib.hid hSN
      have hk := rm_len t.data.toList (L.take i)
      have hk2 : (rm t.data.toList (L.take i)).length ≤ 1000000 := by
       have : (L.take i).length ≤ i := by simp; omega
       omega
      obtain ⟨X, hX⟩ : ∃ X, nms (rm t.data.toList (L.take i)) = X := ⟨_, rfl⟩
      obtain ⟨Y, hY⟩ : ∃ Y, hds (rm t.data.toList (L.take i)) = Y := ⟨_, rfl⟩
      have hXl : X.length ≤ 1000000 := by rw [← hX, nms_len]; exact hk2
      have hYl : Y.length ≤ 1000000 := by rw [← hY, hds_len]; exact hk2
      rw [hX, hY] at HO
      have HX : Hid (nms (rm t.data.toList (L.take (i + 1))) = X ++ [.string y]) := Lib.hid (by rw [hSN, nms_snoc, hX, HE1.out])
      have HY : Hid (hds (rm t.data.toList (L.take (i + 1))) = Y ++ [.string z]) := Lib.hid (by rw [hSN, hds_snoc, hY, HE2.out])
      have hrs : p2 ≤ wr.heap.size := Nat.le_trans HPW.out HBW.out.size
      have HRS := Lib.hid hrs
      have hba := box1 wr (.cells #[.string y] 9)
      have hb1 : Below wr.heap.size wr (wr.alloc (.cells #[.string y] 9)).drew := below_drewN hba 1
      have HB1 := Lib.hid hb1
      have HO1 := Lib.hid (owns_old HO.out.o1 hb1)
      have x1 := HO.out.h.c 1 _ rfl
      have x2 := (HO.out.h.next hba).c 1 _ rfl
      have HNW := Lib.hid (one_news wr (.string y) 9)
      have HKQ := Lib.hid hlt
      clear he hSN hk hk2 hX hY hb1 hba HE1 HE2 HSN hrs
      go_wp2_with (fail)
      go_region_law (refine step_append_lies _ rfl (.tmp 25) (.tmp 31) 29 rfl p2 9 iS (.string ⟨#[]⟩) 1 16 Try.underlying29 HIS.out HZS.out HSS.out HBS.out rfl (by decide) v1 X.length X (by simp [Act.eval]) (by exact HO1.out) ⟨wr.heap.size, 0, none⟩ 1 1 [.string y] (by simp [Act.eval]) rfl (by exact HNW.out) (fun u hu => by simp at hu; subst hu; rfl) (by omega) (by unfold maxLen; omega) (by omega) (by exact Nat.le_trans HRS.out HB1.out.size) (wr.heap.size + 1) (by simp) ?_
                     intro g cap w4 hown' hgrow hat _
                     have hq := RH.app1 HO.out HB1.out (.string y) hown' hgrow (hat.imp id (by omega))
                     have HB4 : Hid (Below p2 W w4) := Lib.hid ((HBW.out.trans (HB1.out.mono HRS.out)).grown hgrow (Nat.le_trans HPW.out (Nat.le_trans HBW.out.size HB1.out.size)) (fun q e => by
                      rcases HO1.out.2 with ⟨e2, _⟩ | ⟨g2, cap2, cur, e2, hlo, _⟩
                      · rw [e2] at e; cases e
                      · rw [e2] at e; rw [own_is e]; exact hlo))
                     have x3 := hq.2.c 1 _ rfl
                     have x4 := hq.2.f 1 _ rfl
                     have HQ := Lib.hid hq.1
                     clear hown' hgrow hat hq)
      all_goals
       have HB5 := Lib.hid (HB4.out.setCell (p := ⟨p2, 1, none⟩) (Nat.le_refl _) (.slice (some ⟨g, 0, none⟩) (X.length + 1) cap))
       generalize w4.setCell ⟨p2, 1, none⟩ (.slice (some ⟨g, 0, none⟩) (X.length + 1) cap) = w5 at *
       clear x1 x2 x3 x4 HO1 HB1 HNW HO HB4 HBW HRS k1 k2 a0 b0
       have hba5 : Below w.heap.size w w5 := HB.out.trans (HB5.out.mono (by rw [HP.out]; have := HPP.out; omega))
       have k1 := (HK.out.kp (Kp.mk (O := fun q => p2 ≤ q) HB5.out.os HB5.out.tape HB5.out.output HB5.out.size (fun k _ hn => HB5.out.block k (by omega))) (by have := HPP.out; omega)).c 2 _ rfl
       have b0 := (hba5.cell (p := ⟨G2, O2 + i, none⟩) (block_lt_of_cell HBC.out)).trans HBC.out
       have hrs5 : p2 ≤ w5.heap.size := Nat.le_trans HPW.out HB5.out.size
       have HRS := Lib.hid hrs5
       have hba := box1 w5 (.cells #[.string z] 9)
       have hb1 : Below w5.heap.size w5 (w5.alloc (.cells #[.string z] 9)).drew := below_drewN hba 1
       have HB1 := Lib.hid hb1
       have HO2 := Lib.hid (owns_old HQ.out.o2 hb1)
       have x1 := HQ.out.h.c 2 _ rfl
       have x2 := (HQ.out.h.next hba).c 2 _ rfl
       have HNW := Lib.hid (one_news w5 (.string z) 9)
       clear hba hb1 hrs5 hba5
       go_wp2_with (fail)
       go_region_law (refine step_append_lies _ rfl (.tmp 35) (.tmp 41) 29 rfl p2 9 iS (.string ⟨#[]⟩) 1 16 Try.underlying29 HIS.out HZS.out HSS.out HBS.out rfl (by decide) v2 Y.length Y (by simp [Act.eval]) (by exact HO2.out) ⟨w5.heap.size, 0, none⟩ 1 1 [.string z] (by simp [Act.eval]) rfl (by exact HNW.out) (fun u hu => by simp at hu; subst hu; rfl) (by omega) (by unfold maxLen; omega) (by omega) (by exact Nat.le_trans HRS.out HB1.out.size) (w5.heap.size + 1) (by simp) ?_
                      intro g3 cap3 w6 hown' hgrow hat _
                      have hq := RH.app2 HQ.out HB1.out (.string z) hown' hgrow (hat.imp id (by omega))
                      have HB6 : Hid (Below p2 W w6) := Lib.hid ((HB5.out.trans (HB1.out.mono HRS.out)).grown hgrow (Nat.le_trans HRS.out HB1.out.size) (fun q e => by
                       rcases HO2.out.2 with ⟨e2, _⟩ | ⟨g2, cap2, cur, e2, hlo, _⟩
                       · rw [e2] at e; cases e
                       · rw [e2] at e; rw [own_is e]; exact hlo))
                      have x3 := hq.2.c 2 _ rfl
                      have x4 := hq.2.f 2 _ rfl
                      have HQ2 := Lib.hid hq.1
                      clear hown' hgrow hat hq)
       all_goals
        go_wp2_with (fail)
        go_roundw
        case rel => exact ⟨i + 1, _, _, by have := HKQ.out; omega, by go_num, by rw [HX.out, HY.out]; exact HQ2.out, HB6.out.setCell (p := ⟨p2, 2, none⟩) (Nat.le_refl _) _⟩
        case measure => have := HKQ.out; simp [intOf]; omega
  · obtain rfl : i = L.length := by omega
    rw [List.take_length] at HO
    obtain ⟨B1, d1, e1, _⟩ := own_slice HO.out.o1
    obtain ⟨B2, d2, e2, _⟩ := own_slice HO.out.o2
    subst e1; subst e2
    have c0 := HO.out.h.c 0 _ rfl; have c1' := HO.out.h.c 1 _ rfl; have c2' := HO.out.h.c 2 _ rfl
    have r0 := HRR.out.c 0 _ rfl; have r1 := HRR.out.c 1 _ rfl; have r2 := HRR.out.c 2 _ rfl
    have f0 := HRR.out.f 0 _ rfl; have f1 := HRR.out.f 1 _ rfl; have f2 := HRR.out.f 2 _ rfl
    have HRF := Lib.hid (Dk.Blk.set3 HRR.out (.int .i64 (sz : Int)) (.slice B1 (nms (rm t.data.toList L)).length d1) (.slice B2 (hds (rm t.data.toList L)).length d2))
    have HKS := Lib.hid (Dk.set3 wr p1 (.int .i64 (sz : Int)) (.slice B1 (nms (rm t.data.toList L)).length d1) (.slice B2 (hds (rm t.data.toList L)).length d2))
    clear hlt
    go_wp2_with (fail)
    have g0 := HRF.out.c 0 _ rfl; have g1 := HRF.out.c 1 _ rfl; have g2 := HRF.out.c 2 _ rfl
    refine bodyPost_ret (v := rdv3 sz (.slice B1 (nms (rm t.data.toList L)).length d1) (.slice B2 (hds (rm t.data.toList L)).length d2)) (by simp [results, Try.results19, go_sem, g0, g1, g2]; rfl) rfl ⟨_, _, p2, p2, rfl, HO.out.far HKS.out HPP.out.2, by rw [HP.out]; have := HPP.out; omega, ?_⟩
    exact HBA.out.trans (HKS.out.below (fun b e => by rw [e, HP.out]; exact Nat.le_of_lt HPP.out.1) HBA.out.size)
theorem rwithout_any (sz : Nat) (L : Ls) (v1 v2 : Value) (t : ByteArray) (w : World) (h : RD w L v1 v2) (hl : L.length ≤ 1000000) :
 Calls Try.prog 19 #[rdv3 sz v1 v2, .string t] w (WoQ sz (rm t.data.toList L) w) :=
 (rwithout_own sz L v1 v2 t w h hl).mono fun _ _ ⟨v1, v2, _, _, he, hr, _, hb⟩ => ⟨v1, v2, he, hr.rd, hb⟩
end Go.Proofs.Ytchmepalhldpcaa.Dk

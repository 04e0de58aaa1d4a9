/-
  A text of this claim: DkPlays.
-/
import Derived.Test.YtchmepalhldpcaaQ4
import Derived.Test.YtchmepalhldpcaaQ1
import Derived.Deep.RegionHeld3
import Derived.Deep.CutRange
namespace Go.Proofs.Ytchmepalhldpcaa.Dk
open Go.ChangeShapes Go.WideShapes Go.ChangeAt Go.RowKit Go.ChangeMaps Go.Maps Go.MapKept Ov
set_option maxHeartbeats 16000000 in
set_option maxRecDepth 100000 in
theorem plays_core (size : Int) (A : Option Addr) (c : Nat) (l : List Ac) (w : World) (hA : Acs w A l) :
 Calls Try.prog 3 #[.int .i64 size, .slice A l.length c] w (Gives (.bool true) w) := by
 have HA := Lib.hid hA
 have HAW := Lib.hid (awake_any w)
 clear hA
 go_enter Try.func3, Try.ntmps3
 go_wp2_with (fail)
 refine HAW.out.mono ?_
 rintro e w1 ⟨rfl, hb1⟩
 have HB1 := Lib.hid hb1
 have HF := Lib.hid (few_any A c l w1 (HA.out.old hb1))
 clear hb1 HAW
 go_wp2_with (fail)
 refine HF.out.mono ?_
 rintro e w2 ⟨q, rfl, hb2, hq⟩
 have HB2 := Lib.hid (Below.next HB1.out hb2)
 have HQ := Lib.hid hq
 clear hb2 hq HF HB1
 cases q with
 | false =>
   go_wp2_with (fail)
   refine (awake_any w2).mono ?_
   rintro e w3 ⟨rfl, hb⟩
   have HB3 := Lib.hid (Below.next HB2.out hb)
   clear hb
   go_wp2_with (fail)
   go_ret
   exact ⟨rfl, HB3.out⟩
 | true =>
   have HL := Lib.hid (HQ.out rfl)
   clear HQ
   by_cases hsz : 0 ≤ size ∧ size ≤ 4194304
   · obtain ⟨sz, rfl⟩ : ∃ sz : Nat, size = (sz : Int) := ⟨size.toNat, by omega⟩
     have hz : sz ≤ 4194304 := by omega
     have hnw := new_yes sz hz w2
     have ts1 : decide ((sz : Int) < 0) = false := decide_eq_false (by omega)
     have ts2 : decide ((4194304 : Int) < (sz : Int)) = false := decide_eq_false (by omega)
     clear hsz
     go_wp2_with (fail)
     refine hnw.mono ?_
     rintro e w3 ⟨rfl, h3, hb3⟩
     obtain ⟨D, hD⟩ : ∃ D, w2.heap.size + 1 = D := ⟨_, rfl⟩
     rw [hD] at h3 ⊢
     have hM3 : Mine w D sz [] w3 := ⟨_, h3, fun b hb => Nat.le_trans HB2.out.size (nO_lo hb), Below.next HB2.out hb3⟩
     obtain ⟨O3, i3, o3, b3⟩ := hM3
     have HP4 := Lib.hid (Pl.start i3 o3 b3)
     clear h3 hb3 i3 o3 b3 hD hnw
     go_wp2_with (fail)
     obtain ⟨M, hM⟩ : ∃ M, w3.heap.size = M := ⟨_, rfl⟩
     rw [hM] at HP4 ⊢
     generalize (w3.alloc (.cells #[.int .i64 (sz : Int), .slice none 0 0, .slice none 0 0] 31)) = w4 at *
     clear hM
     go_loopg [8] l.length (fun kx s8 wr => ∃ (i : Nat) (L : Ls) (O : Nat → Prop) (v1 v2 : Value), i ≤ l.length ∧ l.length - i ≤ kx ∧ s8 = .int .i64 (i : Int) ∧ Hid (Pl w O D M sz L v1 v2 wr))
     case atStart => exact ⟨0, _, _, _, _, by omega, by omega, rfl, HP4⟩
     case round =>
      clear HP4
      obtain ⟨i, L, O, v1, v2, hi, hkx, rfl, HP0⟩ := hrel
      by_cases hlt : i < l.length
      · have hltz : (i : Int) < (l.length : Int) := by omega
        have hAr := HA.out.old HP0.out.b
        obtain ⟨G, Q, rfl⟩ := hAr.shape (by omega)
        have k0 := hAr.cell hlt 0 _ rfl; have k1 := hAr.cell hlt 1 _ rfl; have k2 := hAr.cell hlt 2 _ rfl; have k3 := hAr.cell hlt 3 _ rfl; have k4 := hAr.cell hlt 4 _ rfl
        rw [Nat.add_zero] at k0
        have hmx := HL.out.2 _ (ad_mem hlt)
        clear hAr
        obtain ⟨x, hx⟩ : ∃ x, ad l i = x := ⟨_, rfl⟩
        rw [hx] at k0 k1 k2 k3 k4 hmx
        have HX := Lib.hid hx
        have hd := done_any x (Nat.le_trans hmx.1 (by unfold maxLen; omega)) (Nat.le_trans hmx.2 (by omega)) wr HP0.out.i
        change Calls _ _ #[_, .agg #[.int .u8 (x.o.toNat : Int), .string x.n, .string x.s, .int .i64 x.i, .int .u8 (x.b.toNat : Int)]] _ _ at hd
        have HD := Lib.hid hd
        have HMX := Lib.hid hmx
        clear hd hx hmx
        go_wp2_with (fail)
        refine HD.out.mono ?_
        rintro e w5 ⟨rfl, ht⟩
        obtain ⟨O5, hP5⟩ := HP0.out.turn ht
        have HP5 := Lib.hid hP5
        have hA5 := HA.out.old hP5.b
        have j0 := hA5.cell hlt 0 _ rfl; have j1 := hA5.cell hlt 1 _ rfl; have j2 := hA5.cell hlt 2 _ rfl; have j3 := hA5.cell hlt 3 _ rfl; have j4 := hA5.cell hlt 4 _ rfl
        rw [Nat.add_zero, HX.out] at j0
        rw [HX.out] at j1 j2 j3 j4
        obtain ⟨A1, c1, A2, c2, e1, e2⟩ := rd_slices HP5.out.r
        subst e1; subst e2
        have hpl := fun (W : World) (hb : Below w5.heap.size w5 W) => plainly_any sz L (.slice A1 L.length c1) (.slice A2 L.length c2) x W (HP5.out.r.next hb) HP0.out.i.room hz HP0.out.i.srt (fun y hy => (HP0.out.i.names y hy).1) (Nat.le_trans HMX.out.2 (by omega))
        unfold rdv3 at hpl
        obtain ⟨q, hq⟩ : ∃ q, stp sz L x = q := ⟨_, rfl⟩
        rw [hq] at HP5 hpl ⊢
        have HPL := Lib.hid hpl
        have m0 := HP5.out.c.c 0 _ rfl; have m1 := HP5.out.c.c 1 _ rfl; have m2 := HP5.out.c.c 2 _ rfl
        have CK : Hid (∀ W : World, Below w5.heap.size w5 W → W.cell? ⟨M, 0, none⟩ = some (.int .i64 (sz : Int)) ∧ W.cell? ⟨M, 1, none⟩ = some (.slice A1 L.length c1) ∧ W.cell? ⟨M, 2, none⟩ = some (.slice A2 L.length c2) ∧ W.cell? ⟨G, Q + i * 5, none⟩ = some (.int .u8 (x.o.toNat : Int)) ∧ W.cell? ⟨G, Q + i * 5 + 1, none⟩ = some (.string x.n) ∧ W.cell? ⟨G, Q + i * 5 + 2, none⟩ = some (.string x.s) ∧ W.cell? ⟨G, Q + i * 5 + 3, none⟩ = some (.int .i64 x.i) ∧ W.cell? ⟨G, Q + i * 5 + 4, none⟩ = some (.int .u8 (x.b.toNat : Int))) := Lib.hid fun W hb => ⟨(hb.cell HP5.out.c.lt).trans m0, (hb.cell HP5.out.c.lt).trans m1, (hb.cell HP5.out.c.lt).trans m2, (hb.cell (p := ⟨G, _, none⟩) (block_lt_of_cell j0)).trans j0, (hb.cell (p := ⟨G, _, none⟩) (block_lt_of_cell j1)).trans j1, (hb.cell (p := ⟨G, _, none⟩) (block_lt_of_cell j2)).trans j2, (hb.cell (p := ⟨G, _, none⟩) (block_lt_of_cell j3)).trans j3, (hb.cell (p := ⟨G, _, none⟩) (block_lt_of_cell j4)).trans j4⟩
        have hM5 : M < w5.heap.size := HP5.out.c.lt
        have hG5 : G < w5.heap.size := block_lt_of_cell j0
        clear ht hP5 hA5 hpl hq k0 k1 k2 k3 k4 HD HMX HX
        go_upto_region 11 with (fail)
        go_cut [11, 12, 13] from 56 to 65 (fun s11 s12 s13 wx => ∃ (b1 : Nat) (B1 : Option Addr) (d1 : Nat) (B2 : Option Addr) (d2 : Nat), s11 = .pointer (some ⟨b1, 0, none⟩) ∧ s12 = .string (tx q.2.1) ∧ s13 = .int .i64 q.2.2 ∧ Hid (Blk wx b1 [.int .i64 (sz : Int), .slice B1 q.1.length d1, .slice B2 q.1.length d2]) ∧ Hid (RD wx q.1 (.slice B1 q.1.length d1) (.slice B2 q.1.length d2)) ∧ Hid (Below w5.heap.size w5 wx) ∧ Hid (Fm w5.heap.size wx (.slice A1 L.length c1) (.slice A2 L.length c2) (.slice B1 q.1.length d1) (.slice B2 q.1.length d2)))
        case first =>
         go_region_held3 (fun w' => w'.cell? ⟨M, 0, none⟩ = some (.int .i64 (sz : Int)) ∧ w'.cell? ⟨M, 1, none⟩ = some (.slice A1 L.length c1) ∧ w'.cell? ⟨M, 2, none⟩ = some (.slice A2 L.length c2) ∧ w'.cell? ⟨G, Q + i * 5, none⟩ = some (.int .u8 (x.o.toNat : Int)) ∧ w'.cell? ⟨G, Q + i * 5 + 1, none⟩ = some (.string x.n) ∧ w'.cell? ⟨G, Q + i * 5 + 2, none⟩ = some (.string x.s) ∧ w'.cell? ⟨G, Q + i * 5 + 3, none⟩ = some (.int .i64 x.i) ∧ w'.cell? ⟨G, Q + i * 5 + 4, none⟩ = some (.int .u8 (x.b.toNat : Int))) (go_keep)
          (first
          | (go_at_call 8
             refine (HPL.out (w5.drewN 1) (below_drewN (Below.refl _ _) 1)).mono ?_
             rintro e w6 ⟨u1, u2, rfl, hrd, hb, hfm⟩
             obtain ⟨B1, d1, B2, d2, e1, e2⟩ := rd_slices hrd
             subst e1; subst e2
             have hk6 : Below w5.heap.size w5 w6 := Below.next (below_drewN (Below.refl _ _) 1) hb
             have HB6 := Lib.hid hk6; have HRD6 := Lib.hid hrd; have HFM6 := Lib.hid hfm
             unfold rdv3
             have hM6 : M < w6.heap.size := Nat.lt_of_lt_of_le hM5 hk6.size
             have hG6 : G < w6.heap.size := Nat.lt_of_lt_of_le hG5 hk6.size
             obtain ⟨y0, y1, y2, z0, z1, z2, z3, z4⟩ := CK.out w6 hk6
             clear hb hk6 hrd hfm)
          | (go_at_call 8
             refine (HPL.out ((w5.drewN 1).alloc (.cells #[.int .i64 0, .slice none 0 0, .slice none 0 0] 31)) ((below_drewN (Below.refl _ _) 1).alloc (Nat.le_refl _) (.cells #[.int .i64 0, .slice none 0 0, .slice none 0 0] 31))).mono ?_
             rintro e w6 ⟨u1, u2, rfl, hrd, hb, hfm⟩
             obtain ⟨B1, d1, B2, d2, e1, e2⟩ := rd_slices hrd
             subst e1; subst e2
             have hk6 : Below w5.heap.size w5 w6 := Below.next ((below_drewN (Below.refl _ _) 1).alloc (Nat.le_refl _) (.cells #[.int .i64 0, .slice none 0 0, .slice none 0 0] 31)) hb
             have HB6 := Lib.hid hk6; have HRD6 := Lib.hid hrd; have HFM6 := Lib.hid hfm
             have HZ6 : Hid (Blk w6 w5.heap.size [.int .i64 0, .slice none 0 0, .slice none 0 0]) := (Blk.made (w5.drewN 1) 31 [.int .i64 0, .slice none 0 0, .slice none 0 0] rfl).next hb
             have HH6 : Hid (w6.heap[w5.heap.size]? = some (.cells #[.int .i64 0, .slice none 0 0, .slice none 0 0] 31)) := Lib.hid ((hb.block _ (by simp)).trans (heap_alloc (w5.drewN 1) (.cells #[.int .i64 0, .slice none 0 0, .slice none 0 0] 31)).1)
             have s0 := HZ6.out.c 0 _ rfl; have s1 := HZ6.out.c 1 _ rfl; have s2 := HZ6.out.c 2 _ rfl
             have f0 := HZ6.out.f 0 _ rfl; have f1 := HZ6.out.f 1 _ rfl; have f2 := HZ6.out.f 2 _ rfl
             have zl := HZ6.out.lt
             unfold rdv3
             have zn1 : ¬ w5.heap.size = M := by omega
             have zn2 : ¬ w5.heap.size = G := by omega
             obtain ⟨y0, y1, y2, z0, z1, z2, z3, z4⟩ := CK.out w6 hk6
             clear hb hk6 hrd hfm))
         all_goals (rename_i hHd; clear hHd)
         all_goals go_wp2_with fail
         all_goals go_meet
         · exact ⟨w6.heap.size, B1, d1, B2, d2, rfl, rfl, rfl, Lib.hid (Blk.made w6 31 [.int .i64 (sz : Int), .slice B1 q.1.length d1, .slice B2 q.1.length d2] rfl), Lib.hid (HRD6.out.next (box1 w6 _)), Lib.hid (Below.next HB6.out (box1 w6 _)), Lib.hid (HFM6.out.mono (Nat.le_refl _) (box1 w6 _).size)⟩
         · have hk := Dk.set3 w6 w5.heap.size (.int .i64 (sz : Int)) (.slice B1 q.1.length d1) (.slice B2 q.1.length d2)
           exact ⟨w5.heap.size, B1, d1, B2, d2, rfl, rfl, rfl, Lib.hid (Blk.set3 HZ6.out _ _ _), Lib.hid (HRD6.out.far HH6.out hk), Lib.hid (HB6.out.trans (hk.below (fun b e => by rw [e]; exact Nat.le_refl _) HB6.out.size)), Lib.hid (HFM6.out.mono (by simp) hk.size)⟩
        case rest =>
         obtain ⟨b1, B1, d1, B2, d2, rfl, rfl, rfl, HE6, HRD6, HB6, HFM6⟩ := hcut
         generalize wc = w6 at *
         have HP6 := Lib.hid (HP5.out.next HB6.out)
         have HP7 := Lib.hid (Pm.lay HP5.out HB6.out HRD6.out HFM6.out)
         have e0 := HE6.out.c 0 _ rfl; have e1 := HE6.out.c 1 _ rfl; have e2 := HE6.out.c 2 _ rfl
         have n0 := HP6.out.c.c 0 _ rfl; have n1 := HP6.out.c.c 1 _ rfl; have n2 := HP6.out.c.c 2 _ rfl
         have f0 := HP6.out.c.f 0 _ rfl; have f1 := HP6.out.c.f 1 _ rfl; have f2 := HP6.out.c.f 2 _ rfl
         clear CK hM5 hG5 HPL m0 m1 m2 j0 j1 j2 j3 j4
         go_upto_region 13 with (fail)
         generalize (((w6.setCell ⟨M, 0, none⟩ (.int .i64 (sz : Int))).setCell ⟨M, 1, none⟩ (.slice B1 q.1.length d1)).setCell ⟨M, 2, none⟩ (.slice B2 q.1.length d2)) = w7 at *
         have hrm := fun (W : World) (hb : Below w7.heap.size w7 W) => room_any W (HP7.out.i.next hb)
         have hnm := fun (W : World) (hb : Below w7.heap.size w7 W) => names_any W (HP7.out.i.next hb)
         have hrr := fun (W : World) (hb : Below w7.heap.size w7 W) => rroom_any sz q.1 (.slice B1 q.1.length d1) (.slice B2 q.1.length d2) W (HP7.out.r.next hb) HP7.out.i.room hz
         unfold rdv3 at hrr
         obtain ⟨rm, hrm7⟩ : ∃ rm : Nat, sz - us q.1 = rm := ⟨_, rfl⟩
         rw [hrm7] at hrm hrr
         have HRM := Lib.hid hrm; have HNM := Lib.hid hnm; have HRR := Lib.hid hrr
         have r0 := HP7.out.c.c 0 _ rfl; have r1 := HP7.out.c.c 1 _ rfl; have r2 := HP7.out.c.c 2 _ rfl
         have hl7 : q.1.length ≤ 1000000 := by have := us_len q.1; have := HP7.out.i.room; omega
         have CK : Hid (∀ W : World, Below w7.heap.size w7 W → W.cell? ⟨M, 0, none⟩ = some (.int .i64 (sz : Int)) ∧ W.cell? ⟨M, 1, none⟩ = some (.slice B1 q.1.length d1) ∧ W.cell? ⟨M, 2, none⟩ = some (.slice B2 q.1.length d2)) := Lib.hid fun W hb => ⟨(hb.cell HP7.out.c.lt).trans r0, (hb.cell HP7.out.c.lt).trans r1, (hb.cell HP7.out.c.lt).trans r2⟩
         clear hrm hnm hrr hrm7 HE6 HP6 HP5 HRD6 HB6 HFM6 e0 e1 e2 n0 n1 n2 f0 f1 f2
         have HRMo := Lib.hid (fun q : Over w7 => over_gives q (HRM.out q.val q.property))
         have HRRo := Lib.hid (fun q : Over w7 => over_gives q (HRR.out q.val q.property))
         have k0 := fun q : Over w7 => over_cell q r0
         have k1 := fun q : Over w7 => over_cell q r1
         have k2 := fun q : Over w7 => over_cell q r2
         refine wp_over_head 16 (by kernel_rfl) (by kernel_rfl) ?_
         simp only [List.take_succ_cons, List.take_zero]
         repeat (go_big_quiet_step (first | with_reducible exact HRMo.out _ | with_reducible exact HRRo.out _))
         refine wpQuiet_nil ?_
         rintro w8 ⟨⟨w8, hb8⟩, rfl⟩
         clear k0 k1 k2 HRMo HRRo
         have HB8 := Lib.hid hb8
         clear hb8 r0 r1 r2
         obtain ⟨y0, y1, y2⟩ := CK.out w8 HB8.out
         show wpAny _ _ _ _ 7 _ _ _
         refine wpAny_take (i := 16) (v := .pointer (some ⟨D, 0, none⟩)) rfl (by kernel_rfl) (by kernel_rfl) (by kernel_rfl) (fun _ _ _ h => h) (Or.inl ⟨by rfl, ?_⟩) ?_
         · intro w; go_simp
         refine wpAny_take (i := 18) (v := .pointer (some ⟨M, 1, none⟩)) rfl (by kernel_rfl) (by kernel_rfl) (by kernel_rfl) (fun _ _ _ h => h) (Or.inl ⟨by rfl, ?_⟩) ?_
         · intro w; go_simp
         simp only [Act.put, List.setIfInBounds_toArray]
         refine wpAny_ready (rs := [17, 19]) (by kernel_rfl) (by simp) ?_
         refine AllReady.cons rfl (fun K hK => ?_) ?_
         · go_simp
           refine (HNM.out _ HB8.out).mono ?_
           rintro e w9 ⟨vn, rfl, hon, hb9⟩
           have HB9 := Lib.hid (Below.next HB8.out hb9)
           obtain ⟨z0, z1, z2⟩ := CK.out w9 HB9.out
           obtain ⟨N1, k1, rfl, _⟩ := own_slice hon
           have HON := Lib.hid (strs_row hon (f := nmf q.1) fun i hi => by rw [nms_at q.1 i hi, nmf_at hi])
           clear hb9 hon
           refine hK _ _ ?_
           clear hK K
           refine wpAny_ready (rs := [19]) (by kernel_rfl) (by simp) ?_
           refine AllReady.cons rfl (fun K hK => ?_) AllReady.nil
           go_simp
           refine hK _ _ ?_
           clear hK K
           refine wpAny_ready (rs := [20]) (by kernel_rfl) (by simp) ?_
           refine AllReady.cons rfl (fun K hK => ?_) AllReady.nil
           go_simp
           refine (same_yes _ _ _ _ _ _ _ HON.out (rd_strs (HP7.out.r.next HB9.out)).1 hl7).mono ?_
           rintro e w10 ⟨rfl, hb10⟩
           have HB10 := Lib.hid (Below.next HB9.out hb10)
           clear hb10
           refine hK _ _ ?_
           clear hK K
           refine wpAny_take (i := 21) (v := .bool false) rfl (by kernel_rfl) (by kernel_rfl) (by kernel_rfl) (fun _ _ _ h => h) (Or.inl ⟨by rfl, ?_⟩) ?_
           · intro w; go_simp
           refine wpAny_take (i := 22) (v := .bool false) rfl (by kernel_rfl) (by kernel_rfl) (by kernel_rfl) (fun _ _ _ h => h) (Or.inl ⟨by rfl, ?_⟩) ?_
           · intro w; go_simp
           simp only [Act.put, List.setIfInBounds_toArray]
           refine wpAny_done (by kernel_rfl) ?_ _
           have HP8 := Lib.hid (HP7.out.next HB10.out)
           have hl100 : l.length ≤ 100 := HL.out.1
           go_wp2_with (fail)
           go_roundg (l.length - (i + 1))
           · exact ⟨i + 1, q.1, _, _, _, by omega, by omega, by first | rfl | (congr 1; omega), HP8⟩
           · omega
         refine AllReady.cons rfl (fun K hK => ?_) AllReady.nil
         · go_simp
           refine hK _ _ ?_
           clear hK K
           refine wpAny_ready (rs := [17]) (by kernel_rfl) (by simp) ?_
           refine AllReady.cons rfl (fun K hK => ?_) AllReady.nil
           go_simp
           refine (HNM.out _ HB8.out).mono ?_
           rintro e w9 ⟨vn, rfl, hon, hb9⟩
           have HB9 := Lib.hid (Below.next HB8.out hb9)
           obtain ⟨z0, z1, z2⟩ := CK.out w9 HB9.out
           obtain ⟨N1, k1, rfl, _⟩ := own_slice hon
           have HON := Lib.hid (strs_row hon (f := nmf q.1) fun i hi => by rw [nms_at q.1 i hi, nmf_at hi])
           clear hb9 hon
           refine hK _ _ ?_
           clear hK K
           refine wpAny_ready (rs := [20]) (by kernel_rfl) (by simp) ?_
           refine AllReady.cons rfl (fun K hK => ?_) AllReady.nil
           go_simp
           refine (same_yes _ _ _ _ _ _ _ HON.out (rd_strs (HP7.out.r.next HB9.out)).1 hl7).mono ?_
           rintro e w10 ⟨rfl, hb10⟩
           have HB10 := Lib.hid (Below.next HB9.out hb10)
           clear hb10
           refine hK _ _ ?_
           clear hK K
           refine wpAny_take (i := 21) (v := .bool false) rfl (by kernel_rfl) (by kernel_rfl) (by kernel_rfl) (fun _ _ _ h => h) (Or.inl ⟨by rfl, ?_⟩) ?_
           · intro w; go_simp
           refine wpAny_take (i := 22) (v := .bool false) rfl (by kernel_rfl) (by kernel_rfl) (by kernel_rfl) (fun _ _ _ h => h) (Or.inl ⟨by rfl, ?_⟩) ?_
           · intro w; go_simp
           simp only [Act.put, List.setIfInBounds_toArray]
           refine wpAny_done (by kernel_rfl) ?_ _
           have HP8 := Lib.hid (HP7.out.next HB10.out)
           have hl100 : l.length ≤ 100 := HL.out.1
           go_wp2_with (fail)
           go_roundg (l.length - (i + 1))
           · exact ⟨i + 1, q.1, _, _, _, by omega, by omega, by first | rfl | (congr 1; omega), HP8⟩
           · omega
      · have hltz : ¬ (i : Int) < (l.length : Int) := by omega
        have HB := Lib.hid HP0.out.b
        go_wp2_with (fail)
        go_ret
        exact ⟨rfl, HB.out⟩
   · have hnw := new_no size hsz w2
     have HSZ := Lib.hid hsz
     clear hsz
     go_wp2_with (fail)
     refine hnw.mono ?_
     rintro e w3 ⟨rfl, hb⟩
     have HB3 := Lib.hid (Below.next HB2.out hb)
     clear hb hnw
     by_cases h0 : size < 0
     · have ts1 : decide (size < 0) = true := decide_eq_true h0
       go_wp2_with (fail)
       go_ret
       exact ⟨rfl, HB3.out⟩
     · have ts1 : decide (size < 0) = false := decide_eq_false h0
       have ts2 : decide ((4194304 : Int) < size) = true := decide_eq_true (by have := HSZ.out; omega)
       go_wp2_with (fail)
       go_ret
       exact ⟨rfl, HB3.out⟩
end Go.Proofs.Ytchmepalhldpcaa.Dk

/-
  A text of this claim: FrScansW.
-/
import Derived.Test.YtchmepalhldpcaaGreatDoorQ3
import Derived.Test.YtchmepalhldpcaaGreatDoorQ4
import Derived.Test.YtchmepalhldpcaaGreatDoorQ2
import Derived.Deep.CutRange
import Derived.Deep.CutBlock
namespace Go.Proofs.YtchmepalhldpcaaGreatDoor.Fr
open Go.ChangeShapes Go.WideShapes Go.ChangeAt Go.RowKit Go.Sort Ov Dk Cr
theorem ids_at {w : World} {G P : Nat} {l : List Fd} (h : Ids w (some ⟨G, P, none⟩) l) {k : Nat} (hk : k < l.length) {x : Fd} (hx : pd l k = x) : w.cell? ⟨G, P + k * 4, none⟩ = some (.int .i64 x.t) ∧ w.cell? ⟨G, P + k * 4 + 1, none⟩ = some (.int .i64 x.a) ∧ w.cell? ⟨G, P + k * 4 + 2, none⟩ = some (.int .i64 x.p) ∧ w.cell? ⟨G, P + k * 4 + 3, none⟩ = some (.int .i64 x.f) := by
 subst hx
 exact ⟨h.cell hk 0 _ rfl, h.cell hk 1 _ rfl, h.cell hk 2 _ rfl, h.cell hk 3 _ rfl⟩
set_option maxRecDepth 100000 in
set_option maxHeartbeats 8000000 in
theorem scans_core (l : List Fd) (A0 : Option Addr) (c0 : Nat) (m cS : Nat) (S0 : Option Addr) (ts : Nat → ByteArray) (tk at' : Int) (w : World) (hl : Ids w A0 l) (hlc : l.length ≤ maxLen) (hs : StrIn w S0 m cS ts) (hz : ∀ i, i < m → (ts i).size ≤ 200000000000000) (hT : Tab w) (hE : Ers w) :
 Calls Tryz.prog 4 #[.slice A0 l.length c0, .slice S0 m cS, .int .i64 tk, .int .i64 at'] w (Gives (.bool true) w) := by
 have HT := Lib.hid hT; have HE := Lib.hid hE; have HL := Lib.hid hl; have HS := Lib.hid hs; have HZ := Lib.hid hz
 have HOF := Lib.hid (fun x W => lof_any x W)
 have hlm : l.length ≤ 9223372036854775807 := hlc
 have hmm : m ≤ 9223372036854775807 := hs.2.1
 have HLM := Lib.hid hlc
 clear hT hE hl hs hz hlc
 go_enter Tryz.func4, Tryz.ntmps4
 go_wp2_with (fail)
 refine (awake_any w HT.out).mono ?_
 rintro e w1 ⟨rfl, hb⟩
 have HB1 := Lib.hid hb
 have HT1 := Lib.hid (HT.out.next HB1.out)
 have HE1 := Lib.hid (HE.out.next HB1.out)
 have HL1 := Lib.hid (HL.out.next HB1.out)
 have HS1 := Lib.hid (HS.out.1.old HB1.out)
 clear hb HT HE HL HS
 by_cases h30 : (30 : Int) < (l.length : Int)
 · have t1 : decide ((30 : Int) < (l.length : Int)) = true := decide_eq_true h30
   go_wp2_with (fail)
   refine (awake_any _ HT1.out).mono ?_
   rintro e w2 ⟨rfl, hb⟩
   have HK2 := Lib.hid hb
   clear hb
   go_wp2_with (fail)
   go_ret
   exact ⟨rfl, Below.next HB1.out HK2.out⟩
 have t1 : decide ((30 : Int) < (l.length : Int)) = false := decide_eq_false h30
 by_cases h31 : (30 : Int) < (m : Int)
 · have t2 : decide ((30 : Int) < (m : Int)) = true := decide_eq_true h31
   go_wp2_with (fail)
   refine (awake_any _ HT1.out).mono ?_
   rintro e w2 ⟨rfl, hb⟩
   have HK2 := Lib.hid hb
   clear hb
   go_wp2_with (fail)
   go_ret
   exact ⟨rfl, Below.next HB1.out HK2.out⟩
 have t2 : decide ((30 : Int) < (m : Int)) = false := decide_eq_false h31
 have hl30 : l.length ≤ 30 := by omega
 have hm30 : m ≤ 30 := by omega
 have HN := Lib.hid (show l.length ≤ 30 ∧ m ≤ 30 from ⟨hl30, hm30⟩)
 go_wp2_with (fail)
 refine (lp_new w1).mono ?_
 rintro e w2 ⟨d, rfl, hp⟩
 have HP := Lib.hid hp
 have HD0 := Lib.hid dh_nil
 clear hp t1 t2 h30 h31
 go_wp2_with (fail)
 go_loopw [11, 12] (fun v i wr => ∃ (k : Nat) (A : Option Addr) (c n : Nat) (H : List Fd) (L : Ls), k ≤ l.length ∧ n ≤ k ∧ i = .int .i64 (k : Int) ∧ v = .slice A n c ∧ Hid (n = H.length) ∧ Hid (Ord H) ∧ Hid (Dh L H k) ∧ Hid (Lp w1 d L H A c wr)) (fun _ i _ => l.length - (intOf i).toNat)
 case atStart => exact ⟨0, none, 0, 0, [], [], Nat.zero_le _, Nat.le_refl _, rfl, rfl, Lib.hid rfl, Lib.hid List.Pairwise.nil, HD0, HP⟩
 case round =>
  obtain ⟨k, A, c, n, H, L, hk, hnk, rfl, rfl, HnH, HO, HD, HPr⟩ := hrel
  by_cases hlt : k < l.length
  · have hltz : (k : Int) < (l.length : Int) := by omega
    obtain ⟨G, P, rfl⟩ := HL1.out.shape (by omega)
    have HXC := Lib.hid (fun (W : World) (hW : Below w1.heap.size w1 W) => ids_at (HL1.out.next hW) hlt rfl)
    generalize pd l k = x at *
    obtain ⟨x0, x1, x2, x3⟩ := HXC.out _ HPr.out.below
    go_wp2_with (fail)
    refine (HOF.out x _).mono ?_
    rintro e w3 ⟨rfl, hb⟩
    have HP3 := Lib.hid (HPr.out.next hb)
    clear hb HPr x0 x1 x2 x3
    cases hrt : rt x
    · have HRT := Lib.hid hrt
      have hrr := fun W => rright_any x W
      rw [hrt] at hrr
      clear hrt
      go_wp2_with (fail)
      refine (lp_put_no x _ HP3.out HRT.out).mono ?_
      rintro e w4 ⟨rfl, hp⟩
      have HP4 := Lib.hid hp
      clear hp HP3
      obtain ⟨x0, x1, x2, x3⟩ := HXC.out _ HP4.out.below
      go_wp2_with (fail)
      refine (hrr _).mono ?_
      rintro e w5 ⟨rfl, hb⟩
      have HP5 := Lib.hid (HP4.out.next hb)
      clear hb HP4 x0 x1 x2 x3
      go_wp2_with (fail)
      go_roundw
      · exact ⟨k + 1, A, c, n, H, L, by omega, by omega, by first | rfl | (congr 1; omega), rfl, HnH, HO, Lib.hid HD.out.skip, HP5⟩
      · simp [intOf]; omega
    · have HRT := Lib.hid hrt
      have hrr := fun W => rright_any x W
      rw [hrt] at hrr
      clear hrt
      have HD3 := Lib.hid (fun H' hm => HD.out.put (H' := H') HP3.out.srt HRT.out hm)
      have hwr := HD.out.wrt HP3.out.srt (by omega) HRT.out
      have hput := lp_put x ⟨#[112, 105, 101, 99, 101]⟩ HP3.out (HT1.out.next HP3.out.below) HRT.out (by decide) (q := (0, pt (nm x) (fr x pc) L)) hwr
      clear hwr HD
      generalize hL' : pt (nm x) (fr x pc) L = L' at *
      clear hL'
      go_wp2_with (fail)
      refine hput.mono ?_
      rintro e w4 ⟨rfl, hp⟩
      have HP4 := Lib.hid hp
      clear hp HP3 hput
      obtain ⟨x0, x1, x2, x3⟩ := HXC.out _ HP4.out.below
      go_wp2_with (fail)
      refine (hrr _).mono ?_
      rintro e w5 ⟨rfl, hb⟩
      have HP5 := Lib.hid (HP4.out.next hb)
      clear hb HP4 x0 x1 x2 x3 hrr
      go_upto_block 2 with fail
      have HK0 : Hid (Below w5.heap.size w5 w5) := Below.refl _ _
      go_cut [14] from 38 to 104 (fun s14 wx => ∃ q : Nat, q ≤ n ∧ s14 = .int .i64 (q : Int) ∧ Hid (∀ j, q ≤ j → j < n → cf x (pd H j) < 0) ∧ Hid (0 < q → ¬ cf x (pd H (q - 1)) < 0) ∧ Hid (Below w5.heap.size w5 wx))
      case first =>
       go_wp2_with (fail)
       go_loopw [14] (fun v wi => ∃ q : Nat, q ≤ n ∧ v = .int .i64 (q : Int) ∧ Hid (∀ j, q ≤ j → j < n → cf x (pd H j) < 0) ∧ Hid (Below w5.heap.size w5 wi)) (fun v _ => (intOf v).toNat)
       case atStart => exact ⟨n, Nat.le_refl _, rfl, Lib.hid (fun j h1 h2 => by omega), HK0⟩
       case round =>
        obtain ⟨q, hq, rfl, HC, HK⟩ := hrel
        by_cases hq0 : 0 < q
        · obtain ⟨j, rfl⟩ : ∃ j, q = j + 1 := ⟨q - 1, by omega⟩
          have hqz : (0 : Int) < ((j + 1 : Nat) : Int) := by omega
          have e2 : ((j + 1 : Nat) : Int) - 1 = (j : Int) := by omega
          have hjn : (j : Int) < (n : Int) := by omega
          have HPw := Lib.hid (HP5.out.next HK.out)
          obtain ⟨GA, PA, rfl⟩ := HPw.out.ids.shape (by rw [← HnH.out]; omega)
          have hya := ids_at (k := j) HPw.out.ids (by rw [← HnH.out]; omega) rfl
          have hys := HC.out
          obtain ⟨y, hy⟩ : ∃ y, y = pd H j := ⟨_, rfl⟩
          rw [← hy] at hya
          have HY := Lib.hid hy
          have x0 := fun q : Over wr => (HXC.out q.val (Below.next HPw.out.below q.property)).1
          have x1 := fun q : Over wr => (HXC.out q.val (Below.next HPw.out.below q.property)).2.1
          have x2 := fun q : Over wr => (HXC.out q.val (Below.next HPw.out.below q.property)).2.2.1
          have x3 := fun q : Over wr => (HXC.out q.val (Below.next HPw.out.below q.property)).2.2.2
          have y0 := fun q : Over wr => over_cell q hya.1
          have y1 := fun q : Over wr => over_cell q hya.2.1
          have y2 := fun q : Over wr => over_cell q hya.2.2.1
          have y3 := fun q : Over wr => over_cell q hya.2.2.2
          clear hy hya hys
          have hle := fun W => rless_any x y W
          cases hcf : decide (cf x y < 0)
          case' true =>
           rw [hcf] at hle
           have HLE := Lib.hid (fun q : Over wr => over_gives q (hle q.val))
           have HCF := Lib.hid (of_decide_eq_true hcf)
           clear hle hcf
           go_upto_region 13 with (fail)
           refine wp_over (by kernel_rfl) (by kernel_rfl) ?_
           repeat (go_big_quiet_step (first | fail | with_reducible exact HLE.out _))
           refine wpQuiet_nil ?_
           rintro wz ⟨⟨wz, hb⟩, rfl⟩
           have HK2 := Lib.hid (Below.next HK.out hb)
           clear hb x0 x1 x2 x3 y0 y1 y2 y3 HLE HPw HK
           go_wp2_with (fail)
           go_roundw
           · exact ⟨j, by omega, by first | rfl | (congr 1; omega), Lib.hid (fun i h1 h2 => by
              by_cases e : i = j
              · rw [e, ← HY.out]; exact HCF.out
              · exact HC.out i (by omega) h2), HK2⟩
           · simp [intOf]
          case' false =>
           rw [hcf] at hle
           have HLE := Lib.hid (fun q : Over wr => over_gives q (hle q.val))
           have HCF : Hid (0 < j + 1 → ¬ cf x (pd H (j + 1 - 1)) < 0) := Lib.hid (fun _ => by rw [Nat.add_sub_cancel, ← HY.out]; exact of_decide_eq_false hcf)
           clear hle hcf
           go_upto_region 13 with (fail)
           refine wp_over (by kernel_rfl) (by kernel_rfl) ?_
           repeat (go_big_quiet_step (first | fail | with_reducible exact HLE.out _))
           refine wpQuiet_nil ?_
           rintro wz ⟨⟨wz, hb⟩, rfl⟩
           have HK2 := Lib.hid (Below.next HK.out hb)
           clear hb x0 x1 x2 x3 y0 y1 y2 y3 HLE HPw HK
           go_wp2_with (fail)
           go_meet
           exact ⟨j + 1, hq, rfl, HC, HCF, HK2⟩
        · obtain rfl : q = 0 := by omega
          go_wp2_with (fail)
          go_quiet (fail)
          go_wp2_with (fail)
          go_meet
          exact ⟨0, hq, rfl, HC, Lib.hid (fun h => absurd h (Nat.lt_irrefl 0)), Lib.hid (below_drewN HK.out _)⟩
      case rest =>
       obtain ⟨q, hq, rfl, HC, HC2, HK⟩ := hcut
       generalize wc = w6 at *
       have HP6 := Lib.hid (HP5.out.next HK.out)
       clear HK HP5 HK0
       go_upto_region 15 with (fail)
       go_cut [90] from 38 to 104 (fun s90 wx => s90 = .bool (decide (0 < q ∧ pd H (q - 1) = x)) ∧ Hid (Below w6.heap.size w6 wx))
       case first =>
        by_cases hq0 : 0 < q
        · obtain ⟨j, rfl⟩ : ∃ j, q = j + 1 := ⟨q - 1, by omega⟩
          have hqz : (0 : Int) < ((j + 1 : Nat) : Int) := by omega
          have e2 : ((j + 1 : Nat) : Int) - 1 = (j : Int) := by omega
          have hjn : (j : Int) < (n : Int) := by omega
          obtain ⟨GA, PA, rfl⟩ := HP6.out.ids.shape (by rw [← HnH.out]; omega)
          have hya := ids_at (k := j) HP6.out.ids (by rw [← HnH.out]; omega) rfl
          obtain ⟨y, hy⟩ : ∃ y, y = pd H j := ⟨_, rfl⟩
          rw [← hy] at hya
          obtain ⟨y0, y1, y2, y3⟩ := hya
          obtain ⟨x0, x1, x2, x3⟩ := HXC.out _ HP6.out.below
          have HD9 : Hid (decide (0 < j + 1 ∧ pd H (j + 1 - 1) = x) = decide (y = x)) := Lib.hid (by rw [Nat.add_sub_cancel, ← hy]; simp)
          have heq := fun W => eql_rid y x W
          clear hy
          go_wp2_with (fail)
          go_quiet (fail)
          go_wp2_with (fail)
          go_meet
          exact ⟨congrArg Value.bool HD9.out.symm, Lib.hid (below_drewN (Below.refl _ _) _)⟩
        · obtain rfl : q = 0 := by omega
          go_wp2_with (fail)
          go_quiet (fail)
          go_wp2_with (fail)
          go_meet
          exact ⟨rfl, Lib.hid (below_drewN (Below.refl _ _) _)⟩
       case rest =>
        obtain ⟨rfl, HK⟩ := hcut
        generalize wc = w7 at *
        have HP7 := Lib.hid (HP6.out.next HK.out)
        clear HK HP6
        by_cases hqx : 0 < q ∧ pd H (q - 1) = x
        · rw [decide_eq_true hqx]
          have HDn := Lib.hid (HD3.out H fun y => ⟨.inl, fun h => h.elim id fun e => by
           rw [e, ← hqx.2, pd_at (by rw [← HnH.out]; omega)]; exact List.getElem_mem _⟩)
          clear hqx HD3 HC HC2
          go_wp2_with (fail)
          go_roundw
          · exact ⟨k + 1, A, c, n, H, L', by omega, by omega, by first | rfl | (congr 1; omega), rfl, HnH, HO, HDn, HP7⟩
          · simp [intOf]; omega
        · rw [decide_eq_false hqx]
          have HQX := Lib.hid hqx
          clear hqx
          obtain rfl := HnH.out
          have hF := HP7.out.form
          have hqc : q ≤ c := by
           rcases hF with ⟨_, e, e2⟩ | ⟨g, _, h⟩
           · rw [e] at hq; simp at hq; omega
           · omega
          have hAn : A = none → H = [] := fun e => by
           rcases hF with ⟨_, h, _⟩ | ⟨g, h, _⟩
           · exact h
           · rw [e] at h; cases h
          have hH100 : H.length ≤ 100 := by omega
          go_upto_region 16 with (fail)
          refine wp_puts (insP H A c q x G P k l.length c0 w7.heap.size) (insP_mono H A c q x G P k l.length c0 w7.heap.size) (by kernel_rfl) (by kernel_rfl) ?hops ?hend _
          case hops =>
           intro i o ho a z hin hbz he
           have hX := HXC.out z (Below.next HP7.out.below hbz)
           have hI : Ids z A H := HP7.out.ids.next hbz
           match i, ho with
           | 0, ho =>
             injection ho with ho; subst ho
             exact y_move rfl ⟨hin 11 (by kernel_rfl), hI⟩
           | 1, ho =>
             injection ho with ho; subst ho
             exact y_move rfl (hin 14 (by kernel_rfl))
           | 2, ho =>
             injection ho with ho; subst ho
             exact y_move rfl (hin 14 (by kernel_rfl))
           | 3, ho =>
             have g0 := he ⟨0, .data⟩ (by injection ho with ho; subst ho; simp) rfl _ _ rfl rfl
             have g1 := he ⟨1, .data⟩ (by injection ho with ho; subst ho; simp) rfl _ _ rfl rfl
             have g2 := he ⟨2, .data⟩ (by injection ho with ho; subst ho; simp) rfl _ _ rfl rfl
             injection ho with ho; subst ho
             exact y_hd _ _ _ rfl g0.1 g1 g2 hqc ⟨rfl, hI.take q⟩
           | 4, ho =>
             injection ho with ho; subst ho
             exact y_move rfl (hin 0 (by kernel_rfl))
           | 5, ho =>
             injection ho with ho; subst ho
             exact y_move rfl (hin 12 (by kernel_rfl))
           | 6, ho =>
             have g0 := he ⟨4, .data⟩ (by injection ho with ho; subst ho; simp) rfl _ _ rfl rfl
             have g1 := he ⟨5, .data⟩ (by injection ho with ho; subst ho; simp) rfl _ _ rfl rfl
             injection ho with ho; subst ho
             exact y_ix _ _ rfl g0 g1 hlt rfl
           | 7, ho =>
             have g0 := he ⟨6, .data⟩ (by injection ho with ho; subst ho; simp) rfl _ _ rfl rfl
             injection ho with ho; subst ho
             exact y_ld _ rfl g0 hX.1 hX.2.1 hX.2.2.1 hX.2.2.2 rfl
           | 8, ho =>
             have g0 := he ⟨7, .data⟩ (by injection ho with ho; subst ho; simp) rfl _ _ rfl rfl
             injection ho with ho; subst ho
             exact y_bs _ rfl g0 ⟨_, rfl, ids_made _ _⟩
           | 9, ho =>
             injection ho with ho; subst ho
             exact y_move rfl ⟨hin 11 (by kernel_rfl), hI⟩
           | 10, ho =>
             injection ho with ho; subst ho
             exact y_move rfl (hin 14 (by kernel_rfl))
           | 11, ho =>
             have g0 := he ⟨9, .data⟩ (by injection ho with ho; subst ho; simp) rfl _ _ rfl rfl
             have g1 := he ⟨10, .data⟩ (by injection ho with ho; subst ho; simp) rfl _ _ rfl rfl
             injection ho with ho; subst ho
             exact y_tl _ _ rfl g0.1 g1 hq (tl_ids hI hF hq)
           | 12, ho =>
             have g0 := he ⟨8, .data⟩ (by injection ho with ho; subst ho; simp) rfl _ _ rfl rfl
             have g1 := he ⟨11, .data⟩ (by injection ho with ho; subst ho; simp) rfl _ _ rfl rfl
             injection ho with ho; subst ho
             exact ins12 _ _ rfl rfl g0 g1 hH100
           | 13, ho =>
             have g0 := he ⟨3, .data⟩ (by injection ho with ho; subst ho; simp) rfl _ _ rfl rfl
             have g1 := he ⟨12, .data⟩ (by injection ho with ho; subst ho; simp) rfl _ _ rfl rfl
             injection ho with ho; subst ho
             exact ins13 _ _ rfl rfl w7.heap.size hbz.size g0 hAn hq g1 hH100
           | 14, ho =>
             have g0 := he ⟨13, .data⟩ (by injection ho with ho; subst ho; simp) rfl _ _ rfl rfl
             injection ho with ho; subst ho
             exact y_assign rfl g0
           | i + 15, ho => cases ho
          case hend =>
           intro vs z hlen hbz hsp
           match vs, hlen with
           | [v0, v1, v2, v3, v4, v5, v6, v7, v8, v9, v10, v11, v12, v13, v14], _ =>
             obtain ⟨bn, cn, rfl, hbn, hbn2, hcn, hin⟩ := hsp 14 _ rfl
             have HPn := Lib.hid (HP7.out.ins hbz hbn hbn2 (H' := H.take q ++ x :: H.drop q) (c' := cn) (by simp; omega) hin)
             have HDn := Lib.hid (HD3.out (H.take q ++ x :: H.drop q) (mem_insd q))
             have HOn := Lib.hid (ord_ins (x := x) HO.out hq (fun j hj h1 => by have := HC.out j h1 hj; rwa [pd_at hj] at this) (fun h0 => by
              have h1 := HC2.out h0
              have h2 := HQX.out
              rw [pd_at (show q - 1 < H.length by omega)] at h1 h2
              exact cf_ge h1 fun e => h2 ⟨h0, e⟩))
             have HLn : Hid (H.length + 1 = (H.take q ++ x :: H.drop q).length) := Lib.hid (by simp; omega)
             generalize H.take q ++ x :: H.drop q = H2 at HPn HDn HOn HLn
             clear hsp hbz hlen hbn hbn2 hcn hin HD3 HC HC2 HQX HP7 HO
             simp only [putAll, Act.put]
             go_wp2_with (fail)
             go_roundw
             · exact ⟨k + 1, some ⟨bn, 0, none⟩, cn, H.length + 1, H2, L', by omega, by omega, by first | rfl | (congr 1; omega), rfl, HLn, HOn, HDn, HPn⟩
             · simp [intOf]; omega
  · obtain rfl : k = l.length := by omega
    obtain rfl := HnH.out
    have hl30 := HN.out.1; have hm30 := HN.out.2
    clear HL1 HLM
    go_wp2_with (fail)
    go_loopw [15] (fun v wr => ∃ (i : Nat) (L2 : Ls), i ≤ m ∧ v = .int .i64 (i : Int) ∧ Hid (Dh L2 H (l.length + i)) ∧ Hid (Lp w1 d L2 H A c wr)) (fun v _ => m - (intOf v).toNat)
    case atStart => exact ⟨0, L, Nat.zero_le _, rfl, HD, HPr⟩
    case round =>
     obtain ⟨i, L2, hi, rfl, HD2, HP2⟩ := hrel
     by_cases hlt2 : i < m
     · have hltz : (i : Int) < (m : Int) := by omega
       obtain ⟨SB, SO, rfl, _⟩ := HS1.out (by omega)
       have hsz := HZ.out i hlt2
       have HSC := Lib.hid (fun (W : World) (hW : Below w1.heap.size w1 W) => (HS1.out.old hW).at_ hlt2)
       have hrn := fun W => rnamed_any (ts i) W hsz
       clear hsz
       generalize ts i = t at *
       have s0 := HSC.out _ HP2.out.below
       go_wp2_with (fail)
       refine (hrn _).mono ?_
       rintro e w3 ⟨y, b, rfl, hb, hno⟩
       have HP3 := Lib.hid (HP2.out.next hb)
       have HNO := Lib.hid hno
       clear hb hno hrn HP2 s0
       cases b
       · have HP4 := Lib.hid (HP3.out.next (box1 w3 (.cells #[.int .i64 y.t, .int .i64 y.a, .int .i64 y.p, .int .i64 y.f] 23)))
         have s1 := HSC.out _ HP4.out.below
         by_cases h64 : (t.size : Int) ≤ 64
         · have t64 : decide ((t.size : Int) ≤ 64) = true := decide_eq_true h64
           have hwr := lp_write t ⟨#[111, 116, 104, 101, 114]⟩ (by decide) HP4.out rfl
           have HD3 := Lib.hid (HD2.out.other HP4.out.srt (HNO.out rfl) (s := (⟨#[111, 116, 104, 101, 114]⟩ : ByteArray).data.toList) (by decide))
           go_wp2_with (fail)
           refine hwr.mono ?_
           rintro e w5 ⟨rfl, hp⟩
           have HP5 := Lib.hid hp
           clear hp hwr HP3 HP4 s1
           go_wp2_with (fail)
           go_roundw
           · exact ⟨i + 1, _, by omega, by first | rfl | (congr 1; omega), HD3, HP5⟩
           · simp [intOf]; omega
         · have t64 : decide ((t.size : Int) ≤ 64) = false := decide_eq_false h64
           go_wp2_with (fail)
           go_roundw
           · exact ⟨i + 1, L2, by omega, by first | rfl | (congr 1; omega), Lib.hid HD2.out.skip, HP4⟩
           · simp [intOf]; omega
       · have HP4 := Lib.hid (HP3.out.next (box1 w3 (.cells #[.int .i64 y.t, .int .i64 y.a, .int .i64 y.p, .int .i64 y.f] 23)))
         go_wp2_with (fail)
         go_roundw
         · exact ⟨i + 1, L2, by omega, by first | rfl | (congr 1; omega), Lib.hid HD2.out.skip, HP4⟩
         · simp [intOf]; omega
     · obtain rfl : i = m := by omega
       have hsc := lp_scan HP2.out (HT1.out.next HP2.out.below) (HE1.out.next HP2.out.below) HD2.out.ok (HD2.out.scn HP2.out.srt HO.out)
       go_wp2_with (fail)
       refine hsc.mono ?_
       rintro e w4 ⟨A2, c2, rfl, hi2, hp⟩
       have HI := Lib.hid hi2
       have HP4 := Lib.hid hp
       clear hsc hi2 hp HP2 HPr HD
       go_wp2_with (fail)
       have HK0 : Hid (Below w4.heap.size w4 w4) := Below.refl _ _
       go_loopw [19, 20] (fun u v wr => ∃ i N : Nat, i ≤ H.length ∧ N ≤ i ∧ v = .int .i64 (i : Int) ∧ u = .int .i64 (N : Int) ∧ Hid (N = ((H.take i).filter (qd tk at')).length) ∧ Hid (Below w4.heap.size w4 wr)) (fun _ v _ => H.length - (intOf v).toNat)
       case atStart => exact ⟨0, 0, Nat.zero_le _, Nat.le_refl _, rfl, rfl, Lib.hid rfl, HK0⟩
       case round =>
        obtain ⟨i, N, hi, hNi, rfl, rfl, hN, HK⟩ := hrel
        by_cases hlt4 : i < H.length
        · have hltz : (i : Int) < (H.length : Int) := by omega
          obtain ⟨G1, P1, rfl⟩ := HI.out.shape (by omega)
          obtain ⟨G2, P2, rfl⟩ := HP4.out.ids.shape (by omega)
          have HX4 := Lib.hid (fun (W : World) (hW : Below w4.heap.size w4 W) => ids_at (HI.out.next hW) hlt4 rfl)
          have HY4 := Lib.hid (fun (W : World) (hW : Below w4.heap.size w4 W) => ids_at (HP4.out.ids.next hW) hlt4 rfl)
          have hct := cnt_take (qd tk at') hlt4
          rw [← pd_at hlt4] at hct
          have HCT := Lib.hid hct
          clear hct
          generalize pd H i = y at *
          have x0 := fun q : Over wr => (HX4.out q.val (Below.next HK.out q.property)).1
          have x1 := fun q : Over wr => (HX4.out q.val (Below.next HK.out q.property)).2.1
          have x2 := fun q : Over wr => (HX4.out q.val (Below.next HK.out q.property)).2.2.1
          have x3 := fun q : Over wr => (HX4.out q.val (Below.next HK.out q.property)).2.2.2
          have y0 := fun q : Over wr => (HY4.out q.val (Below.next HK.out q.property)).1
          have y1 := fun q : Over wr => (HY4.out q.val (Below.next HK.out q.property)).2.1
          have y2 := fun q : Over wr => (HY4.out q.val (Below.next HK.out q.property)).2.2.1
          have y3 := fun q : Over wr => (HY4.out q.val (Below.next HK.out q.property)).2.2.2
          have hne := fun W => (neq_rid y y W).trans (by rw [decide_eq_true rfl])
          have HLP := Lib.hid (fun q : Over wr => over_gives q (lplain_any y q.val))
          go_upto_region 30 with (fail)
          refine wp_over (by kernel_rfl) (by kernel_rfl) ?_
          repeat (go_big_quiet_step (first | fail | with_reducible exact HLP.out _))
          refine wpQuiet_nil ?_
          rintro wz ⟨⟨wz, hb⟩, rfl⟩
          have HK2 := Lib.hid (Below.next HK.out hb)
          clear hb x0 x1 x2 x3 y0 y1 y2 y3 HLP hne HK HX4
          obtain ⟨y0, y1, _, _⟩ := HY4.out _ HK2.out
          by_cases h1 : y.t = tk
          · have b1 : (y.t == tk) = true := by rw [beq_iff_eq]; exact h1
            by_cases h2 : y.a = at'
            · have b2 : (y.a == at') = true := by rw [beq_iff_eq]; exact h2
              have e5 : Hid (((H.take (i + 1)).filter (qd tk at')).length = ((H.take i).filter (qd tk at')).length + 1) := by show _ = _; rw [HCT.out]; unfold qd; rw [b1, b2]; rfl
              clear h1 h2
              go_wp2_with (fail)
              go_roundw
              · exact ⟨i + 1, N + 1, by omega, by omega, by first | rfl | (congr 1; omega), by first | rfl | (congr 1; omega), Lib.hid (by rw [e5.out, ← hN.out]), HK2⟩
              · simp [intOf]; omega
            · have b2 : (y.a == at') = false := by rw [beq_eq_false_iff_ne]; exact h2
              have e5 : Hid (((H.take (i + 1)).filter (qd tk at')).length = ((H.take i).filter (qd tk at')).length + 0) := by show _ = _; rw [HCT.out]; unfold qd; rw [b1, b2]; rfl
              clear h1 h2
              go_wp2_with (fail)
              go_roundw
              · exact ⟨i + 1, N, by omega, by omega, by first | rfl | (congr 1; omega), rfl, Lib.hid (by rw [e5.out, ← hN.out]; rfl), HK2⟩
              · simp [intOf]; omega
          · have b1 : (y.t == tk) = false := by rw [beq_eq_false_iff_ne]; exact h1
            have e5 : Hid (((H.take (i + 1)).filter (qd tk at')).length = ((H.take i).filter (qd tk at')).length + 0) := by show _ = _; rw [HCT.out]; unfold qd; rw [b1]; rfl
            clear h1
            go_wp2_with (fail)
            go_roundw
            · exact ⟨i + 1, N, by omega, by omega, by first | rfl | (congr 1; omega), rfl, Lib.hid (by rw [e5.out, ← hN.out]; rfl), HK2⟩
            · simp [intOf]; omega
        · obtain rfl : i = H.length := by omega
          have hN' := hN.out
          rw [List.take_length] at hN'
          have HP5 := Lib.hid (HP4.out.next HK.out)
          have hdr := mn_drop tk at' HP5.out.mn HT1.out HE1.out
          rw [HD2.out.cnt HP5.out.srt HO.out, ← hN'] at hdr
          have hKO := HD2.out.keep (tk := tk) (at' := at')
          have hKS := hKO.scn (srt_keep HP5.out.srt) (ord_filter HO.out)
          obtain ⟨N2, hN2⟩ : ∃ N2, N2 = (H.filter fun x => !qd tk at' x).length := ⟨_, rfl⟩
          have h2 := cnt_two (qd tk at') H
          rw [← hN', ← hN2] at h2
          have e6 : (H.length : Int) - (N : Int) = (N2 : Int) := by omega
          have hn2 : N2 ≤ H.length := by omega
          have HKO := Lib.hid hKO.ok; have HKS := Lib.hid hKS; have HN2 := Lib.hid hN2
          clear hKO hKS hN' hN2 h2 hN HI HK HD2 HP4
          go_wp2_with (fail)
          refine hdr.mono ?_
          rintro e w6 ⟨rfl, hm⟩
          have hsc := mn_scan hm (HT1.out.next hm.below) (HE1.out.next hm.below) HKO.out HKS.out
          rw [← HN2.out] at hsc
          clear hdr hm
          go_wp2_with (fail)
          refine hsc.mono ?_
          rintro e w7 ⟨A3, c3, rfl, _, hm⟩
          have hdr := mn_drop tk at' hm HT1.out HE1.out
          rw [cnt_keep] at hdr
          clear hsc hm
          go_wp2_with (fail)
          refine hdr.mono ?_
          rintro e w8 ⟨rfl, hm⟩
          have HM := Lib.hid hm.below
          clear hdr hm
          go_wp2_with (fail)
          go_ret
          exact ⟨rfl, Below.next HB1.out HM.out⟩
end Go.Proofs.YtchmepalhldpcaaGreatDoor.Fr

/-
  A text of this claim: ErStrC.
-/
import Derived.Test.YtgakcpcpfkoaiaaGreatDoorQ1
import Derived.Test.YtgakcpcpfkoaiaaGreatDoorQ7
import Derived.Test.YtgakcpcpfkoaiaaGreatDoorQEvDeed5
import Derived.Deep.Cut
import Derived.Test.YtgakcpcpfkoaiaaGreatDoorQ2
set_option maxHeartbeats 4000000
set_option maxRecDepth 100000
namespace Go.Proofs.YtgakcpcpfkoaiaaGreatDoor.Ev
open Go.ChangeShapes Go.WideShapes Go.ChangeAt Go.RowKit Ov Va Ga Ex
theorem mstr_cut {w0:World} {A:Option Addr} {c E b n:Nat} {l:List No} {S:St} {ov:Value} {w:World} {L cap:Nat} (p q r:Va) (hp:rt p=true) (hq:rt q=true) (hr:rt r=true) (hv:Vs w L [p,q,r]) (hd:Mac w0 A c E b l S n 0 ov w) (hl:0<l.length):Calls Tryz.prog 157 #[.pointer (some ⟨b,0,none⟩),.string ⟨#[99,117,116]⟩,.slice (some ⟨L,0,none⟩) 3 cap] w (Rn (ap 16 [p,q,r] S n) w0 A c E b l ov w):=by
 have HF:=qq (fun (x:Int) (hx:x ≠ 0) w1 (h:Mac w0 A c E b l S n 0 ov w1)=>mfail_at x hx h)
 have HAR:=qq (fun w1 (h1:Vs w1 L [p,q,r]) K (hq:Blk w1 K (kcl [1,0,0])) (h:Mac w0 A c E b l S n 0 ov w1)=>(mare_any (cl:=cap) (ck:=3) (by decide) (Nat.le_refl 3) (by show 3≤3;decide) h1 hq h:Calls Tryz.prog 152 #[.pointer (some ⟨b,0,none⟩),.slice (some ⟨L,0,none⟩) 3 cap,.slice (some ⟨K,0,none⟩) 3 3] w1 (Ar (fits [1,0,0] [p,q,r]) w0 A c E b l S n ov w1)))
 have hsp:=(rt_all hp).2.1
 have hsq:=(rt_all hq).1
 have hsr:=(rt_all hr).1
 have HRT:=qq hp;clear hp hq hr
 obtain ⟨w1,hw1,hd1,hm1,hbel,hsz,hbX,hbKa,hbKb⟩:=mbox3 hd hl 28 zz 3 [.int .i64 1] 3 [.int .i64 1,.int .i64 0,.int .i64 0]
 have HD1:=qq hd1;have HM1:=qq hm1;have HW1:=qq hw1;have HX1:=qq hbX;have HKa1:=qq hbKa;have HKb1:=qq hbKb
 have HL1:=qq (hv.next hbel);clear hv
 clear hd hd1 hm1 hbel hsz hw1 hbX hbKa hbKb
 go_enter Tryz.func157,Tryz.ntmps157
 go_wp2_with fail
 rw [HW1.out]
 refine (HAR.out _ HL1.out _ HKb1.out.blk HD1.out).mono ?_
 rintro e w2 ⟨rfl,hd2,hm2,hbl2⟩
 rcases Bool.eq_false_or_eq_true (fits [1,0,0] [p,q,r]) with hf | hf
 · have HAP:Hid (ap 16 [p,q,r] S n=af 16 [p,q,r] S n):=ap_af (o:=16) (l:=[p,q,r]) hf S n
   have HD2:=qq (show Mac w0 A c E b l S n 0 ov w2 by rw [hf] at hd2;exact hd2);have HM2:=qq (HM1.out.trans hm2);have HX2:=qq (HX1.out.mv hm2);have HL2:=qq (HL1.out.next (hbl2 hf))
   obtain ⟨hk0,hk1,hk2⟩:=fits_3 hf
   rw [hf]
   clear hd2 hm2 hbl2 hf HD1 HM1 HX1 HKa1 HKb1 HL1 
   have hts:=tx_size p.s
   obtain ⟨h11,h12⟩:=hsq;obtain ⟨h21,h22⟩:=hsr
   obtain ⟨u,hu⟩:∃ u,tx p.s=u:=⟨_,rfl⟩
   have hus:u.size=p.s.length:=by rw [← hu,tx_size]
   have HU:=qq hu
   have l2:w2.cell? ⟨L,2,none⟩=some (.string (tx p.s)):=HL2.out 0 2 _ (by show 0<3;decide) rfl
   have l6:w2.cell? ⟨L,6,none⟩=some (.int .i64 q.n):=HL2.out 1 1 _ (by show 1<3;decide) rfl
   have l11:w2.cell? ⟨L,11,none⟩=some (.int .i64 r.n):=HL2.out 2 1 _ (by show 2<3;decide) rfl
   rw [hu] at l2
   clear hts hu
   by_cases hc0:q.n<0
   · have HB:=qq (cut_bad (l:=[p,q,r]) (.inl hc0) S n)
     have g0:decide (q.n<0)=true:=decide_eq_true hc0
     go_wp2_with fail
     go_quiet (fail)
     have HD3:=qq (HD2.out.old (below_drewN (Below.refl _ _) nq));have HM3:=qq (HM2.out.old (below_drewN (Below.refl _ _) nq));have HX3:=qq (HX2.out.old (below_drewN (Below.refl _ _) nq));have HL3:=qq (HL2.out.next (below_drewN (Below.refl _ _) nq))
     clear HD2 HM2 HX2 HL2 l2 l6 l11
     generalize World.drewN w2 nq=w3 at *
     go_wp2_with fail
     refine (HF.out 14 (by decide) _ HD3.out).mono ?_
     rintro e w4 ⟨rfl,hd3,hm3⟩
     have HD4:=qq hd3;have HM4:=qq (HM3.out.trans hm3);have HX4:=qq (HX3.out.mv hm3)
     clear hd3 hm3 HD3 HM3 HX3  HL3
     obtain ⟨cX0,cX1,cX2,cX3,cX4,zX0,zX1,zX2,zX3,zX4,hltX⟩:=HX4.out.five
     go_wp2_with fail
     refine mend (P:=bodyPost _ _ _ _ _) HD4.out HM4.out HX4.out (by omega) _ _ _ _ _ ?_
     clear HD4 HM4 HX4 cX0 cX1 cX2 cX3 cX4 zX0 zX1 zX2 zX3 zX4
     intro w9 hd9 hm9 c0 c1 c2 c3 c4
     refine bodyPost_ret (v:=.agg zz) (by simp [results,Tryz.results157,go_sem,c0,c1,c2,c3,c4]) rfl ⟨vz,14,S,n,ov,rfl,by rw [HAP.out,HB.out];exact Ans.er rfl rfl (by decide),fun _=>rfl,hd9,hm9⟩
   · have g0:decide (q.n<0)=false:=decide_eq_false hc0
     by_cases hc1:r.n<q.n
     · have HB:=qq (cut_bad (l:=[p,q,r]) (.inr (.inl hc1)) S n)
       have g1:decide (r.n<q.n)=true:=decide_eq_true hc1
       go_wp2_with fail
       go_quiet (fail)
       have HD3:=qq (HD2.out.old (below_drewN (Below.refl _ _) nq));have HM3:=qq (HM2.out.old (below_drewN (Below.refl _ _) nq));have HX3:=qq (HX2.out.old (below_drewN (Below.refl _ _) nq));have HL3:=qq (HL2.out.next (below_drewN (Below.refl _ _) nq))
       clear HD2 HM2 HX2 HL2 l2 l6 l11
       generalize World.drewN w2 nq=w3 at *
       go_wp2_with fail
       refine (HF.out 14 (by decide) _ HD3.out).mono ?_
       rintro e w4 ⟨rfl,hd3,hm3⟩
       have HD4:=qq hd3;have HM4:=qq (HM3.out.trans hm3);have HX4:=qq (HX3.out.mv hm3)
       clear hd3 hm3 HD3 HM3 HX3  HL3
       obtain ⟨cX0,cX1,cX2,cX3,cX4,zX0,zX1,zX2,zX3,zX4,hltX⟩:=HX4.out.five
       go_wp2_with fail
       refine mend (P:=bodyPost _ _ _ _ _) HD4.out HM4.out HX4.out (by omega) _ _ _ _ _ ?_
       clear HD4 HM4 HX4 cX0 cX1 cX2 cX3 cX4 zX0 zX1 zX2 zX3 zX4
       intro w9 hd9 hm9 c0 c1 c2 c3 c4
       refine bodyPost_ret (v:=.agg zz) (by simp [results,Tryz.results157,go_sem,c0,c1,c2,c3,c4]) rfl ⟨vz,14,S,n,ov,rfl,by rw [HAP.out,HB.out];exact Ans.er rfl rfl (by decide),fun _=>rfl,hd9,hm9⟩
     · have g1:decide (r.n<q.n)=false:=decide_eq_false hc1
       by_cases hc2:(u.size:Int)<r.n
       · have HB:=qq (cut_bad (l:=[p,q,r]) (.inr (.inr (by show (p.s.length:Int)<r.n;omega))) S n)
         have g2:decide ((u.size:Int)<r.n)=true:=decide_eq_true hc2
         go_wp2_with fail
         go_quiet (fail)
         have HD3:=qq (HD2.out.old (below_drewN (Below.refl _ _) nq));have HM3:=qq (HM2.out.old (below_drewN (Below.refl _ _) nq));have HX3:=qq (HX2.out.old (below_drewN (Below.refl _ _) nq));have HL3:=qq (HL2.out.next (below_drewN (Below.refl _ _) nq))
         clear HD2 HM2 HX2 HL2 l2 l6 l11
         generalize World.drewN w2 nq=w3 at *
         go_wp2_with fail
         refine (HF.out 14 (by decide) _ HD3.out).mono ?_
         rintro e w4 ⟨rfl,hd3,hm3⟩
         have HD4:=qq hd3;have HM4:=qq (HM3.out.trans hm3);have HX4:=qq (HX3.out.mv hm3)
         clear hd3 hm3 HD3 HM3 HX3  HL3
         obtain ⟨cX0,cX1,cX2,cX3,cX4,zX0,zX1,zX2,zX3,zX4,hltX⟩:=HX4.out.five
         go_wp2_with fail
         refine mend (P:=bodyPost _ _ _ _ _) HD4.out HM4.out HX4.out (by omega) _ _ _ _ _ ?_
         clear HD4 HM4 HX4 cX0 cX1 cX2 cX3 cX4 zX0 zX1 zX2 zX3 zX4
         intro w9 hd9 hm9 c0 c1 c2 c3 c4
         refine bodyPost_ret (v:=.agg zz) (by simp [results,Tryz.results157,go_sem,c0,c1,c2,c3,c4]) rfl ⟨vz,14,S,n,ov,rfl,by rw [HAP.out,HB.out];exact Ans.er rfl rfl (by decide),fun _=>rfl,hd9,hm9⟩
       · have g2:decide ((u.size:Int)<r.n)=false:=decide_eq_false hc2
         go_wp2_with fail
         go_quiet (fail)
         have HD3:=qq (HD2.out.old (below_drewN (Below.refl _ _) nq));have HM3:=qq (HM2.out.old (below_drewN (Below.refl _ _) nq));have HX3:=qq (HX2.out.old (below_drewN (Below.refl _ _) nq));have HL3:=qq (HL2.out.next (below_drewN (Below.refl _ _) nq))
         clear HD2 HM2 HX2 HL2 l2 l6 l11
         generalize World.drewN w2 nq=w3 at *
         have l6:w3.cell? ⟨L,6,none⟩=some (.int .i64 q.n):=HL3.out 1 1 _ (by show 1<3;decide) rfl;have l11:w3.cell? ⟨L,11,none⟩=some (.int .i64 r.n):=HL3.out 2 1 _ (by show 2<3;decide) rfl
         have HB:Hid (¬ (q.n<0∨r.n<q.n∨(p.s.length:Int)<r.n)):=by show ¬ _;omega
         have hsl:∀ w,(Instr.slice 9 (.string u) (some (.int .i64 q.n)) (some (.int .i64 r.n)) none).run Tryz.prog w=.ok (.string (u.extract q.n.toNat r.n.toNat)) w:=fun w =>
          run_slice_string (P:=Tryz.prog) w 9 u .i64 .i64 q.n r.n Tryz.underlying9 (by omega) (by omega) (by omega)
         have HE:Hid (u.extract q.n.toNat r.n.toNat=tx ((p.s.take r.n.toNat).drop q.n.toNat)):=by
          show _=_
          rw [ext_mid u (show q.n.toNat≤r.n.toNat by omega) (by omega),← HU.out,tx_list]
         have HTX:=qq (mtext_any)
         clear l6 l11
         have l6:=fun z:Over w3=>(HL3.out.next z.property) 1 1 _ (by show 1<3;decide) rfl
         change ∀ z:Over w3,z.val.cell? ⟨L,6,none⟩=some (.int .i64 q.n) at l6
         have l11:=fun z:Over w3=>(HL3.out.next z.property) 2 1 _ (by show 2<3;decide) rfl
         change ∀ z:Over w3,z.val.cell? ⟨L,11,none⟩=some (.int .i64 r.n) at l11
         go_wp2_with fail
         refine wp_over_tail 11 (by kernel_rfl) (by kernel_rfl) ?_
         simp only [List.take_succ_cons,List.take_zero,List.drop_succ_cons,List.drop_zero]
         repeat (go_big_quiet_step (first | fail | with_reducible exact over_gives _ (HTX.out _ _)))
         refine wpQuiet_nil ?_
         rintro w4 ⟨⟨w4,hb⟩,rfl⟩
         have HD4:=qq (HD3.out.old hb)
         have HM4:=qq (HM3.out.old hb)
         have HX4:=qq (HX3.out.old hb)
         clear hb HD3 HM3 HX3  HL3 l6 l11
         obtain ⟨cX0,cX1,cX2,cX3,cX4,zX0,zX1,zX2,zX3,zX4,hltX⟩:=HX4.out.five
         go_wp2_with fail
         refine mend (P:=bodyPost _ _ _ _ _) HD4.out HM4.out HX4.out (by omega) _ _ _ _ _ ?_
         clear HD4 HM4 HX4 cX0 cX1 cX2 cX3 cX4 zX0 zX1 zX2 zX3 zX4
         intro w9 hd9 hm9 c0 c1 c2 c3 c4
         refine bodyPost_ret (v:=.agg #[.int .i64 1,.int .i64 0,.string (u.extract q.n.toNat r.n.toNat),.int .i64 0,.int .i64 0]) (by simp [results,Tryz.results157,go_sem,c0,c1,c2,c3,c4]) rfl ⟨tv ((p.s.take r.n.toNat).drop q.n.toNat),0,S,n,ov,by rw [HE.out];rfl,Ans.ok (by rw [HAP.out];exact cut_ok (l:=[p,q,r]) HB.out _ _) rfl,fun h=>absurd rfl h,hd9,hm9⟩
 · have HAP:=qq (ap_no (o:=16) (l:=[p,q,r]) hf S n)
   have HD2:=qq (show Mac w0 A c E b l S n 13 ov w2 by rw [hf] at hd2;exact hd2);have HM2:=qq (HM1.out.trans hm2);have HX2:=qq (HX1.out.mv hm2)
   rw [hf]
   clear hd2 hm2 hbl2 hf HD1 HM1 HX1 HKa1 HKb1 HL1 
   obtain ⟨cX0,cX1,cX2,cX3,cX4,zX0,zX1,zX2,zX3,zX4,hltX⟩:=HX2.out.five
   go_wp2_with fail
   refine mend (P:=bodyPost _ _ _ _ _) HD2.out HM2.out HX2.out (by omega) _ _ _ _ _ ?_
   clear HD2 HM2 HX2 cX0 cX1 cX2 cX3 cX4 zX0 zX1 zX2 zX3 zX4
   intro w9 hd9 hm9 c0 c1 c2 c3 c4
   refine bodyPost_ret (v:=.agg zz) (by simp [results,Tryz.results157,go_sem,c0,c1,c2,c3,c4]) rfl ⟨vz,13,S,n,ov,rfl,Ans.er HAP.out rfl (by decide),fun _=>rfl,hd9,hm9⟩
end Go.Proofs.YtgakcpcpfkoaiaaGreatDoor.Ev

/-
  A text of this claim: ErStrW.
-/
import Derived.Test.YtgakcpcpfkoaiaaGreatDoorQ1
import Derived.Test.YtgakcpcpfkoaiaaGreatDoorQ7
import Derived.Test.YtgakcpcpfkoaiaaGreatDoorQ4
import Derived.Test.YtgakcpcpfkoaiaaGreatDoorQEvDeed5
import Derived.Deep.Cut
import Derived.Test.YtgakcpcpfkoaiaaGreatDoorQ2
set_option maxHeartbeats 4000000
set_option maxRecDepth 100000
namespace Go.Proofs.YtgakcpcpfkoaiaaGreatDoor.Ev
open Go.ChangeShapes Go.WideShapes Go.ChangeAt Go.RowKit Ov Va Ga Ex
theorem mstr_word {w0:World} {A:Option Addr} {c E b n:Nat} {l:List No} {S:St} {ov:Value} {w:World} {L cap:Nat} (p q:Va) (hp:rt p=true) (hq:rt q=true) (hv:Vs w L [p,q]) (hd:Mac w0 A c E b l S n 0 ov w) (hl:0<l.length):Calls Tryz.prog 157 #[.pointer (some ⟨b,0,none⟩),.string ⟨#[119,111,114,100]⟩,.slice (some ⟨L,0,none⟩) 2 cap] w (Rn (ap 17 [p,q] S n) w0 A c E b l ov w):=by
 have HF:=qq (fun (x:Int) (hx:x ≠ 0) w1 (h:Mac w0 A c E b l S n 0 ov w1)=>mfail_at x hx h)
 have HAR:=qq (fun w1 (h1:Vs w1 L [p,q]) K (hq:Blk w1 K (kcl [1,0])) (h:Mac w0 A c E b l S n 0 ov w1)=>(mare_any (cl:=cap) (ck:=2) (by decide) (Nat.le_refl 2) (by show 2≤3;decide) h1 hq h:Calls Tryz.prog 152 #[.pointer (some ⟨b,0,none⟩),.slice (some ⟨L,0,none⟩) 2 cap,.slice (some ⟨K,0,none⟩) 2 2] w1 (Ar (fits [1,0] [p,q]) w0 A c E b l S n ov w1)))
 have hsp:=(rt_all hp).2.1
 have hsq:=(rt_all hq).1
 have HRT:=qq hp;clear hp hq
 obtain ⟨w1,hw1,hd1,hm1,hbel,hsz,hbX,hbKa,hbKb⟩:=mbox3 hd hl 28 zz 3 [.int .i64 1] 3 [.int .i64 1,.int .i64 0]
 have HD1:=qq hd1;have HM1:=qq hm1;have HW1:=qq hw1;have HX1:=qq hbX;have HKa1:=qq hbKa;have HKb1:=qq hbKb
 have HL1:=qq (hv.next hbel);clear hv
 clear hd hd1 hm1 hbel hsz hw1 hbX hbKa hbKb
 go_enter Tryz.func157,Tryz.ntmps157
 go_wp2_with fail
 rw [HW1.out]
 refine (HAR.out _ HL1.out _ HKb1.out.blk HD1.out).mono ?_
 rintro e w2 ⟨rfl,hd2,hm2,hbl2⟩
 rcases Bool.eq_false_or_eq_true (fits [1,0] [p,q]) with hf | hf
 · have HAP:Hid (ap 17 [p,q] S n=af 17 [p,q] S n):=ap_af (o:=17) (l:=[p,q]) hf S n
   have HD2:=qq (show Mac w0 A c E b l S n 0 ov w2 by rw [hf] at hd2;exact hd2);have HM2:=qq (HM1.out.trans hm2);have HX2:=qq (HX1.out.mv hm2);have HL2:=qq (HL1.out.next (hbl2 hf))
   obtain ⟨hk0,hk1⟩:=fits_2 hf
   rw [hf]
   clear hd2 hm2 hbl2 hf HD1 HM1 HX1 HKa1 HKb1 HL1 
   have hts:=tx_size p.s
   have l2:w2.cell? ⟨L,2,none⟩=some (.string (tx p.s)):=HL2.out 0 2 _ (by show 0<2;decide) rfl
   have HWD:=qq (mwords_any (tx p.s) (by omega))
   rw [tx_list] at HWD
   go_wp2_with fail
   refine (HWD.out _).mono ?_
   rintro e w3 ⟨V,rfl,ho,hb⟩
   have HO:=qq ho
   obtain ⟨Bp,cp,hV⟩:=own_slice ho
   have HL3:=qq (HL2.out.next hb)
   clear ho
   have HD3:=qq (HD2.out.old hb)
   have HM3:=qq (HM2.out.old hb)
   have HX3:=qq (HX2.out.old hb)
   clear hb HD2 HM2 HX2 l2 HL2
   have l6:w3.cell? ⟨L,6,none⟩=some (.int .i64 q.n):=HL3.out 1 1 _ (by show 1<2;decide) rfl
   have HWN:Hid (af 17 [p,q] S n=lift (wdN p.s q.n) S n):=rfl
   by_cases hq0:q.n<0
   · have HB:Hid (lift (wdN p.s q.n) S n=.er 14):=by show _=_;unfold wdN;rw [if_pos hq0];rfl
     subst hV
     go_wp2_with fail
     refine (HF.out 14 (by decide) _ HD3.out).mono ?_
     rintro e w4 ⟨rfl,hd3,hm3⟩
     have HD4:=qq hd3;have HM4:=qq (HM3.out.trans hm3);have HX4:=qq (HX3.out.mv hm3)
     clear hd3 hm3 HD3 HM3 HX3 l6 HL3
     obtain ⟨cX0,cX1,cX2,cX3,cX4,zX0,zX1,zX2,zX3,zX4,hltX⟩:=HX4.out.five
     go_wp2_with fail
     refine mend (P:=bodyPost _ _ _ _ _) HD4.out HM4.out HX4.out (by omega) _ _ _ _ _ ?_
     clear HD4 HM4 HX4 cX0 cX1 cX2 cX3 cX4 zX0 zX1 zX2 zX3 zX4
     intro w9 hd9 hm9 c0 c1 c2 c3 c4
     refine bodyPost_ret (v:=.agg zz) (by simp [results,Tryz.results157,go_sem,c0,c1,c2,c3,c4]) rfl ⟨vz,14,S,n,ov,rfl,by rw [HAP.out,HWN.out,HB.out];exact Ans.er rfl rfl (by decide),fun _=>rfl,hd9,hm9⟩
   · obtain ⟨y,hy⟩:=Int.eq_ofNat_of_zero_le (show 0≤q.n by omega)
     have hyi:q.n=(y:Int):=hy
     clear hy
     by_cases hq1:y<(wds p.s).length
     · have HB:Hid (lift (wdN p.s q.n) S n=.ok (tv (wds p.s)[y]) S n):=by show _=_;unfold wdN;rw [if_neg hq0,hyi,Int.toNat_natCast,List.getElem?_eq_getElem hq1];rfl
       obtain ⟨g,cq,hg⟩:∃ g cq,V=.slice (some ⟨g,0,none⟩) (wds p.s).length cq:=by
        rcases HO.out.2 with ⟨_,h⟩ | ⟨g,cap,cur,h,_⟩
        · rw [h] at hq1;exact absurd hq1 (Nat.not_lt_zero _)
        · exact ⟨g,cap,h⟩
       clear hV
       subst hg
       have k9:w3.cell? ⟨g,y,none⟩=some (.string (tx (wds p.s)[y])):=by
        rw [HO.out.cellAt y (by omega)]
        unfold tcl
        rw [List.getElem?_map,List.getElem?_eq_getElem hq1];rfl
       rw [hyi] at l6
       clear hyi hq0 HO HWD
       obtain ⟨N,hN⟩:∃ N,(wds p.s).length=N:=⟨_,rfl⟩
       obtain ⟨T,hT⟩:∃ T,(wds p.s)[y]=T:=⟨_,rfl⟩
       rw [hT] at k9 HB
       rw [hN] at hq1 ⊢
       go_wp2_with fail
       refine (mtext_any _ _).mono ?_
       rintro e w4 ⟨rfl,hb⟩
       have HD4:=qq (HD3.out.old hb)
       have HM4:=qq (HM3.out.old hb)
       have HX4:=qq (HX3.out.old hb)
       clear hb HD3 HM3 HX3 l6 k9 HL3
       obtain ⟨cX0,cX1,cX2,cX3,cX4,zX0,zX1,zX2,zX3,zX4,hltX⟩:=HX4.out.five
       go_wp2_with fail
       refine mend (P:=bodyPost _ _ _ _ _) HD4.out HM4.out HX4.out (by omega) _ _ _ _ _ ?_
       clear HD4 HM4 HX4 cX0 cX1 cX2 cX3 cX4 zX0 zX1 zX2 zX3 zX4
       intro w9 hd9 hm9 c0 c1 c2 c3 c4
       refine bodyPost_ret (v:=.agg #[.int .i64 1,.int .i64 0,.string (tx T),.int .i64 0,.int .i64 0]) (by simp [results,Tryz.results157,go_sem,c0,c1,c2,c3,c4]) rfl ⟨tv T,0,S,n,ov,rfl,Ans.ok (by rw [HAP.out,HWN.out,HB.out]) rfl,fun h=>absurd rfl h,hd9,hm9⟩
     · have HB:Hid (lift (wdN p.s q.n) S n=.er 14):=by show _=_;unfold wdN;rw [if_neg hq0,hyi,Int.toNat_natCast,List.getElem?_eq_none (by omega)];rfl
       rw [hyi] at l6
       subst hV
       clear hyi hq0 HO HWD
       obtain ⟨N,hN⟩:∃ N,(wds p.s).length=N:=⟨_,rfl⟩
       rw [hN] at hq1 ⊢
       go_wp2_with fail
       refine (HF.out 14 (by decide) _ HD3.out).mono ?_
       rintro e w4 ⟨rfl,hd3,hm3⟩
       have HD4:=qq hd3;have HM4:=qq (HM3.out.trans hm3);have HX4:=qq (HX3.out.mv hm3)
       clear hd3 hm3 HD3 HM3 HX3 l6 HL3
       obtain ⟨cX0,cX1,cX2,cX3,cX4,zX0,zX1,zX2,zX3,zX4,hltX⟩:=HX4.out.five
       go_wp2_with fail
       refine mend (P:=bodyPost _ _ _ _ _) HD4.out HM4.out HX4.out (by omega) _ _ _ _ _ ?_
       clear HD4 HM4 HX4 cX0 cX1 cX2 cX3 cX4 zX0 zX1 zX2 zX3 zX4
       intro w9 hd9 hm9 c0 c1 c2 c3 c4
       refine bodyPost_ret (v:=.agg zz) (by simp [results,Tryz.results157,go_sem,c0,c1,c2,c3,c4]) rfl ⟨vz,14,S,n,ov,rfl,by rw [HAP.out,HWN.out,HB.out];exact Ans.er rfl rfl (by decide),fun _=>rfl,hd9,hm9⟩
 · have HAP:=qq (ap_no (o:=17) (l:=[p,q]) hf S n)
   have HD2:=qq (show Mac w0 A c E b l S n 13 ov w2 by rw [hf] at hd2;exact hd2);have HM2:=qq (HM1.out.trans hm2);have HX2:=qq (HX1.out.mv hm2)
   rw [hf]
   clear hd2 hm2 hbl2 hf HD1 HM1 HX1 HKa1 HKb1 HL1 
   obtain ⟨cX0,cX1,cX2,cX3,cX4,zX0,zX1,zX2,zX3,zX4,hltX⟩:=HX2.out.five
   go_wp2_with fail
   refine mend (P:=bodyPost _ _ _ _ _) HD2.out HM2.out HX2.out (by omega) _ _ _ _ _ ?_
   clear HD2 HM2 HX2 cX0 cX1 cX2 cX3 cX4 zX0 zX1 zX2 zX3 zX4
   intro w9 hd9 hm9 c0 c1 c2 c3 c4
   refine bodyPost_ret (v:=.agg zz) (by simp [results,Tryz.results157,go_sem,c0,c1,c2,c3,c4]) rfl ⟨vz,13,S,n,ov,rfl,Ans.er HAP.out rfl (by decide),fun _=>rfl,hd9,hm9⟩
end Go.Proofs.YtgakcpcpfkoaiaaGreatDoor.Ev

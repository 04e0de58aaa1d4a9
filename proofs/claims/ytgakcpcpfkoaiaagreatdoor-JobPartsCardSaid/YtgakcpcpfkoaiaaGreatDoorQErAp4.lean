/-
  A text of this claim: ErAp4.
-/
import Derived.Test.YtgakcpcpfkoaiaaGreatDoorQ1
import Derived.Test.YtgakcpcpfkoaiaaGreatDoorQErStr
import Derived.Test.YtgakcpcpfkoaiaaGreatDoorQErStrW
import Derived.Test.YtgakcpcpfkoaiaaGreatDoorQErStrC
import Derived.Test.YtgakcpcpfkoaiaaGreatDoorQErStrN
set_option maxHeartbeats 4000000
set_option maxRecDepth 100000
namespace Go.Proofs.YtgakcpcpfkoaiaaGreatDoor.Ev
open Go.ChangeShapes Go.WideShapes Go.ChangeAt Go.RowKit Ov Va Ga Ex
theorem map_cat {w0:World} {A:Option Addr} {c E b n:Nat} {l:List No} {S:St} {ov:Value} {w:World} {L cap:Nat} (p q:Va) (hp:rt p=true) (hq:rt q=true) (hv:Vs w L [p,q]) (hd:Mac w0 A c E b l S n 0 ov w) (hl:0<l.length):Calls Tryz.prog 114 #[.pointer (some ⟨b,0,none⟩),.string ⟨#[99,97,116]⟩,.slice (some ⟨L,0,none⟩) 2 cap] w (Rn (ap 14 [p,q] S n) w0 A c E b l ov w):=by
 have HST:=qq (fun w1 (h1:Vs w1 L [p,q]) (h:Mac w0 A c E b l S n 0 ov w1)=>mstr_cat (cap:=cap) p q hp hq h1 h hl)
 clear hp hq
 obtain ⟨l0,l1,l2,l3,l4,hLlt⟩:=hv.p1
 obtain ⟨l5,l6,l7,l8,l9⟩:=hv.p2
 obtain ⟨w1,hw1,hd1,hm1,hbel,hsz,hbX,hbA,hbB⟩:=mbox3 hd hl 28 zz 28 p 28 q
 have HD1:=qq hd1;have HM1:=qq hm1;have HW1:=qq hw1;have HX1:=qq hbX;have HA1:=qq hbA;have HB1:=qq hbB
 have HL1:=qq (hv.next hbel);clear hv
 clear hd hd1 hm1 hbel hsz hw1 hbX hbA hbB
 go_enter Tryz.func114,Tryz.ntmps114
 go_wp2_with fail
 rw [HW1.out]
 clear l0 l1 l2 l3 l4 l5 l6 l7 l8 l9 hLlt 
 refine (HST.out _ HL1.out HD1.out).mono ?_
 rintro e w2 ⟨u,x,S1,n1,ov1,rfl,hans,hz,hd3,hm3⟩
 have HA:=qq hans;have HZ:=qq hz;have HD2:=qq hd3;have HM2:=qq (HM1.out.trans hm3);have HX2:=qq (HX1.out.mv hm3)
 clear hans hz hd3 hm3 HD1 HM1 HX1 HA1 HB1  HL1
 obtain ⟨cX0,cX1,cX2,cX3,cX4,zX0,zX1,zX2,zX3,zX4,hltX⟩:=HX2.out.five
 go_wp2_with fail
 refine mend (P:=bodyPost _ _ _ _ _) HD2.out HM2.out HX2.out (by omega) _ _ _ _ _ ?_
 clear HD2 HM2 HX2 cX0 cX1 cX2 cX3 cX4 zX0 zX1 zX2 zX3 zX4
 intro w9 hd9 hm9 c0 c1 c2 c3 c4
 refine bodyPost_ret (v:=.agg u) (by simp [results,Tryz.results114,go_sem,c0,c1,c2,c3,c4]) rfl ⟨u,x,S1,n1,ov1,rfl,by rw [show ap 14 [p,q] S n=ap 14 [p,q] S n from rfl];exact HA.out,HZ.out,hd9,hm9⟩
theorem map_len {w0:World} {A:Option Addr} {c E b n:Nat} {l:List No} {S:St} {ov:Value} {w:World} {L cap:Nat} (p:Va) (hp:rt p=true) (hv:Vs w L [p]) (hd:Mac w0 A c E b l S n 0 ov w) (hl:0<l.length):Calls Tryz.prog 114 #[.pointer (some ⟨b,0,none⟩),.string ⟨#[108,101,110]⟩,.slice (some ⟨L,0,none⟩) 1 cap] w (Rn (ap 15 [p] S n) w0 A c E b l ov w):=by
 have HST:=qq (fun w1 (h1:Vs w1 L [p]) (h:Mac w0 A c E b l S n 0 ov w1)=>mstr_len (cap:=cap) p hp h1 h hl)
 clear hp
 obtain ⟨l0,l1,l2,l3,l4,hLlt⟩:=hv.p1
 obtain ⟨w1,hw1,hd1,hm1,hbel,hsz,hbX,hbA,hbB⟩:=mbox3 hd hl 28 zz 28 p 28 p
 have HD1:=qq hd1;have HM1:=qq hm1;have HW1:=qq hw1;have HX1:=qq hbX;have HA1:=qq hbA;have HB1:=qq hbB
 have HL1:=qq (hv.next hbel);clear hv
 clear hd hd1 hm1 hbel hsz hw1 hbX hbA hbB
 go_enter Tryz.func114,Tryz.ntmps114
 go_wp2_with fail
 rw [HW1.out]
 clear l0 l1 l2 l3 l4 hLlt 
 refine (HST.out _ HL1.out HD1.out).mono ?_
 rintro e w2 ⟨u,x,S1,n1,ov1,rfl,hans,hz,hd3,hm3⟩
 have HA:=qq hans;have HZ:=qq hz;have HD2:=qq hd3;have HM2:=qq (HM1.out.trans hm3);have HX2:=qq (HX1.out.mv hm3)
 clear hans hz hd3 hm3 HD1 HM1 HX1 HA1 HB1  HL1
 obtain ⟨cX0,cX1,cX2,cX3,cX4,zX0,zX1,zX2,zX3,zX4,hltX⟩:=HX2.out.five
 go_wp2_with fail
 refine mend (P:=bodyPost _ _ _ _ _) HD2.out HM2.out HX2.out (by omega) _ _ _ _ _ ?_
 clear HD2 HM2 HX2 cX0 cX1 cX2 cX3 cX4 zX0 zX1 zX2 zX3 zX4
 intro w9 hd9 hm9 c0 c1 c2 c3 c4
 refine bodyPost_ret (v:=.agg u) (by simp [results,Tryz.results114,go_sem,c0,c1,c2,c3,c4]) rfl ⟨u,x,S1,n1,ov1,rfl,by rw [show ap 15 [p] S n=ap 15 [p] S n from rfl];exact HA.out,HZ.out,hd9,hm9⟩
theorem map_cut {w0:World} {A:Option Addr} {c E b n:Nat} {l:List No} {S:St} {ov:Value} {w:World} {L cap:Nat} (p q r:Va) (hp:rt p=true) (hq:rt q=true) (hr:rt r=true) (hv:Vs w L [p,q,r]) (hd:Mac w0 A c E b l S n 0 ov w) (hl:0<l.length):Calls Tryz.prog 114 #[.pointer (some ⟨b,0,none⟩),.string ⟨#[99,117,116]⟩,.slice (some ⟨L,0,none⟩) 3 cap] w (Rn (ap 16 [p,q,r] S n) w0 A c E b l ov w):=by
 have HST:=qq (fun w1 (h1:Vs w1 L [p,q,r]) (h:Mac w0 A c E b l S n 0 ov w1)=>mstr_cut (cap:=cap) p q r hp hq hr h1 h hl)
 clear hp hq hr
 obtain ⟨l0,l1,l2,l3,l4,hLlt⟩:=hv.p1
 obtain ⟨l10,l11,l12,l13,l14⟩:=hv.p3
 obtain ⟨w1,hw1,hd1,hm1,hbel,hsz,hbX,hbA,hbB⟩:=mbox3 hd hl 28 zz 28 p 28 r
 have HD1:=qq hd1;have HM1:=qq hm1;have HW1:=qq hw1;have HX1:=qq hbX;have HA1:=qq hbA;have HB1:=qq hbB
 have HL1:=qq (hv.next hbel);clear hv
 clear hd hd1 hm1 hbel hsz hw1 hbX hbA hbB
 go_enter Tryz.func114,Tryz.ntmps114
 go_wp2_with fail
 rw [HW1.out]
 clear l0 l1 l2 l3 l4 l10 l11 l12 l13 l14 hLlt 
 refine (HST.out _ HL1.out HD1.out).mono ?_
 rintro e w2 ⟨u,x,S1,n1,ov1,rfl,hans,hz,hd3,hm3⟩
 have HA:=qq hans;have HZ:=qq hz;have HD2:=qq hd3;have HM2:=qq (HM1.out.trans hm3);have HX2:=qq (HX1.out.mv hm3)
 clear hans hz hd3 hm3 HD1 HM1 HX1 HA1 HB1  HL1
 obtain ⟨cX0,cX1,cX2,cX3,cX4,zX0,zX1,zX2,zX3,zX4,hltX⟩:=HX2.out.five
 go_wp2_with fail
 refine mend (P:=bodyPost _ _ _ _ _) HD2.out HM2.out HX2.out (by omega) _ _ _ _ _ ?_
 clear HD2 HM2 HX2 cX0 cX1 cX2 cX3 cX4 zX0 zX1 zX2 zX3 zX4
 intro w9 hd9 hm9 c0 c1 c2 c3 c4
 refine bodyPost_ret (v:=.agg u) (by simp [results,Tryz.results114,go_sem,c0,c1,c2,c3,c4]) rfl ⟨u,x,S1,n1,ov1,rfl,by rw [show ap 16 [p,q,r] S n=ap 16 [p,q,r] S n from rfl];exact HA.out,HZ.out,hd9,hm9⟩
theorem map_word {w0:World} {A:Option Addr} {c E b n:Nat} {l:List No} {S:St} {ov:Value} {w:World} {L cap:Nat} (p q:Va) (hp:rt p=true) (hq:rt q=true) (hv:Vs w L [p,q]) (hd:Mac w0 A c E b l S n 0 ov w) (hl:0<l.length):Calls Tryz.prog 114 #[.pointer (some ⟨b,0,none⟩),.string ⟨#[119,111,114,100]⟩,.slice (some ⟨L,0,none⟩) 2 cap] w (Rn (ap 17 [p,q] S n) w0 A c E b l ov w):=by
 have HST:=qq (fun w1 (h1:Vs w1 L [p,q]) (h:Mac w0 A c E b l S n 0 ov w1)=>mstr_word (cap:=cap) p q hp hq h1 h hl)
 clear hp hq
 obtain ⟨l0,l1,l2,l3,l4,hLlt⟩:=hv.p1
 obtain ⟨l5,l6,l7,l8,l9⟩:=hv.p2
 obtain ⟨w1,hw1,hd1,hm1,hbel,hsz,hbX,hbA,hbB⟩:=mbox3 hd hl 28 zz 28 p 28 q
 have HD1:=qq hd1;have HM1:=qq hm1;have HW1:=qq hw1;have HX1:=qq hbX;have HA1:=qq hbA;have HB1:=qq hbB
 have HL1:=qq (hv.next hbel);clear hv
 clear hd hd1 hm1 hbel hsz hw1 hbX hbA hbB
 go_enter Tryz.func114,Tryz.ntmps114
 go_wp2_with fail
 rw [HW1.out]
 clear l0 l1 l2 l3 l4 l5 l6 l7 l8 l9 hLlt 
 refine (HST.out _ HL1.out HD1.out).mono ?_
 rintro e w2 ⟨u,x,S1,n1,ov1,rfl,hans,hz,hd3,hm3⟩
 have HA:=qq hans;have HZ:=qq hz;have HD2:=qq hd3;have HM2:=qq (HM1.out.trans hm3);have HX2:=qq (HX1.out.mv hm3)
 clear hans hz hd3 hm3 HD1 HM1 HX1 HA1 HB1  HL1
 obtain ⟨cX0,cX1,cX2,cX3,cX4,zX0,zX1,zX2,zX3,zX4,hltX⟩:=HX2.out.five
 go_wp2_with fail
 refine mend (P:=bodyPost _ _ _ _ _) HD2.out HM2.out HX2.out (by omega) _ _ _ _ _ ?_
 clear HD2 HM2 HX2 cX0 cX1 cX2 cX3 cX4 zX0 zX1 zX2 zX3 zX4
 intro w9 hd9 hm9 c0 c1 c2 c3 c4
 refine bodyPost_ret (v:=.agg u) (by simp [results,Tryz.results114,go_sem,c0,c1,c2,c3,c4]) rfl ⟨u,x,S1,n1,ov1,rfl,by rw [show ap 17 [p,q] S n=ap 17 [p,q] S n from rfl];exact HA.out,HZ.out,hd9,hm9⟩
theorem map_words {w0:World} {A:Option Addr} {c E b n:Nat} {l:List No} {S:St} {ov:Value} {w:World} {L cap:Nat} (p:Va) (hp:rt p=true) (hv:Vs w L [p]) (hd:Mac w0 A c E b l S n 0 ov w) (hl:0<l.length):Calls Tryz.prog 114 #[.pointer (some ⟨b,0,none⟩),.string ⟨#[119,111,114,100,115]⟩,.slice (some ⟨L,0,none⟩) 1 cap] w (Rn (ap 18 [p] S n) w0 A c E b l ov w):=by
 have HST:=qq (fun w1 (h1:Vs w1 L [p]) (h:Mac w0 A c E b l S n 0 ov w1)=>mstr_words (cap:=cap) p hp h1 h hl)
 clear hp
 obtain ⟨l0,l1,l2,l3,l4,hLlt⟩:=hv.p1
 obtain ⟨w1,hw1,hd1,hm1,hbel,hsz,hbX,hbA,hbB⟩:=mbox3 hd hl 28 zz 28 p 28 p
 have HD1:=qq hd1;have HM1:=qq hm1;have HW1:=qq hw1;have HX1:=qq hbX;have HA1:=qq hbA;have HB1:=qq hbB
 have HL1:=qq (hv.next hbel);clear hv
 clear hd hd1 hm1 hbel hsz hw1 hbX hbA hbB
 go_enter Tryz.func114,Tryz.ntmps114
 go_wp2_with fail
 rw [HW1.out]
 clear l0 l1 l2 l3 l4 hLlt 
 refine (HST.out _ HL1.out HD1.out).mono ?_
 rintro e w2 ⟨u,x,S1,n1,ov1,rfl,hans,hz,hd3,hm3⟩
 have HA:=qq hans;have HZ:=qq hz;have HD2:=qq hd3;have HM2:=qq (HM1.out.trans hm3);have HX2:=qq (HX1.out.mv hm3)
 clear hans hz hd3 hm3 HD1 HM1 HX1 HA1 HB1  HL1
 obtain ⟨cX0,cX1,cX2,cX3,cX4,zX0,zX1,zX2,zX3,zX4,hltX⟩:=HX2.out.five
 go_wp2_with fail
 refine mend (P:=bodyPost _ _ _ _ _) HD2.out HM2.out HX2.out (by omega) _ _ _ _ _ ?_
 clear HD2 HM2 HX2 cX0 cX1 cX2 cX3 cX4 zX0 zX1 zX2 zX3 zX4
 intro w9 hd9 hm9 c0 c1 c2 c3 c4
 refine bodyPost_ret (v:=.agg u) (by simp [results,Tryz.results114,go_sem,c0,c1,c2,c3,c4]) rfl ⟨u,x,S1,n1,ov1,rfl,by rw [show ap 18 [p] S n=ap 18 [p] S n from rfl];exact HA.out,HZ.out,hd9,hm9⟩
theorem map_num {w0:World} {A:Option Addr} {c E b n:Nat} {l:List No} {S:St} {ov:Value} {w:World} {L cap:Nat} (p:Va) (hp:rt p=true) (hv:Vs w L [p]) (hd:Mac w0 A c E b l S n 0 ov w) (hl:0<l.length):Calls Tryz.prog 114 #[.pointer (some ⟨b,0,none⟩),.string ⟨#[110,117,109]⟩,.slice (some ⟨L,0,none⟩) 1 cap] w (Rn (ap 19 [p] S n) w0 A c E b l ov w):=by
 have HST:=qq (fun w1 (h1:Vs w1 L [p]) (h:Mac w0 A c E b l S n 0 ov w1)=>mstr_num (cap:=cap) p hp h1 h hl)
 clear hp
 obtain ⟨l0,l1,l2,l3,l4,hLlt⟩:=hv.p1
 obtain ⟨w1,hw1,hd1,hm1,hbel,hsz,hbX,hbA,hbB⟩:=mbox3 hd hl 28 zz 28 p 28 p
 have HD1:=qq hd1;have HM1:=qq hm1;have HW1:=qq hw1;have HX1:=qq hbX;have HA1:=qq hbA;have HB1:=qq hbB
 have HL1:=qq (hv.next hbel);clear hv
 clear hd hd1 hm1 hbel hsz hw1 hbX hbA hbB
 go_enter Tryz.func114,Tryz.ntmps114
 go_wp2_with fail
 rw [HW1.out]
 clear l0 l1 l2 l3 l4 hLlt 
 refine (HST.out _ HL1.out HD1.out).mono ?_
 rintro e w2 ⟨u,x,S1,n1,ov1,rfl,hans,hz,hd3,hm3⟩
 have HA:=qq hans;have HZ:=qq hz;have HD2:=qq hd3;have HM2:=qq (HM1.out.trans hm3);have HX2:=qq (HX1.out.mv hm3)
 clear hans hz hd3 hm3 HD1 HM1 HX1 HA1 HB1  HL1
 obtain ⟨cX0,cX1,cX2,cX3,cX4,zX0,zX1,zX2,zX3,zX4,hltX⟩:=HX2.out.five
 go_wp2_with fail
 refine mend (P:=bodyPost _ _ _ _ _) HD2.out HM2.out HX2.out (by omega) _ _ _ _ _ ?_
 clear HD2 HM2 HX2 cX0 cX1 cX2 cX3 cX4 zX0 zX1 zX2 zX3 zX4
 intro w9 hd9 hm9 c0 c1 c2 c3 c4
 refine bodyPost_ret (v:=.agg u) (by simp [results,Tryz.results114,go_sem,c0,c1,c2,c3,c4]) rfl ⟨u,x,S1,n1,ov1,rfl,by rw [show ap 19 [p] S n=ap 19 [p] S n from rfl];exact HA.out,HZ.out,hd9,hm9⟩
end Go.Proofs.YtgakcpcpfkoaiaaGreatDoor.Ev

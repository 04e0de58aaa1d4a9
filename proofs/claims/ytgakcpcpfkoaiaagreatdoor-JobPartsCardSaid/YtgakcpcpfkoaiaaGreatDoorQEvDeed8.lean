/-
  A text of this claim: EvDeed8.
-/
import Derived.Test.YtgakcpcpfkoaiaaGreatDoorQ7
import Derived.Test.YtgakcpcpfkoaiaaGreatDoorQ1
set_option maxHeartbeats 4000000
set_option maxRecDepth 100000
namespace Go.Proofs.YtgakcpcpfkoaiaaGreatDoor.Ev
open Go.ChangeShapes Go.WideShapes Go.ChangeAt Go.RowKit Ov Va Ga Ex
theorem body_each (f:List No→M Va) (n:No) (r:List No) (h:n.o=28):body f n r=bnd (prt f [0] r) (fun a=>if (at0 a).n<0 then fail 14 else withI (lp (f (nx r)) (at0 a).n.toNat 0 vz)):=by
 unfold body
 rw [if_neg (by omega),if_neg (by omega),if_neg (by omega),if_pos h,prt_one]
 congr 1
 funext a
 by_cases h0:a.k=0
 · have e:((0:Int) == -1 || a.k == 0)=true:=by simp [h0]
   rw [e,if_neg (fun e=>e h0)];rfl
 · have e:((0:Int) == -1 || a.k == 0)=false:=by simpa using h0
   rw [e,if_pos h0];rfl
theorem withI_ans {f:M Va} {S S2:St} {n n2:Nat} {P:Va→Prop} {x:Int} (h:Ans (f S n) P x S2 n2):Ans (withI f S n) P x { S2 with i:=S.i } n2:=by
 unfold withI
 rcases h.cases with ⟨h0,e⟩ | ⟨h0,a,ha,e⟩
 · rw [e];exact ⟨rfl,h0⟩
 · rw [e];exact ⟨h0,ha,rfl,rfl⟩
def JE (w0:World) (A:Option Addr) (c E b:Nat) (l:List No) (ov:Value) (w:World) (Z:Nat) (k:Nat) (g:M Va) (X:Rs Va) (a':Act) (w':World):Prop :=
 ∃ (N:Nat) (S1:St) (n1 L:Nat) (P:Value) (j:Nat) (v:Va) (S2:St) (n2:Nat) (ov2:Value) (u11:Value) (u12 u13 u14 u15 u16 u17 u18 u19 u20 u21 u22 u23 u24 u25 u26 u27 u28 u29 u30 u31 u32 u33 u34 u35 u36 u37 u38 u39 u40 u41 u42 u43 u44 u45 u46 u47 u48 u49 u50 u51 u52 u53 u54 u55:Value),
  N≤9007199254740992∧X=withI (lp g N 0 vz) S1 n1∧j≤N∧lp g N 0 vz S1 n1=lp g (N - j) j v S2 n2∧Gd S2 n2∧Doer w0 A c E b l S2 n2 ov2 w'∧Mv b ov w ov2 w'∧Box w0 b E ov2 Z zz w'∧Box w0 b E ov2 L (vcl v) w'∧L ≠ Z∧w.heap.size≤L ∧
  a'={ tmps:=#[.pointer (some ⟨b,0,none⟩),.int .i64 (k:Int),undef,undef,.pointer (some ⟨Z,0,none⟩),.int .i64 0,P,.int .i64 0,.int .i64 (N:Int),.pointer (some ⟨L,0,none⟩),.int .i64 (j:Int),u11,u12,u13,u14,u15,u16,u17,u18,u19,u20,u21,u22,u23,u24,u25,u26,u27,u28,u29,u30,u31,u32,u33,u34,u35,u36,u37,u38,u39,u40,u41,u42,u43,u44,u45,u46,u47,u48,u49,u50,u51,u52,u53,u54,u55],
         defers:=[{ target:=.fn (.func 150) #[],args:=#[.pointer (some ⟨b,0,none⟩),.int .i64 3,.agg #[.int .i64 0,.int .i64 S1.i,.string ⟨#[]⟩,.int .i64 0,.int .i64 0]] }] }
def muE (a:Act) (_:World):Nat:=(intOf (a.tmps.getD 8 undef)).toNat - (intOf (a.tmps.getD 10 undef)).toNat
theorem deed_each {d:Nat} (HD:DoC (ev d) d):DeedC d 28 108:=by
 intro w0 A c E b l S n ov w k r hcx hd hg hkl ho hrn hx hd24
 have HBD:Hid (body (ev d) (nd l k) (l.drop (k+1)) S n=bnd (prt (ev d) [0] (l.drop (k+1))) (fun a=>if (at0 a).n<0 then fail 14 else withI (lp (ev d (nx (l.drop (k+1)))) (at0 a).n.toNat 0 vz)) S n):=by show _=_;exact congrFun (congrFun (body_each _ _ _ ho) S) n
 have HP:=qq (pre_any HD [0] (by decide) (by decide) (by decide) hcx hd hg hkl hx (by decide) hd24)
 have hx3:=hx
 change it (ex d) 2 (l.drop (k+1))=some r at hx3
 rw [it_succ] at hx3
 obtain ⟨r1,x1,hx3⟩:=Option.bind_eq_some_iff.1 hx3
 rw [it_succ] at hx3
 obtain ⟨r2,x2,hx3⟩:=Option.bind_eq_some_iff.1 hx3
 obtain ⟨g1,g2,g3⟩:=ex_drop_len x1 (by omega)
 obtain ⟨y1,hy1⟩:∃ y1,l.length - r1.length=y1:=⟨_,rfl⟩
 rw [hy1] at g1 g2
 rw [g1] at x2
 obtain ⟨g4,g5,g6⟩:=ex_drop_len x2 (by omega)
 have hl:=hcx.len
 have HB1:Hid (l.length - (nx (l.drop (k+1))).length=y1):=by show _=_;rw [nx_of x1 (by omega)];exact hy1
 have HN1:Hid (nx (l.drop (k+1))=l.drop y1):=by show _=_;rw [nx_of x1 (by omega)];exact g1
 have HC1:=qq (fun S1 n1 ov1 w3 hd3 hg3=>HD w0 A c E b l S1 n1 ov1 w3 y1 r2 hcx hd3 hg3 x2 (by omega))
 have HGE:=qq (ev_good d (by omega) _ _ x2)
 have hk1:k+1<l.length:=by omega
 have hy1l:y1<l.length:=by omega
 clear hx3 x1 x2 g1 g2 g3 g4 g5 g6 hy1
 clear hcx hd hg ho hrn hx hd24 HD
 go_enter_defers Tryz.func108,Tryz.ntmps108
 go_wp2_with fail
 refine wp_scope_once 0 (JE w0 A c E b l ov w w.heap.size k (ev d (l.drop y1)) (body (ev d) (nd l k) (l.drop (k+1)) S n)) muE rfl (fun NX=>?_) ?_
 rotate_left
 · rintro a1 w5 ⟨N,S1,n1,L,P,j,v,S2,n2,ov2,u11,u12,u13,u14,u15,u16,u17,u18,u19,u20,u21,u22,u23,u24,u25,u26,u27,u28,u29,u30,u31,u32,u33,u34,u35,u36,u37,u38,u39,u40,u41,u42,u43,u44,u45,u46,u47,u48,u49,u50,u51,u52,u53,u54,u55,hN,hX,hj,hlp,hg,hd,hm,hx,hlx,hLZ,hwL,rfl⟩
   have HX:=qq hX;have HLP:=qq hlp;have HG:=qq hg;have HD5:=qq hd;have HM5:=qq hm;have HX5:=qq hx;have HL5:=qq hlx
   have hLl:=hlx.blk.lt
   have hlZ5:=hx.blk.lt
   clear hX hlp hg hd hm hx hlx HBD HP
   by_cases he:j=N
   · subst he
     have h0:((j:Int) == (j:Int))=true:=beq_self_eq_true _
     have HR:Hid (lp (ev d (l.drop y1)) j 0 vz S1 n1=.ok v S2 n2):=by show _=_;rw [HLP.out,Nat.sub_self];rfl
     clear HLP
     obtain ⟨cX0,cX1,cX2,cX3,cX4,zX0,zX1,zX2,zX3,zX4,hltX⟩:=HX5.out.fiv
     obtain ⟨qL0,qL1,qL2,qL3,qL4⟩:=ck5 HL5.out.blk
     go_wp2_with fail
     have hd9:=(HD5.out.puts HX5.out 0 v)
     have hm9:=(Mv.puts (B:=w.heap.size) HM5.out (by omega) 0 v)
     have hxX:=(Box.puts (HX5.out) v rfl)
     clear cX0 cX1 cX2 cX3 cX4 zX0 zX1 zX2 zX3 zX4 qL0 qL1 qL2 qL3 qL4 HD5 HM5 HX5 HL5 
     simp only [Exit.jump]
     change bodyPostD _ _ _ _ _ (((((w5.setCell ⟨w.heap.size,0,none⟩ (.int .i64 v.k)).setCell ⟨w.heap.size,1,none⟩ (.int .i64 v.n)).setCell ⟨w.heap.size,2,none⟩ (.string (tx v.s))).setCell ⟨w.heap.size,3,none⟩ (.int .i64 v.x)).setCell ⟨w.heap.size,4,none⟩ (.int .i64 v.y))
     change Doer _ _ _ _ _ _ _ _ _ ((((((w5.setCell ⟨w.heap.size,0,none⟩ (.int .i64 v.k)).setCell ⟨w.heap.size,1,none⟩ (.int .i64 v.n)).setCell ⟨w.heap.size,2,none⟩ (.string (tx v.s))).setCell ⟨w.heap.size,3,none⟩ (.int .i64 v.x)).setCell ⟨w.heap.size,4,none⟩ (.int .i64 v.y))) at hd9
     change Mv _ _ _ _ ((((((w5.setCell ⟨w.heap.size,0,none⟩ (.int .i64 v.k)).setCell ⟨w.heap.size,1,none⟩ (.int .i64 v.n)).setCell ⟨w.heap.size,2,none⟩ (.string (tx v.s))).setCell ⟨w.heap.size,3,none⟩ (.int .i64 v.x)).setCell ⟨w.heap.size,4,none⟩ (.int .i64 v.y))) at hm9
     change Box _ _ _ _ _ _ ((((((w5.setCell ⟨w.heap.size,0,none⟩ (.int .i64 v.k)).setCell ⟨w.heap.size,1,none⟩ (.int .i64 v.n)).setCell ⟨w.heap.size,2,none⟩ (.string (tx v.s))).setCell ⟨w.heap.size,3,none⟩ (.int .i64 v.x)).setCell ⟨w.heap.size,4,none⟩ (.int .i64 v.y))) at hxX
     generalize ((((((w5.setCell ⟨w.heap.size,0,none⟩ (.int .i64 v.k)).setCell ⟨w.heap.size,1,none⟩ (.int .i64 v.n)).setCell ⟨w.heap.size,2,none⟩ (.string (tx v.s))).setCell ⟨w.heap.size,3,none⟩ (.int .i64 v.x)).setCell ⟨w.heap.size,4,none⟩ (.int .i64 v.y)))=w9 at *
     have cX0:=hxX.blk.c 0 _ rfl
     have cX1:=hxX.blk.c 1 _ rfl
     have cX2:=hxX.blk.c 2 _ rfl
     have cX3:=hxX.blk.c 3 _ rfl
     have cX4:=hxX.blk.c 4 _ rfl
     refine leaves_cons (f:=150) (args:=#[.pointer (some ⟨b,0,none⟩),.int .i64 3,.agg #[.int .i64 0,.int .i64 S1.i,.string ⟨#[]⟩,.int .i64 0,.int .i64 0]]) (by simp) (by simp [go_sem]) ?_
     refine (stand3_def w9 S1.i hd9 .returning).mono ?_
     rintro e u w10 ⟨rfl,rfl,hd10,hm10⟩
     have hx10:=hxX.mv hm10
     have kX0:=hx10.blk.c 0 _ rfl;have kX1:=hx10.blk.c 1 _ rfl;have kX2:=hx10.blk.c 2 _ rfl;have kX3:=hx10.blk.c 3 _ rfl;have kX4:=hx10.blk.c 4 _ rfl
     refine ⟨.tuple #[.agg v,.int .i64 0],by simp [results,Tryz.results108,go_sem,kX0,kX1,kX2,kX3,kX4],⟨v,0,{ S2 with i:=S1.i },n2,ov2,rfl,by rw [HX.out];exact withI_ans (Ans.ok HR.out rfl),hd10,hm9.trans hm10⟩⟩
   · have h0:((j:Int) == (N:Int))=false:=by rw [beq_eq_false_iff_ne];omega
     have HR:Hid (lp (ev d (l.drop y1)) N 0 vz S1 n1=bnd (ev d (l.drop y1)) (fun v=>lp (ev d (l.drop y1)) (N - (j+1)) ((j+1:Nat):Int) v) { S2 with i:=(j:Int) } n2):=by
      show _=_
      rw [HLP.out,show N - j=(N - (j+1))+1 by omega,lp_succ];rfl
     clear HLP
     go_wp2_with fail
     refine (enumber_any _ _).mono ?_
     rintro e w6 ⟨rfl,hb⟩
     have HD6:=qq (HD5.out.old hb)
     have HM6:=qq (HM5.out.old hb)
     have HX6:=qq (HX5.out.old hb)
     have HL6:=qq (HL5.out.old hb)
     clear hb HD5 HM5 HX5 HL5  
     have HS:=qq (stand3_any _ (j:Int) HD6.out)
     go_wp2_with fail
     refine (HS.out).mono ?_
     rintro e w7 ⟨rfl,hd7,hm7⟩
     have HD7:=qq hd7;have HX7:=qq (HX6.out.mv hm7);have HL7:=qq (HL6.out.mv hm7);have HM7:=qq (HM6.out.trans hm7)
     clear hd7 hm7 HD6 HX6 HL6 HM6 HS
     have HS:=qq (second_any _ k HD7.out hk1 hl)
     rw [HB1.out] at HS
     go_wp2_with fail
     refine (HS.out).mono ?_
     rintro e w8 ⟨rfl,hb⟩
     have HD8:=qq (HD7.out.old hb)
     have HM8:=qq (HM7.out.old hb)
     have HX8:=qq (HX7.out.old hb)
     have HL8:=qq (HL7.out.old hb)
     clear hb HD7 HM7 HX7 HL7  HS
     have HG7:Hid (Gd { S2 with i:=(j:Int) } n2):=⟨HG.out.key,HG.out.val,HG.out.acc,⟨by show _≤(j:Int);omega,by show (j:Int)≤_;omega⟩,HG.out.it,HG.out.out,HG.out.fuel⟩
     have HCC:=qq (HC1.out _ n2 ov2 w8 HD8.out HG7.out)
     go_wp2_with fail
     refine HCC.out.mono ?_
     rintro e w11 ⟨u,x,S3,n3,ov3,rfl,ha6,hd6,hm6⟩
     have HA6:=qq ha6;have HD11:=qq hd6;have HM11:=qq (HM8.out.trans hm6);have HX11:=qq (HX8.out.mv hm6);have HL11:=qq (HL8.out.mv hm6)
     clear ha6 hd6 hm6 HD8 HM8 HX8 HL8 HCC 
     rcases HA6.out.cases with ⟨hx0,hX⟩ | ⟨rfl,a,rfl,hX⟩
     · have HX0:=qq hx0
       have HXX:Hid (lp (ev d (l.drop y1)) N 0 vz S1 n1=.er x):=by show _=_;rw [HR.out,bnd_er hX]
       have hx1:(x == 0)=false:=by simpa using hx0
       have hx2:(x != 0)=true:=by simpa using hx0
       clear hx0 hX HA6
       obtain ⟨cX0,cX1,cX2,cX3,cX4,zX0,zX1,zX2,zX3,zX4,hltX⟩:=HX11.out.fiv
       obtain ⟨cL0,cL1,cL2,cL3,cL4,zL0,zL1,zL2,zL3,zL4,hltL⟩:=HL11.out.fiv
       go_wp2_with fail
       have hd9:=((HD11.out.puts HL11.out 0 u).puts (Box.puts_other (C:=L) (HX11.out) (by omega) 0 u) 0 zz)
       have hm9:=(Mv.puts (B:=w.heap.size) (Mv.puts (B:=L) HM11.out (by omega) 0 u) (by omega) 0 zz)
       have hxL:=(Box.puts_other (C:=w.heap.size) ((Box.puts (HL11.out) u rfl)) (by omega) 0 zz)
       have hxX:=(Box.puts ((Box.puts_other (C:=L) (HX11.out) (by omega) 0 u)) zz rfl)
       clear cX0 cX1 cX2 cX3 cX4 zX0 zX1 zX2 zX3 zX4 cL0 cL1 cL2 cL3 cL4 zL0 zL1 zL2 zL3 zL4 HD11 HM11 HX11 HL11 
       simp only [Exit.jump]
       change bodyPostD _ _ _ _ _ ((((((((((w11.setCell ⟨L,0,none⟩ (.int .i64 u.k)).setCell ⟨L,1,none⟩ (.int .i64 u.n)).setCell ⟨L,2,none⟩ (.string (tx u.s))).setCell ⟨L,3,none⟩ (.int .i64 u.x)).setCell ⟨L,4,none⟩ (.int .i64 u.y)).setCell ⟨w.heap.size,0,none⟩ (.int .i64 0)).setCell ⟨w.heap.size,1,none⟩ (.int .i64 0)).setCell ⟨w.heap.size,2,none⟩ (.string ⟨#[]⟩)).setCell ⟨w.heap.size,3,none⟩ (.int .i64 0)).setCell ⟨w.heap.size,4,none⟩ (.int .i64 0))
       change Doer _ _ _ _ _ _ _ _ _ (((((((((((w11.setCell ⟨L,0,none⟩ (.int .i64 u.k)).setCell ⟨L,1,none⟩ (.int .i64 u.n)).setCell ⟨L,2,none⟩ (.string (tx u.s))).setCell ⟨L,3,none⟩ (.int .i64 u.x)).setCell ⟨L,4,none⟩ (.int .i64 u.y)).setCell ⟨w.heap.size,0,none⟩ (.int .i64 0)).setCell ⟨w.heap.size,1,none⟩ (.int .i64 0)).setCell ⟨w.heap.size,2,none⟩ (.string ⟨#[]⟩)).setCell ⟨w.heap.size,3,none⟩ (.int .i64 0)).setCell ⟨w.heap.size,4,none⟩ (.int .i64 0))) at hd9
       change Mv _ _ _ _ (((((((((((w11.setCell ⟨L,0,none⟩ (.int .i64 u.k)).setCell ⟨L,1,none⟩ (.int .i64 u.n)).setCell ⟨L,2,none⟩ (.string (tx u.s))).setCell ⟨L,3,none⟩ (.int .i64 u.x)).setCell ⟨L,4,none⟩ (.int .i64 u.y)).setCell ⟨w.heap.size,0,none⟩ (.int .i64 0)).setCell ⟨w.heap.size,1,none⟩ (.int .i64 0)).setCell ⟨w.heap.size,2,none⟩ (.string ⟨#[]⟩)).setCell ⟨w.heap.size,3,none⟩ (.int .i64 0)).setCell ⟨w.heap.size,4,none⟩ (.int .i64 0))) at hm9
       change Box _ _ _ _ _ _ (((((((((((w11.setCell ⟨L,0,none⟩ (.int .i64 u.k)).setCell ⟨L,1,none⟩ (.int .i64 u.n)).setCell ⟨L,2,none⟩ (.string (tx u.s))).setCell ⟨L,3,none⟩ (.int .i64 u.x)).setCell ⟨L,4,none⟩ (.int .i64 u.y)).setCell ⟨w.heap.size,0,none⟩ (.int .i64 0)).setCell ⟨w.heap.size,1,none⟩ (.int .i64 0)).setCell ⟨w.heap.size,2,none⟩ (.string ⟨#[]⟩)).setCell ⟨w.heap.size,3,none⟩ (.int .i64 0)).setCell ⟨w.heap.size,4,none⟩ (.int .i64 0))) at hxL
       change Box _ _ _ _ _ _ (((((((((((w11.setCell ⟨L,0,none⟩ (.int .i64 u.k)).setCell ⟨L,1,none⟩ (.int .i64 u.n)).setCell ⟨L,2,none⟩ (.string (tx u.s))).setCell ⟨L,3,none⟩ (.int .i64 u.x)).setCell ⟨L,4,none⟩ (.int .i64 u.y)).setCell ⟨w.heap.size,0,none⟩ (.int .i64 0)).setCell ⟨w.heap.size,1,none⟩ (.int .i64 0)).setCell ⟨w.heap.size,2,none⟩ (.string ⟨#[]⟩)).setCell ⟨w.heap.size,3,none⟩ (.int .i64 0)).setCell ⟨w.heap.size,4,none⟩ (.int .i64 0))) at hxX
       generalize (((((((((((w11.setCell ⟨L,0,none⟩ (.int .i64 u.k)).setCell ⟨L,1,none⟩ (.int .i64 u.n)).setCell ⟨L,2,none⟩ (.string (tx u.s))).setCell ⟨L,3,none⟩ (.int .i64 u.x)).setCell ⟨L,4,none⟩ (.int .i64 u.y)).setCell ⟨w.heap.size,0,none⟩ (.int .i64 0)).setCell ⟨w.heap.size,1,none⟩ (.int .i64 0)).setCell ⟨w.heap.size,2,none⟩ (.string ⟨#[]⟩)).setCell ⟨w.heap.size,3,none⟩ (.int .i64 0)).setCell ⟨w.heap.size,4,none⟩ (.int .i64 0)))=w9 at *
       have cL0:=hxL.blk.c 0 _ rfl
       have cL1:=hxL.blk.c 1 _ rfl
       have cL2:=hxL.blk.c 2 _ rfl
       have cL3:=hxL.blk.c 3 _ rfl
       have cL4:=hxL.blk.c 4 _ rfl
       have cX0:=hxX.blk.c 0 _ rfl
       have cX1:=hxX.blk.c 1 _ rfl
       have cX2:=hxX.blk.c 2 _ rfl
       have cX3:=hxX.blk.c 3 _ rfl
       have cX4:=hxX.blk.c 4 _ rfl
       refine leaves_cons (f:=150) (args:=#[.pointer (some ⟨b,0,none⟩),.int .i64 3,.agg #[.int .i64 0,.int .i64 S1.i,.string ⟨#[]⟩,.int .i64 0,.int .i64 0]]) (by simp) (by simp [go_sem]) ?_
       refine (stand3_def w9 S1.i hd9 .returning).mono ?_
       rintro e u w10 ⟨rfl,rfl,hd10,hm10⟩
       have hx10:=hxX.mv hm10
       have kX0:=hx10.blk.c 0 _ rfl;have kX1:=hx10.blk.c 1 _ rfl;have kX2:=hx10.blk.c 2 _ rfl;have kX3:=hx10.blk.c 3 _ rfl;have kX4:=hx10.blk.c 4 _ rfl
       refine ⟨.tuple #[.agg zz,.int .i64 x],by simp [results,Tryz.results108,go_sem,kX0,kX1,kX2,kX3,kX4],⟨vz,x,{ S3 with i:=S1.i },n3,ov3,rfl,by rw [HX.out];exact withI_ans (Ans.er HXX.out rfl HX0.out),hd10,hm9.trans hm10⟩⟩
     · have HXX:Hid (lp (ev d (l.drop y1)) N 0 vz S1 n1=lp (ev d (l.drop y1)) (N - (j+1)) ((j+1:Nat):Int) u S3 n3):=by show _=_;rw [HR.out,bnd_ok hX]
       have HG3:=qq (HGE.out _ _ _ _ _ HG7.out hX)
       clear hX HA6
       obtain ⟨cL0,cL1,cL2,cL3,cL4,zL0,zL1,zL2,zL3,zL4,hltL⟩:=HL11.out.fiv
       have hd12:=HD11.out.puts HL11.out 0 (vcl u)
       have hm12:=Mv.puts (B:=L) HM11.out hwL 0 (vcl u)
       have hx12:=Box.puts_other (C:=L) HX11.out hLZ 0 (vcl u)
       have hl12:=Box.puts HL11.out (vcl u) rfl
       have HD12:=qq hd12;have HM12:=qq hm12;have HX12:=qq hx12;have HL12:=qq hl12
       clear hd12 hm12 hx12 hl12 HD11 HM11 HX11 HL11
       go_wp2_with fail
       go_step3
       refine ⟨rfl,⟨N,S1,n1,L,P,j+1,u,S3,n3,ov3,_,_,_,_,_,_,_,_,_,_,_,_,_,_,_,_,_,_,_,_,_,_,_,_,_,_,_,_,_,_,_,_,_,_,_,_,_,_,_,_,_,_,_,_,_,hN,HX.out,by omega,HXX.out,HG3.out.2,HD12.out,HM12.out,HX12.out,HL12.out,hLZ,hwL,rfl⟩,?_⟩
       simp [muE,intOf];omega
 go_wp2_with fail
 refine (HP.out).mono ?_
 rintro e w3 ⟨p0,p1,p2,x,S1,n1,ov1,rfl,ha,r0,r1,r2,hgd,hd3,hm3,hx3⟩
 have HA:=qq ha;have R0:=qq r0;have R1:=qq r1;have R2:=qq r2;have HG:=qq hgd;have HD3:=qq hd3;have HM3:=qq hm3;have HX3:=qq hx3
 have hlZ:=hx3.blk.lt
 clear ha r0 r1 r2 hgd hd3 hm3 hx3 HP
 rcases HA.out.cases with ⟨hx0,hX⟩ | ⟨rfl,a,ha,hX⟩
 · have HX0:=qq hx0;have HXX:=qq hX
   have hx1:(x == 0)=false:=by simpa using hx0
   have hx2:(x != 0)=true:=by simpa using hx0
   clear hx0 hX HA
   obtain ⟨cX0,cX1,cX2,cX3,cX4,zX0,zX1,zX2,zX3,zX4,hltX⟩:=HX3.out.fiv
   go_wp2_with fail
   have hd9:=((HD3.out.puts HX3.out 0 zz).old (box1 _ (.cells #[.int .i64 p0.k,.int .i64 p0.n,.string (tx p0.s),.int .i64 p0.x,.int .i64 p0.y,.int .i64 p1.k,.int .i64 p1.n,.string (tx p1.s),.int .i64 p1.x,.int .i64 p1.y,.int .i64 p2.k,.int .i64 p2.n,.string (tx p2.s),.int .i64 p2.x,.int .i64 p2.y] 137)))
   have hm9:=((Mv.puts (B:=w.heap.size) HM3.out (by omega) 0 zz).old (box1 _ (.cells #[.int .i64 p0.k,.int .i64 p0.n,.string (tx p0.s),.int .i64 p0.x,.int .i64 p0.y,.int .i64 p1.k,.int .i64 p1.n,.string (tx p1.s),.int .i64 p1.x,.int .i64 p1.y,.int .i64 p2.k,.int .i64 p2.n,.string (tx p2.s),.int .i64 p2.x,.int .i64 p2.y] 137)))
   have hxX:=((Box.puts (HX3.out) zz rfl).old (box1 _ (.cells #[.int .i64 p0.k,.int .i64 p0.n,.string (tx p0.s),.int .i64 p0.x,.int .i64 p0.y,.int .i64 p1.k,.int .i64 p1.n,.string (tx p1.s),.int .i64 p1.x,.int .i64 p1.y,.int .i64 p2.k,.int .i64 p2.n,.string (tx p2.s),.int .i64 p2.x,.int .i64 p2.y] 137)))
   clear cX0 cX1 cX2 cX3 cX4 zX0 zX1 zX2 zX3 zX4 HD3 HM3 HX3 
   simp only [Exit.jump]
   change bodyPostD _ _ _ _ _ ((((((w3.setCell ⟨w.heap.size,0,none⟩ (.int .i64 0)).setCell ⟨w.heap.size,1,none⟩ (.int .i64 0)).setCell ⟨w.heap.size,2,none⟩ (.string ⟨#[]⟩)).setCell ⟨w.heap.size,3,none⟩ (.int .i64 0)).setCell ⟨w.heap.size,4,none⟩ (.int .i64 0)).alloc (.cells #[.int .i64 p0.k,.int .i64 p0.n,.string (tx p0.s),.int .i64 p0.x,.int .i64 p0.y,.int .i64 p1.k,.int .i64 p1.n,.string (tx p1.s),.int .i64 p1.x,.int .i64 p1.y,.int .i64 p2.k,.int .i64 p2.n,.string (tx p2.s),.int .i64 p2.x,.int .i64 p2.y] 137))
   change Doer _ _ _ _ _ _ _ _ _ (((((((w3.setCell ⟨w.heap.size,0,none⟩ (.int .i64 0)).setCell ⟨w.heap.size,1,none⟩ (.int .i64 0)).setCell ⟨w.heap.size,2,none⟩ (.string ⟨#[]⟩)).setCell ⟨w.heap.size,3,none⟩ (.int .i64 0)).setCell ⟨w.heap.size,4,none⟩ (.int .i64 0)).alloc (.cells #[.int .i64 p0.k,.int .i64 p0.n,.string (tx p0.s),.int .i64 p0.x,.int .i64 p0.y,.int .i64 p1.k,.int .i64 p1.n,.string (tx p1.s),.int .i64 p1.x,.int .i64 p1.y,.int .i64 p2.k,.int .i64 p2.n,.string (tx p2.s),.int .i64 p2.x,.int .i64 p2.y] 137))) at hd9
   change Mv _ _ _ _ (((((((w3.setCell ⟨w.heap.size,0,none⟩ (.int .i64 0)).setCell ⟨w.heap.size,1,none⟩ (.int .i64 0)).setCell ⟨w.heap.size,2,none⟩ (.string ⟨#[]⟩)).setCell ⟨w.heap.size,3,none⟩ (.int .i64 0)).setCell ⟨w.heap.size,4,none⟩ (.int .i64 0)).alloc (.cells #[.int .i64 p0.k,.int .i64 p0.n,.string (tx p0.s),.int .i64 p0.x,.int .i64 p0.y,.int .i64 p1.k,.int .i64 p1.n,.string (tx p1.s),.int .i64 p1.x,.int .i64 p1.y,.int .i64 p2.k,.int .i64 p2.n,.string (tx p2.s),.int .i64 p2.x,.int .i64 p2.y] 137))) at hm9
   change Box _ _ _ _ _ _ (((((((w3.setCell ⟨w.heap.size,0,none⟩ (.int .i64 0)).setCell ⟨w.heap.size,1,none⟩ (.int .i64 0)).setCell ⟨w.heap.size,2,none⟩ (.string ⟨#[]⟩)).setCell ⟨w.heap.size,3,none⟩ (.int .i64 0)).setCell ⟨w.heap.size,4,none⟩ (.int .i64 0)).alloc (.cells #[.int .i64 p0.k,.int .i64 p0.n,.string (tx p0.s),.int .i64 p0.x,.int .i64 p0.y,.int .i64 p1.k,.int .i64 p1.n,.string (tx p1.s),.int .i64 p1.x,.int .i64 p1.y,.int .i64 p2.k,.int .i64 p2.n,.string (tx p2.s),.int .i64 p2.x,.int .i64 p2.y] 137))) at hxX
   generalize (((((((w3.setCell ⟨w.heap.size,0,none⟩ (.int .i64 0)).setCell ⟨w.heap.size,1,none⟩ (.int .i64 0)).setCell ⟨w.heap.size,2,none⟩ (.string ⟨#[]⟩)).setCell ⟨w.heap.size,3,none⟩ (.int .i64 0)).setCell ⟨w.heap.size,4,none⟩ (.int .i64 0)).alloc (.cells #[.int .i64 p0.k,.int .i64 p0.n,.string (tx p0.s),.int .i64 p0.x,.int .i64 p0.y,.int .i64 p1.k,.int .i64 p1.n,.string (tx p1.s),.int .i64 p1.x,.int .i64 p1.y,.int .i64 p2.k,.int .i64 p2.n,.string (tx p2.s),.int .i64 p2.x,.int .i64 p2.y] 137)))=w9 at *
   have cX0:=hxX.blk.c 0 _ rfl
   have cX1:=hxX.blk.c 1 _ rfl
   have cX2:=hxX.blk.c 2 _ rfl
   have cX3:=hxX.blk.c 3 _ rfl
   have cX4:=hxX.blk.c 4 _ rfl
   refine ⟨.tuple #[.agg zz,.int .i64 x],by simp [results,Tryz.results108,go_sem,cX0,cX1,cX2,cX3,cX4],⟨vz,x,S1,n1,ov1,rfl,by rw [HBD.out];exact Ans.er (bnd_er HXX.out) rfl HX0.out,hd9,hm9⟩⟩
 · have HXX:=qq hX;have HAA:=qq ha;have HGD:=qq (HG.out rfl)
   clear hX ha HA HG
   have hn0:=(rt_all R0.out).1
   obtain ⟨hn1,hn2⟩:=hn0
   by_cases hneg:p0.n<0
   · have HN:=qq hneg
     obtain ⟨cX0,cX1,cX2,cX3,cX4,zX0,zX1,zX2,zX3,zX4,hltX⟩:=HX3.out.fiv
     go_wp2_with fail
     have hd9:=((HD3.out.puts HX3.out 0 zz).old (box1 _ (.cells #[.int .i64 p0.k,.int .i64 p0.n,.string (tx p0.s),.int .i64 p0.x,.int .i64 p0.y,.int .i64 p1.k,.int .i64 p1.n,.string (tx p1.s),.int .i64 p1.x,.int .i64 p1.y,.int .i64 p2.k,.int .i64 p2.n,.string (tx p2.s),.int .i64 p2.x,.int .i64 p2.y] 137)))
     have hm9:=((Mv.puts (B:=w.heap.size) HM3.out (by omega) 0 zz).old (box1 _ (.cells #[.int .i64 p0.k,.int .i64 p0.n,.string (tx p0.s),.int .i64 p0.x,.int .i64 p0.y,.int .i64 p1.k,.int .i64 p1.n,.string (tx p1.s),.int .i64 p1.x,.int .i64 p1.y,.int .i64 p2.k,.int .i64 p2.n,.string (tx p2.s),.int .i64 p2.x,.int .i64 p2.y] 137)))
     have hxX:=((Box.puts (HX3.out) zz rfl).old (box1 _ (.cells #[.int .i64 p0.k,.int .i64 p0.n,.string (tx p0.s),.int .i64 p0.x,.int .i64 p0.y,.int .i64 p1.k,.int .i64 p1.n,.string (tx p1.s),.int .i64 p1.x,.int .i64 p1.y,.int .i64 p2.k,.int .i64 p2.n,.string (tx p2.s),.int .i64 p2.x,.int .i64 p2.y] 137)))
     clear cX0 cX1 cX2 cX3 cX4 zX0 zX1 zX2 zX3 zX4 HD3 HM3 HX3 
     simp only [Exit.jump]
     change bodyPostD _ _ _ _ _ ((((((w3.setCell ⟨w.heap.size,0,none⟩ (.int .i64 0)).setCell ⟨w.heap.size,1,none⟩ (.int .i64 0)).setCell ⟨w.heap.size,2,none⟩ (.string ⟨#[]⟩)).setCell ⟨w.heap.size,3,none⟩ (.int .i64 0)).setCell ⟨w.heap.size,4,none⟩ (.int .i64 0)).alloc (.cells #[.int .i64 p0.k,.int .i64 p0.n,.string (tx p0.s),.int .i64 p0.x,.int .i64 p0.y,.int .i64 p1.k,.int .i64 p1.n,.string (tx p1.s),.int .i64 p1.x,.int .i64 p1.y,.int .i64 p2.k,.int .i64 p2.n,.string (tx p2.s),.int .i64 p2.x,.int .i64 p2.y] 137))
     change Doer _ _ _ _ _ _ _ _ _ (((((((w3.setCell ⟨w.heap.size,0,none⟩ (.int .i64 0)).setCell ⟨w.heap.size,1,none⟩ (.int .i64 0)).setCell ⟨w.heap.size,2,none⟩ (.string ⟨#[]⟩)).setCell ⟨w.heap.size,3,none⟩ (.int .i64 0)).setCell ⟨w.heap.size,4,none⟩ (.int .i64 0)).alloc (.cells #[.int .i64 p0.k,.int .i64 p0.n,.string (tx p0.s),.int .i64 p0.x,.int .i64 p0.y,.int .i64 p1.k,.int .i64 p1.n,.string (tx p1.s),.int .i64 p1.x,.int .i64 p1.y,.int .i64 p2.k,.int .i64 p2.n,.string (tx p2.s),.int .i64 p2.x,.int .i64 p2.y] 137))) at hd9
     change Mv _ _ _ _ (((((((w3.setCell ⟨w.heap.size,0,none⟩ (.int .i64 0)).setCell ⟨w.heap.size,1,none⟩ (.int .i64 0)).setCell ⟨w.heap.size,2,none⟩ (.string ⟨#[]⟩)).setCell ⟨w.heap.size,3,none⟩ (.int .i64 0)).setCell ⟨w.heap.size,4,none⟩ (.int .i64 0)).alloc (.cells #[.int .i64 p0.k,.int .i64 p0.n,.string (tx p0.s),.int .i64 p0.x,.int .i64 p0.y,.int .i64 p1.k,.int .i64 p1.n,.string (tx p1.s),.int .i64 p1.x,.int .i64 p1.y,.int .i64 p2.k,.int .i64 p2.n,.string (tx p2.s),.int .i64 p2.x,.int .i64 p2.y] 137))) at hm9
     change Box _ _ _ _ _ _ (((((((w3.setCell ⟨w.heap.size,0,none⟩ (.int .i64 0)).setCell ⟨w.heap.size,1,none⟩ (.int .i64 0)).setCell ⟨w.heap.size,2,none⟩ (.string ⟨#[]⟩)).setCell ⟨w.heap.size,3,none⟩ (.int .i64 0)).setCell ⟨w.heap.size,4,none⟩ (.int .i64 0)).alloc (.cells #[.int .i64 p0.k,.int .i64 p0.n,.string (tx p0.s),.int .i64 p0.x,.int .i64 p0.y,.int .i64 p1.k,.int .i64 p1.n,.string (tx p1.s),.int .i64 p1.x,.int .i64 p1.y,.int .i64 p2.k,.int .i64 p2.n,.string (tx p2.s),.int .i64 p2.x,.int .i64 p2.y] 137))) at hxX
     generalize (((((((w3.setCell ⟨w.heap.size,0,none⟩ (.int .i64 0)).setCell ⟨w.heap.size,1,none⟩ (.int .i64 0)).setCell ⟨w.heap.size,2,none⟩ (.string ⟨#[]⟩)).setCell ⟨w.heap.size,3,none⟩ (.int .i64 0)).setCell ⟨w.heap.size,4,none⟩ (.int .i64 0)).alloc (.cells #[.int .i64 p0.k,.int .i64 p0.n,.string (tx p0.s),.int .i64 p0.x,.int .i64 p0.y,.int .i64 p1.k,.int .i64 p1.n,.string (tx p1.s),.int .i64 p1.x,.int .i64 p1.y,.int .i64 p2.k,.int .i64 p2.n,.string (tx p2.s),.int .i64 p2.x,.int .i64 p2.y] 137)))=w9 at *
     have cX0:=hxX.blk.c 0 _ rfl
     have cX1:=hxX.blk.c 1 _ rfl
     have cX2:=hxX.blk.c 2 _ rfl
     have cX3:=hxX.blk.c 3 _ rfl
     have cX4:=hxX.blk.c 4 _ rfl
     refine ⟨.tuple #[.agg zz,.int .i64 14],by simp [results,Tryz.results108,go_sem,cX0,cX1,cX2,cX3,cX4],⟨vz,14,S1,n1,ov1,rfl,by rw [HBD.out];obtain ⟨rfl,rfl,rfl⟩:=HAA.out;exact Ans.er (by rw [bnd_ok HXX.out,if_pos HN.out];rfl) rfl (by decide),hd9,hm9⟩⟩
   · obtain ⟨N,hN⟩:∃ N:Nat,p0.n=(N:Int):=⟨p0.n.toNat,by omega⟩
     have hNb:N≤9007199254740992:=by omega
     have HXE:Hid (body (ev d) (nd l k) (l.drop (k+1)) S n=withI (lp (ev d (l.drop y1)) N 0 vz) S1 n1):=by
      show _=_
      rw [HBD.out,bnd_ok HXX.out,HN1.out];obtain ⟨rfl,rfl,rfl⟩:=HAA.out
      rw [if_neg hneg,hN];rfl
     have hlb3:=HD3.out.blk.lt
     have d0:w3.cell? ⟨b,47,none⟩=some (.int .i64 0):=HD3.out.blk.c 47 _ rfl
     have d1:w3.cell? ⟨b,48,none⟩=some (.int .i64 S1.i):=HD3.out.blk.c 48 _ rfl
     have d2:w3.cell? ⟨b,49,none⟩=some (.string ⟨#[]⟩):=HD3.out.blk.c 49 _ rfl
     have d3:w3.cell? ⟨b,50,none⟩=some (.int .i64 0):=HD3.out.blk.c 50 _ rfl
     have d4:w3.cell? ⟨b,51,none⟩=some (.int .i64 0):=HD3.out.blk.c 51 _ rfl
     obtain ⟨q0,q1,q2,q3,q4⟩:True∧True∧True∧True∧True:=⟨trivial,trivial,trivial,trivial,trivial⟩
     obtain ⟨X0,hX0⟩:∃ X0,lp (ev d (l.drop y1)) N 0 vz S1 n1=X0:=⟨_,rfl⟩
     have HXL:=qq hX0
     clear hX0 hneg HBD HXX HAA q0 q1 q2 q3 q4
     have hd9:=(HD3.out.old (box1 w3 (.cells #[.int .i64 p0.k,.int .i64 (N:Int),.string (tx p0.s),.int .i64 p0.x,.int .i64 p0.y,.int .i64 p1.k,.int .i64 p1.n,.string (tx p1.s),.int .i64 p1.x,.int .i64 p1.y,.int .i64 p2.k,.int .i64 p2.n,.string (tx p2.s),.int .i64 p2.x,.int .i64 p2.y] 137))).old (box1 _ (.cells zz 28))
     have hm9:=(HM3.out.old (box1 w3 (.cells #[.int .i64 p0.k,.int .i64 (N:Int),.string (tx p0.s),.int .i64 p0.x,.int .i64 p0.y,.int .i64 p1.k,.int .i64 p1.n,.string (tx p1.s),.int .i64 p1.x,.int .i64 p1.y,.int .i64 p2.k,.int .i64 p2.n,.string (tx p2.s),.int .i64 p2.x,.int .i64 p2.y] 137))).old (box1 _ (.cells zz 28))
     have hx9:=(HX3.out.old (box1 w3 (.cells #[.int .i64 p0.k,.int .i64 (N:Int),.string (tx p0.s),.int .i64 p0.x,.int .i64 p0.y,.int .i64 p1.k,.int .i64 p1.n,.string (tx p1.s),.int .i64 p1.x,.int .i64 p1.y,.int .i64 p2.k,.int .i64 p2.n,.string (tx p2.s),.int .i64 p2.x,.int .i64 p2.y] 137))).old (box1 _ (.cells zz 28))
     have hl9:=Box.made (HD3.out.old (box1 w3 (.cells #[.int .i64 p0.k,.int .i64 (N:Int),.string (tx p0.s),.int .i64 p0.x,.int .i64 p0.y,.int .i64 p1.k,.int .i64 p1.n,.string (tx p1.s),.int .i64 p1.x,.int .i64 p1.y,.int .i64 p2.k,.int .i64 p2.n,.string (tx p2.s),.int .i64 p2.x,.int .i64 p2.y] 137))) (by omega) 28 zz
     rw [World.size_alloc] at hl9
     have HD9:=qq hd9;have HM9:=qq hm9;have HX9:=qq hx9;have HL9:=qq hl9
     clear hd9 hm9 hx9 hl9
     go_wp2_with fail
     go_step3
     rename_i hK
     exact hK _ _ (NX.out _ _ ⟨N,S1,n1,w3.heap.size+1,_,0,vz,S1,n1,ov1,_,_,_,_,_,_,_,_,_,_,_,_,_,_,_,_,_,_,_,_,_,_,_,_,_,_,_,_,_,_,_,_,_,_,_,_,_,_,_,_,_,_,_,_,_,hNb,HXE.out,Nat.zero_le _,rfl,HGD.out,HD9.out,HM9.out,HX9.out,HL9.out,by omega,by omega,rfl⟩)
end Go.Proofs.YtgakcpcpfkoaiaaGreatDoor.Ev

/-
  Small texts of this claim, together: EvPre, EvAlike, EvReckon, EvDeed7, ErAre, ErGrow, ErStrA, ErGrow2.
-/
import Derived.Test.YtgakcpcpfkoaiaaGreatDoorQ1
import Derived.Test.YtgakcpcpfkoaiaaGreatDoorQEvParts
import Derived.Test.YtgakcpcpfkoaiaaGreatDoorQ6
import Derived.Test.YtgakcpcpfkoaiaaGreatDoorQ3
import Derived.Defers
set_option maxHeartbeats 2000000
set_option maxRecDepth 100000
namespace Go.Proofs.YtgakcpcpfkoaiaaGreatDoor.Ev
open Go.ChangeShapes Go.WideShapes Go.ChangeAt Go.RowKit Ov Va Ex
def af (o:Int) (l:List Va):M Va:=if o=26 then (if 64<(at0 l).s.length then fail 3 else emitM (at0 l).s (at1 l)) else lift (pu o (at0 l) (at1 l) (at2 l))
theorem fin_bnd {β:Type} (ks:List Int) (l:List Va) (g:List Va→M β):bnd (fin ks l) g=if fits ks l=false then fail 13 else g l:=by
 unfold fin
 cases hf:fits ks l <;> rfl
theorem prt_bnd {β:Type} (f:List No→M Va) (ks:List Int) (r:List No) (g:List Va→M β):bnd (prt f ks r) g=bnd (va f ks.length r []) fun l=>if fits ks l=false then fail 13 else g l:=by
 unfold prt
 rw [bnd_assoc]
 congr 1
 funext l
 exact fin_bnd ks l g
theorem body_prt {f:List No→M Va} {n:No} {r:List No} {o:Int} (ho:n.o=o) (h0:o ≠ 0) (h1:o ≠ 1) (h11:o ≠ 11) (h28:o ≠ 28) (h29:o ≠ 29) (hl:(ask o).length=pa o):body f n r=bnd (prt f (ask o) r) (af o):=by
 unfold body
 rw [ho,if_neg h0,if_neg h1,if_neg h11,if_neg h28,if_neg h29,prt_bnd,hl];rfl
theorem va_one (f:List No→M Va) (r:List No) {β:Type} (g:List Va→M β):bnd (va f 1 r []) g=bnd (f r) fun a=>g [a]:=by
 rw [va_succ,bnd_assoc];rfl
theorem prt_one {β:Type} (f:List No→M Va) (k:Int) (r:List No) (g:List Va→M β):bnd (prt f [k] r) g=bnd (f r) fun a=>if (k == -1 || a.k == k)=false then fail 13 else g [a]:=by
 rw [prt_bnd]
 show bnd (va f 1 r []) _=_
 rw [va_one]
 congr 1
 funext a
 simp [fits]
def Pp (X:Rs (List Va)) (w0:World) (A:Option Addr) (c E b:Nat) (l:List No) (ov:Value) (w:World) (e:Ending) (w':World):Prop :=
 ∃ (p0 p1 p2:Va) (x:Int) (S':St) (n':Nat) (ov':Value),e=.returned (.tuple #[.agg #[.int .i64 p0.k,.int .i64 p0.n,.string (tx p0.s),.int .i64 p0.x,.int .i64 p0.y,.int .i64 p1.k,.int .i64 p1.n,.string (tx p1.s),.int .i64 p1.x,.int .i64 p1.y,.int .i64 p2.k,.int .i64 p2.n,.string (tx p2.s),.int .i64 p2.x,.int .i64 p2.y],.int .i64 x]) ∧
  Ans X (fun a=>p0=at0 a∧p1=at1 a∧p2=at2 a) x S' n'∧rt p0=true∧rt p1=true∧rt p2=true∧(x=0→Gd S' n')∧Doer w0 A c E b l S' n' ov' w'∧Mv b ov w ov' w'∧Box w0 b E ov' w.heap.size (vcs 0 0 ⟨#[]⟩ 0 0) w'
theorem it_pre {d k:Nat} {m:Nat} {r r':List No} (h:it (ex d) k r=some r') (hm:m≤k):∃ r2,it (ex d) m r=some r2:=by
 induction m generalizing k r with
 | zero=>exact ⟨r,rfl⟩
 | succ m ih =>
   obtain ⟨j,rfl⟩:∃ j,k=j+1:=⟨k - 1,by omega⟩
   rw [it_succ] at h
   obtain ⟨r1,h1,h2⟩:=Option.bind_eq_some_iff.1 h
   obtain ⟨r2,h3⟩:=ih h2 (by omega)
   exact ⟨r2,by rw [it_succ,h1];exact h3⟩
theorem prt_good {d:Nat} (hd:d≤25) {ks:List Int} {r r':List No} (h:it (ex d) ks.length r=some r'):GdM (prt (ev d) ks r) AllR:=by
 unfold prt
 refine (va_good (ev_good d hd) hd _ _ _ _ h (fun v hv=>by cases hv)).bnd fun l hl=>?_
 unfold fin
 exact GdM.ite (fun _=>GdM.ret hl) fun _=>GdM.fail
theorem pre_any {d:Nat} (HD:DoC (ev d) d) (ks:List Int) (hk1:1≤ks.length) (hk3:ks.length≤3) (hks:∀ k ∈ ks,-1≤k∧k≤2)
 {w0:World} {A:Option Addr} {c E b:Nat} {l:List No} {S:St} {n:Nat} {ov:Value} {w:World} {k m:Nat} {r:List No}
 (hcx:Cx w0 A l) (hd:Doer w0 A c E b l S n ov w) (hg:Gd S n) (hkl:k<l.length) (hx:it (ex d) m (l.drop (k+1))=some r) (hm:ks.length≤m) (hd25:d≤24) :
 Calls Tryz.prog 138 #[.pointer (some ⟨b,0,none⟩),.int .i64 (k:Int),.slice (some ⟨w.heap.size+1,0,none⟩) ks.length ks.length]
  ((w.alloc vbox).alloc (.cells (kcl ks).toArray 3)) (Pp (prt (ev d) ks (l.drop (k+1)) S n) w0 A c E b l ov w):=by
 obtain ⟨r2,hx2⟩:=it_pre hx hm
 have hx1:Box w0 b E ov w.heap.size (vcs 0 0 ⟨#[]⟩ 0 0) (w.alloc vbox):=Box.made hd (by omega) 28 (vcs 0 0 ⟨#[]⟩ 0 0)
 have hd1:=hd.old (box1 w vbox)
 have hq:=Box.made hd1 (by omega) 3 (kcl ks)
 have hd2:=hd1.old (box1 (w.alloc vbox) (.cells (kcl ks).toArray 3))
 have hx3:=hx1.old (box1 (w.alloc vbox) (.cells (kcl ks).toArray 3))
 have hm2:Mv b ov w ov ((w.alloc vbox).alloc (.cells (kcl ks).toArray 3)):=Mv.of (box2 w _ _)
 rw [World.size_alloc] at hq
 refine (parts_any HD (ev_good d (by omega)) ks hk1 hk3 hks w0 A c E b (w.heap.size+1) l S n ov _ k r2 hcx hd2 hq hg hkl hx2 (by omega)).mono ?_
 rintro e w' ⟨p0,p1,p2,x,S',n',ov',he,ha,hz,hd',hm'⟩
 have hR:(rt p0=true∧rt p1=true∧rt p2=true)∧(x=0→Gd S' n'):=by
  rcases ha.cases with ⟨h0,_⟩ | ⟨h0,a,⟨g0,g1,g2⟩,ha'⟩
  · obtain ⟨g0,g1,g2⟩:=hz h0
    rw [g0,g1,g2]
    exact ⟨⟨rt_vz,rt_vz,rt_vz⟩,fun h=>absurd h h0⟩
  · obtain ⟨k1,k2⟩:=prt_good (by omega) hx2 S n a S' n' hg ha'
    rw [g0,g1,g2]
    exact ⟨⟨k1.at 0,k1.at 1,k1.at 2⟩,fun _=>k2⟩
 exact ⟨p0,p1,p2,x,S',n',ov',he,ha,hR.1.1,hR.1.2.1,hR.1.2.2,hR.2,hd',hm2.trans hm',hx3.mv hm'⟩
end Go.Proofs.YtgakcpcpfkoaiaaGreatDoor.Ev
namespace Go.Proofs.YtgakcpcpfkoaiaaGreatDoor.Ev
open Go.ChangeShapes Go.WideShapes Go.ChangeAt Go.RowKit Ov Va Ga Ex
def alk (l:List Va):M (List Va):=if (at0 l).k ≠ (at1 l).k then fail 13 else ret l
def Al (X:Rs (List Va)) (w0:World) (A:Option Addr) (c E b:Nat) (l:List No) (ov:Value) (w:World) (e:Ending) (w':World):Prop :=
 ∃ (p q:Va) (x:Int) (S':St) (n':Nat) (ov':Value),e=.returned (.tuple #[.agg p,.agg q,.int .i64 x])∧Ans X (fun a=>p=at0 a∧q=at1 a∧p.k=q.k) x S' n'∧rt p=true∧rt q=true∧(x=0→Gd S' n')∧Doer w0 A c E b l S' n' ov' w'∧Mv b ov w ov' w'
theorem alk_ok {l:List Va} (h:(at0 l).k=(at1 l).k) (S:St) (n:Nat):alk l S n=.ok l S n:=by unfold alk;rw [if_neg (fun e=>e h)];rfl
theorem alk_no {l:List Va} (h:(at0 l).k ≠ (at1 l).k) (S:St) (n:Nat):alk l S n=.er 13:=by unfold alk;rw [if_pos h];rfl
theorem alike_any {d:Nat} (HD:DoC (ev d) d) {w0:World} {A:Option Addr} {c E b:Nat} {l:List No} {S:St} {n:Nat} {ov:Value} {w:World} {k m:Nat} {r:List No}
 (hcx:Cx w0 A l) (hd:Doer w0 A c E b l S n ov w) (hg:Gd S n) (hkl:k<l.length) (hx:it (ex d) m (l.drop (k+1))=some r) (hm:2≤m) (hd24:d≤24) :
 Calls Tryz.prog 141 #[.pointer (some ⟨b,0,none⟩),.int .i64 (k:Int)] w (Al (bnd (prt (ev d) [-1,-1] (l.drop (k+1))) alk S n) w0 A c E b l ov w):=by
 have hb0:Box w0 b E ov w.heap.size zz (w.alloc vbox):=Box.made hd (by omega) 28 zz
 have hm0:Mv b ov w ov (w.alloc vbox):=Mv.of (box1 w vbox)
 have HP:=qq (pre_any HD [-1,-1] (by decide) (by decide) (by decide) hcx (hd.old (box1 w vbox)) hg hkl hx hm hd24)
 have HB0:=qq hb0;have HM0:=qq hm0
 have HSZ:Hid ((w.alloc vbox).heap.size=w.heap.size+1):=World.size_alloc _ _
 rw [HSZ.out] at HP
 obtain ⟨X,hX⟩:∃ X,bnd (prt (ev d) [-1,-1] (l.drop (k+1))) alk S n=X:=⟨_,rfl⟩
 have HXE:=qq hX
 rw [hX]
 clear hcx hd hg hx hm hd24 HD hb0 hm0 hX
 go_enter Tryz.func141,Tryz.ntmps141
 go_wp2_with fail
 refine (HP.out).mono ?_
 rintro e w3 ⟨p0,p1,p2,x,S1,n1,ov1,rfl,ha,r0,r1,r2,hgd,hd3,hm3,hx3⟩
 have HA:=qq ha;have R0:=qq r0;have R1:=qq r1;have HG:=qq hgd;have HD3:=qq hd3
 rw [HSZ.out] at hx3
 have HY3:=qq hx3;have HX3:=qq (HB0.out.mv hm3);have HM3:=qq (HM0.out.trans hm3)
 have hlZ:=HX3.out.blk.lt;have hlY:=HY3.out.blk.lt
 clear ha r0 r1 r2 hgd hd3 hm3 hx3 HP HB0 HM0 HSZ
 rcases HA.out.cases with ⟨hx0,hX⟩ | ⟨rfl,a,ha,hX⟩
 · have HX0:=qq hx0;have HXX:=qq hX
   have hx1:(x == 0)=false:=by simpa using hx0
   have hx2:(x != 0)=true:=by simpa using hx0
   clear hx0 hX HA
   obtain ⟨cX0,cX1,cX2,cX3,cX4,zX0,zX1,zX2,zX3,zX4,hltX⟩:=HX3.out.fiv
   obtain ⟨cY0,cY1,cY2,cY3,cY4,zY0,zY1,zY2,zY3,zY4,hltY⟩:=HY3.out.fiv
   go_wp2_with fail
   refine dend2a (P:=bodyPost _ _ _ _ _) HD3.out HM3.out HX3.out HY3.out (by omega) (by omega) (by omega) _ _ _ _ _ _ _ _ _ _ ?_
   clear cX0 cX1 cX2 cX3 cX4 zX0 zX1 zX2 zX3 zX4 cY0 cY1 cY2 cY3 cY4 zY0 zY1 zY2 zY3 zY4 HD3 HM3 HX3 HY3 
   intro w9 hd9 hm9 cX0 cX1 cX2 cX3 cX4 cY0 cY1 cY2 cY3 cY4
   refine bodyPost_ret (v:=.tuple #[.agg zz,.agg zz,.int .i64 x]) (by simp [results,Tryz.results141,go_sem,cX0,cX1,cX2,cX3,cX4,cY0,cY1,cY2,cY3,cY4]) rfl ⟨vz,vz,x,S1,n1,ov1,rfl,Ans.er (by rw [← HXE.out];exact bnd_er HXX.out) rfl HX0.out,rt_vz,rt_vz,fun h=>absurd h HX0.out,hd9,hm9⟩
 · have HXX:=qq hX;have HAA:=qq ha;have HGD:=qq (HG.out rfl)
   clear hX ha HA HG
   by_cases hk:p0.k=p1.k
   · have hk1:(p0.k != p1.k)=false:=by simpa using hk
     have HK:=qq hk;clear hk
     obtain ⟨cX0,cX1,cX2,cX3,cX4,zX0,zX1,zX2,zX3,zX4,hltX⟩:=HX3.out.fiv
     obtain ⟨cY0,cY1,cY2,cY3,cY4,zY0,zY1,zY2,zY3,zY4,hltY⟩:=HY3.out.fiv
     go_wp2_with fail
     go_region
     go_wp2_with fail
     refine dend2ad (P:=bodyPost _ _ _ _ _) HD3.out HM3.out HX3.out HY3.out (by omega) (by omega) (by omega) _ _ _ _ _ _ _ _ _ _ ?_
     clear cX0 cX1 cX2 cX3 cX4 zX0 zX1 zX2 zX3 zX4 cY0 cY1 cY2 cY3 cY4 zY0 zY1 zY2 zY3 zY4 HD3 HM3 HX3 HY3 
     intro w9 hd9 hm9 cX0 cX1 cX2 cX3 cX4 cY0 cY1 cY2 cY3 cY4
     refine bodyPost_ret (v:=.tuple #[.agg p0,.agg p1,.int .i64 0]) (by simp [results,Tryz.results141,go_sem,cX0,cX1,cX2,cX3,cX4,cY0,cY1,cY2,cY3,cY4]) rfl ⟨p0,p1,0,S1,n1,ov1,rfl,by rw [← HXE.out];obtain ⟨rfl,rfl,rfl⟩:=HAA.out;exact Ans.ok (by rw [bnd_ok HXX.out];exact alk_ok HK.out _ _) ⟨rfl,rfl,HK.out⟩,R0.out,R1.out,fun _=>HGD.out,hd9,hm9⟩
   · have hk1:(p0.k != p1.k)=true:=by simpa using hk
     have HK:=qq hk;clear hk
     obtain ⟨cX0,cX1,cX2,cX3,cX4,zX0,zX1,zX2,zX3,zX4,hltX⟩:=HX3.out.fiv
     obtain ⟨cY0,cY1,cY2,cY3,cY4,zY0,zY1,zY2,zY3,zY4,hltY⟩:=HY3.out.fiv
     go_wp2_with fail
     refine dend2a (P:=bodyPost _ _ _ _ _) HD3.out HM3.out HX3.out HY3.out (by omega) (by omega) (by omega) _ _ _ _ _ _ _ _ _ _ ?_
     clear cX0 cX1 cX2 cX3 cX4 zX0 zX1 zX2 zX3 zX4 cY0 cY1 cY2 cY3 cY4 zY0 zY1 zY2 zY3 zY4 HD3 HM3 HX3 HY3 
     intro w9 hd9 hm9 cX0 cX1 cX2 cX3 cX4 cY0 cY1 cY2 cY3 cY4
     refine bodyPost_ret (v:=.tuple #[.agg zz,.agg zz,.int .i64 13]) (by simp [results,Tryz.results141,go_sem,cX0,cX1,cX2,cX3,cX4,cY0,cY1,cY2,cY3,cY4]) rfl ⟨vz,vz,13,S1,n1,ov1,rfl,by rw [← HXE.out];obtain ⟨rfl,rfl,rfl⟩:=HAA.out;exact Ans.er (by rw [bnd_ok HXX.out];exact alk_no HK.out _ _) rfl (by decide),rt_vz,rt_vz,fun h=>absurd h (by decide),hd9,hm9⟩
theorem tx_data (s:ByteArray):tx s.data.toList=s:=(tx_ext rfl).symm
def cke (e:Int) (u:Va):Int ⊕ Va:=if e=0 then chk u else .inl e
theorem ifv_ans (k n x y e:Int) (s:ByteArray):∃ (v:Va) (z:Int),ifv k n s x y e=.tuple #[.agg v,.int .i64 z]∧∀ S m,Ans (lift (cke e ⟨k,n,s.data.toList,x,y⟩) S m) (fun a=>v=a) z S m:=by
 unfold ifv cke chk
 by_cases h:e=0
 · rw [if_pos h,if_pos h]
   by_cases h2:rt ⟨k,n,s.data.toList,x,y⟩=true
   · rw [if_pos h2,if_pos h2]
     exact ⟨⟨k,n,s.data.toList,x,y⟩,0,by dsimp only;rw [tx_data],fun S m=>⟨rfl,rfl,rfl,rfl⟩⟩
   · rw [if_neg h2,if_neg h2]
     exact ⟨vz,14,rfl,fun S m=>⟨rfl,by decide⟩⟩
 · rw [if_neg h,if_neg h]
   exact ⟨vz,e,rfl,fun S m=>⟨rfl,h⟩⟩
structure RkC (o:Int) (F' G':FuncId):Prop where
 eF:∀ args w,(callFunc F' args).run Tryz.prog w=.ok (.enter F' args) w
 eG:∀ args w,(callFunc G' args).run Tryz.prog w=.ok (.enter G' args) w
 cF:∀ a b:Int,(-9007199254740992≤a∧a≤9007199254740992)→(-9007199254740992≤b∧b≤9007199254740992)→∃ r e:Int,(∀ w,Calls Tryz.prog F' #[.int .i64 a,.int .i64 b] w (Gives (.tuple #[.int .i64 r,.int .i64 e]) w))∧nums o a b=cke e (nv r)
 cG:∀ a b:Pt,rb a=true→rb b=true→∃ (p:Pt) (e:Int),(∀ w,Calls Tryz.prog G' #[.agg #[.int .i64 a.x,.int .i64 a.y],.agg #[.int .i64 b.x,.int .i64 b.y]] w (Gives (.tuple #[.agg #[.int .i64 p.x,.int .i64 p.y],.int .i64 e]) w))∧spots o a b=cke e (pv p.x p.y)
theorem rk_int {o:Int} {a b:Va} (h:a.k=b.k) (h0:a.k=0):rk o a b=nums o a.n b.n:=by unfold rk;rw [if_neg (fun e=>e h),if_pos h0]
theorem rk_pt {o:Int} {a b:Va} (h:a.k=b.k) (h0:a.k=2):rk o a b=spots o (pt a) (pt b):=by unfold rk;rw [if_neg (fun e=>e h),if_neg (by omega),if_pos h0]
theorem rk_no {o:Int} {a b:Va} (h:a.k=b.k) (h0:a.k ≠ 0) (h2:a.k ≠ 2):rk o a b=.inl 13:=by unfold rk;rw [if_neg (fun e=>e h),if_neg h0,if_neg h2]
theorem reckon_any {o:Int} {F' G':FuncId} (RK:RkC o F' G') {d:Nat} (HD:DoC (ev d) d) {w0:World} {A:Option Addr} {c E b:Nat} {l:List No} {S:St} {n:Nat} {ov:Value} {w:World} {k m:Nat} {r:List No}
 (hcx:Cx w0 A l) (hd:Doer w0 A c E b l S n ov w) (hg:Gd S n) (hkl:k<l.length) (hx:it (ex d) m (l.drop (k+1))=some r) (hm:2≤m) (hd24:d≤24) :
 Calls Tryz.prog 127 #[.pointer (some ⟨b,0,none⟩),.int .i64 (k:Int),.func (.func F') #[] #[],.func (.func G') #[] #[]] w (Dn (bnd (bnd (prt (ev d) [-1,-1] (l.drop (k+1))) alk) (fun l=>lift (rk o (at0 l) (at1 l))) S n) w0 A c E b l ov w):=by
 have hb0:Box w0 b E ov w.heap.size zz (w.alloc vbox):=Box.made hd (by omega) 28 zz
 have hm0:Mv b ov w ov (w.alloc vbox):=Mv.of (box1 w vbox)
 have HP:=qq (alike_any HD hcx (hd.old (box1 w vbox)) hg hkl hx hm hd24)
 have HB0:=qq hb0;have HM0:=qq hm0
 have hF:=RK.eF;have hG:=RK.eG
 have HCF:=qq RK.cF;have HCG:=qq RK.cG
 obtain ⟨X,hX⟩:∃ X,bnd (bnd (prt (ev d) [-1,-1] (l.drop (k+1))) alk) (fun l=>lift (rk o (at0 l) (at1 l))) S n=X:=⟨_,rfl⟩
 have HXE:=qq hX
 rw [hX]
 clear hcx hd hg hx hm hd24 HD hb0 hm0 hX RK
 go_enter Tryz.func127,Tryz.ntmps127
 go_wp2_with fail
 refine (HP.out).mono ?_
 rintro e w3 ⟨p,q,x,S1,n1,ov1,rfl,ha,r0,r1,hgd,hd3,hm3⟩
 have HA:=qq ha;have R0:=qq r0;have R1:=qq r1;have HD3:=qq hd3
 have HX3:=qq (HB0.out.mv hm3);have HM3:=qq (HM0.out.trans hm3)
 have hlZ:=HX3.out.blk.lt
 clear ha r0 r1 hgd hd3 hm3 HP HB0 HM0
 rcases HA.out.cases with ⟨hx0,hX⟩ | ⟨rfl,a,ha,hX⟩
 · have HX0:=qq hx0;have HXX:=qq hX
   have hx1:(x == 0)=false:=by simpa using hx0
   have hx2:(x != 0)=true:=by simpa using hx0
   clear hx0 hX HA
   obtain ⟨cX0,cX1,cX2,cX3,cX4,zX0,zX1,zX2,zX3,zX4,hltX⟩:=HX3.out.fiv
   go_wp2_with fail
   refine dendaa (P:=bodyPost _ _ _ _ _) HD3.out HM3.out HX3.out (by omega) _ _ _ _ _ ?_
   clear cX0 cX1 cX2 cX3 cX4 zX0 zX1 zX2 zX3 zX4 HD3 HM3 HX3 
   intro w9 hd9 hm9 cX0 cX1 cX2 cX3 cX4
   refine bodyPost_ret (v:=.tuple #[.agg zz,.int .i64 x]) (by simp [results,Tryz.results127,go_sem,cX0,cX1,cX2,cX3,cX4]) rfl ⟨vz,x,S1,n1,ov1,rfl,Ans.er (by rw [← HXE.out];exact bnd_er HXX.out) rfl HX0.out,hd9,hm9⟩
 · have HXX:=qq hX
   obtain ⟨e0,e1,hk⟩:=ha
   have HK:=qq hk;have E0:=qq e0;have E1:=qq e1
   clear hX e0 e1 hk HA
   by_cases h0:p.k=0
   · have h1:(p.k == 0)=true:=by simpa using h0
     obtain ⟨r1,e1,hc,hn⟩:=HCF.out p.n q.n (rt_all R0.out).1 (rt_all R1.out).1
     obtain ⟨v,z,hv,hz⟩:=ifv_ans 0 r1 0 0 e1 ⟨#[]⟩
     have HI:=qq (eif_any 0 r1 0 0 e1 ⟨#[]⟩)
     rw [hv] at HI
     have HC:=qq hc
     have HR:Hid (Ans X (fun a=>v=a) z S1 n1):=by show Ans _ _ _ _ _;rw [← HXE.out,bnd_ok HXX.out,← E0.out,← E1.out,rk_int HK.out h0,hn];exact hz _ _
     clear hc hn hz hv h0 HCF HCG HXE HXX E0 E1 HK
     go_wp2_with fail
     refine (HC.out _).mono ?_
     rintro e w4 ⟨rfl,hb⟩
     have HD4:=qq (((HD3.out.old (box1 _ (.cells p 28))).old (box1 _ (.cells q 28))).old hb)
     have HM4:=qq (((HM3.out.old (box1 _ (.cells p 28))).old (box1 _ (.cells q 28))).old hb)
     have HX4:=qq (((HX3.out.old (box1 _ (.cells p 28))).old (box1 _ (.cells q 28))).old hb)
     clear hb HD3 HM3 HX3  
     go_wp2_with fail
     refine (enumber_any _ _).mono ?_
     rintro e w5 ⟨rfl,hb⟩
     have HD5:=qq (HD4.out.old hb)
     have HM5:=qq (HM4.out.old hb)
     have HX5:=qq (HX4.out.old hb)
     clear hb HD4 HM4 HX4  
     go_wp2_with fail
     refine (HI.out _).mono ?_
     rintro e w6 ⟨rfl,hb⟩
     have HD6:=qq (HD5.out.old hb)
     have HM6:=qq (HM5.out.old hb)
     have HX6:=qq (HX5.out.old hb)
     clear hb HD5 HM5 HX5  
     obtain ⟨cX0,cX1,cX2,cX3,cX4,zX0,zX1,zX2,zX3,zX4,hltX⟩:=HX6.out.fiv
     go_wp2_with fail
     refine dend0 (P:=bodyPost _ _ _ _ _) HD6.out HM6.out HX6.out (by omega) _ _ _ _ _ ?_
     clear cX0 cX1 cX2 cX3 cX4 zX0 zX1 zX2 zX3 zX4 HD6 HM6 HX6 
     intro w9 hd9 hm9 cX0 cX1 cX2 cX3 cX4
     refine bodyPost_ret (v:=.tuple #[.agg v,.int .i64 z]) (by simp [results,Tryz.results127,go_sem,cX0,cX1,cX2,cX3,cX4]) rfl ⟨v,z,S1,n1,ov1,rfl,HR.out,hd9,hm9⟩
   · have h1:(p.k == 0)=false:=by simpa using h0
     by_cases h2:p.k=2
     · have h3:(p.k == 2)=true:=by simpa using h2
       obtain ⟨r1,e1,hc,hn⟩:=HCG.out (pt p) (pt q) (rt_all R0.out).2.2.1 (rt_all R1.out).2.2.1
       obtain ⟨u1,u2⟩:=r1
       dsimp only at hc hn
       obtain ⟨v,z,hv,hz⟩:=ifv_ans 2 0 u1 u2 e1 ⟨#[]⟩
       have HI:=qq (eif_any 2 0 u1 u2 e1 ⟨#[]⟩)
       rw [hv] at HI
       have HC:=qq hc
       unfold pt at HC
       have HR:Hid (Ans X (fun a=>v=a) z S1 n1):=by show Ans _ _ _ _ _;rw [← HXE.out,bnd_ok HXX.out,← E0.out,← E1.out,rk_pt HK.out h2,hn];exact hz _ _
       clear hc hn hz hv h0 h2 HCF HCG HXE HXX E0 E1 HK
       go_wp2_with fail
       refine (HC.out _).mono ?_
       rintro e w4 ⟨rfl,hb⟩
       have HD4:=qq (((HD3.out.old (box1 _ (.cells p 28))).old (box1 _ (.cells q 28))).old hb)
       have HM4:=qq (((HM3.out.old (box1 _ (.cells p 28))).old (box1 _ (.cells q 28))).old hb)
       have HX4:=qq (((HX3.out.old (box1 _ (.cells p 28))).old (box1 _ (.cells q 28))).old hb)
       clear hb HD3 HM3 HX3  
       go_wp2_with fail
       refine (epoint_any _ _ _).mono ?_
       rintro e w5 ⟨rfl,hb⟩
       have HD5:=qq ((HD4.out.old (box1 _ (.cells #[.int .i64 u1,.int .i64 u2] 26))).old hb)
       have HM5:=qq ((HM4.out.old (box1 _ (.cells #[.int .i64 u1,.int .i64 u2] 26))).old hb)
       have HX5:=qq ((HX4.out.old (box1 _ (.cells #[.int .i64 u1,.int .i64 u2] 26))).old hb)
       clear hb HD4 HM4 HX4  
       go_wp2_with fail
       refine (HI.out _).mono ?_
       rintro e w6 ⟨rfl,hb⟩
       have HD6:=qq (HD5.out.old hb)
       have HM6:=qq (HM5.out.old hb)
       have HX6:=qq (HX5.out.old hb)
       clear hb HD5 HM5 HX5  
       obtain ⟨cX0,cX1,cX2,cX3,cX4,zX0,zX1,zX2,zX3,zX4,hltX⟩:=HX6.out.fiv
       go_wp2_with fail
       refine dend0 (P:=bodyPost _ _ _ _ _) HD6.out HM6.out HX6.out (by omega) _ _ _ _ _ ?_
       clear cX0 cX1 cX2 cX3 cX4 zX0 zX1 zX2 zX3 zX4 HD6 HM6 HX6 
       intro w9 hd9 hm9 cX0 cX1 cX2 cX3 cX4
       refine bodyPost_ret (v:=.tuple #[.agg v,.int .i64 z]) (by simp [results,Tryz.results127,go_sem,cX0,cX1,cX2,cX3,cX4]) rfl ⟨v,z,S1,n1,ov1,rfl,HR.out,hd9,hm9⟩
     · have h3:(p.k == 2)=false:=by simpa using h2
       have HR:Hid (X=.er 13):=by show _=_;rw [← HXE.out,bnd_ok HXX.out,← E0.out,← E1.out,rk_no HK.out h0 h2];rfl
       clear h0 h2
       obtain ⟨cX0,cX1,cX2,cX3,cX4,zX0,zX1,zX2,zX3,zX4,hltX⟩:=HX3.out.fiv
       go_wp2_with fail
       refine dendaa (P:=bodyPost _ _ _ _ _) HD3.out HM3.out HX3.out (by omega) _ _ _ _ _ ?_
       clear cX0 cX1 cX2 cX3 cX4 zX0 zX1 zX2 zX3 zX4 HD3 HM3 HX3 
       intro w9 hd9 hm9 cX0 cX1 cX2 cX3 cX4
       refine bodyPost_ret (v:=.tuple #[.agg zz,.int .i64 13]) (by simp [results,Tryz.results127,go_sem,cX0,cX1,cX2,cX3,cX4]) rfl ⟨vz,13,S1,n1,ov1,rfl,Ans.er HR.out rfl (by decide),hd9,hm9⟩
theorem body_let (f:List No→M Va) (n:No) (r:List No) (h:n.o=29):body f n r=bnd (prt f [-1] r) (fun a=>withIt (at0 a) (f (nx r))):=by
 unfold body
 rw [if_neg (by omega),if_neg (by omega),if_neg (by omega),if_neg (by omega),if_pos h,prt_one]
 congr 1
theorem withIt_ans {f:M Va} {v:Va} {S S2:St} {n n2:Nat} {P:Va→Prop} {x:Int} (h:Ans (f { S with it:=v } n) P x S2 n2):Ans (withIt v f S n) P x { S2 with it:=S.it } n2:=by
 unfold withIt
 rcases h.cases with ⟨h0,e⟩ | ⟨h0,a,ha,e⟩
 · rw [e];exact ⟨rfl,h0⟩
 · rw [e];exact ⟨h0,ha,rfl,rfl⟩
theorem deed_let {d:Nat} (HD:DoC (ev d) d):DeedC d 29 109:=by
 intro w0 A c E b l S n ov w k r hcx hd hg hkl ho hrn hx hd24
 have HBD:Hid (body (ev d) (nd l k) (l.drop (k+1)) S n=bnd (prt (ev d) [-1] (l.drop (k+1))) (fun a=>withIt (at0 a) (ev d (nx (l.drop (k+1))))) S n):=by show _=_;exact congrFun (congrFun (body_let _ _ _ ho) S) n
 have HP:=qq (pre_any HD [-1] (by decide) (by decide) (by decide) hcx hd hg hkl hx (by decide) hd24)
 have hx3:=hx
 change it (ex d) 2 (l.drop (k+1))=some r at hx3
 rw [it_succ] at hx3
 obtain ⟨r1,x1,hx3⟩:=Option.bind_eq_some_iff.1 hx3
 rw [it_succ] at hx3
 obtain ⟨r2,x2,hx3⟩:=Option.bind_eq_some_iff.1 hx3
 obtain ⟨g1,g2,g3⟩:=ex_drop_len x1 (by omega)
 obtain ⟨y1,hy1⟩:∃ y1,l.length - r1.length=y1:=⟨_,rfl⟩
 rw [hy1] at g1 g2
 rw [g1] at x2
 obtain ⟨g4,g5,g6⟩:=ex_drop_len x2 (by omega)
 have hl:=hcx.len
 have HB1:Hid (l.length - (nx (l.drop (k+1))).length=y1):=by show _=_;rw [nx_of x1 (by omega)];exact hy1
 have HN1:Hid (nx (l.drop (k+1))=l.drop y1):=by show _=_;rw [nx_of x1 (by omega)];exact g1
 have HC1:=qq (fun S1 n1 ov1 w3 hd3 hg3=>HD w0 A c E b l S1 n1 ov1 w3 y1 r2 hcx hd3 hg3 x2 (by omega))
 have HGE:=qq (ev_good d (by omega) _ _ x2)
 have hk1:k+1<l.length:=by omega
 have hy1l:y1<l.length:=by omega
 clear hx3 x1 x2 g1 g2 g3 g4 g5 g6 hy1
 clear hcx hd hg ho hrn hx hd24 HD
 go_enter_defers Tryz.func109,Tryz.ntmps109
 go_wp2_with fail
 refine (HP.out).mono ?_
 rintro e w3 ⟨p0,p1,p2,x,S1,n1,ov1,rfl,ha,r0,r1,r2,hgd,hd3,hm3,hx3⟩
 have HA:=qq ha;have R0:=qq r0;have R1:=qq r1;have R2:=qq r2;have HG:=qq hgd;have HD3:=qq hd3;have HM3:=qq hm3;have HX3:=qq hx3
 have hlZ:=hx3.blk.lt
 clear ha r0 r1 r2 hgd hd3 hm3 hx3 HP
 rcases HA.out.cases with ⟨hx0,hX⟩ | ⟨rfl,a,ha,hX⟩
 · have HX0:=qq hx0;have HXX:=qq hX
   have hx1:(x == 0)=false:=by simpa using hx0
   have hx2:(x != 0)=true:=by simpa using hx0
   clear hx0 hX HA
   obtain ⟨cX0,cX1,cX2,cX3,cX4,zX0,zX1,zX2,zX3,zX4,hltX⟩:=HX3.out.fiv
   go_wp2_with fail
   have hd9:=((HD3.out.puts HX3.out 0 zz).old (box1 _ (.cells #[.int .i64 p0.k,.int .i64 p0.n,.string (tx p0.s),.int .i64 p0.x,.int .i64 p0.y,.int .i64 p1.k,.int .i64 p1.n,.string (tx p1.s),.int .i64 p1.x,.int .i64 p1.y,.int .i64 p2.k,.int .i64 p2.n,.string (tx p2.s),.int .i64 p2.x,.int .i64 p2.y] 137)))
   have hm9:=((Mv.puts (B:=w.heap.size) HM3.out (by omega) 0 zz).old (box1 _ (.cells #[.int .i64 p0.k,.int .i64 p0.n,.string (tx p0.s),.int .i64 p0.x,.int .i64 p0.y,.int .i64 p1.k,.int .i64 p1.n,.string (tx p1.s),.int .i64 p1.x,.int .i64 p1.y,.int .i64 p2.k,.int .i64 p2.n,.string (tx p2.s),.int .i64 p2.x,.int .i64 p2.y] 137)))
   have hxX:=((Box.puts (HX3.out) zz rfl).old (box1 _ (.cells #[.int .i64 p0.k,.int .i64 p0.n,.string (tx p0.s),.int .i64 p0.x,.int .i64 p0.y,.int .i64 p1.k,.int .i64 p1.n,.string (tx p1.s),.int .i64 p1.x,.int .i64 p1.y,.int .i64 p2.k,.int .i64 p2.n,.string (tx p2.s),.int .i64 p2.x,.int .i64 p2.y] 137)))
   clear cX0 cX1 cX2 cX3 cX4 zX0 zX1 zX2 zX3 zX4 HD3 HM3 HX3 
   change bodyPostD _ _ _ _ _ ((((((w3.setCell ⟨w.heap.size,0,none⟩ (.int .i64 0)).setCell ⟨w.heap.size,1,none⟩ (.int .i64 0)).setCell ⟨w.heap.size,2,none⟩ (.string ⟨#[]⟩)).setCell ⟨w.heap.size,3,none⟩ (.int .i64 0)).setCell ⟨w.heap.size,4,none⟩ (.int .i64 0)).alloc (.cells #[.int .i64 p0.k,.int .i64 p0.n,.string (tx p0.s),.int .i64 p0.x,.int .i64 p0.y,.int .i64 p1.k,.int .i64 p1.n,.string (tx p1.s),.int .i64 p1.x,.int .i64 p1.y,.int .i64 p2.k,.int .i64 p2.n,.string (tx p2.s),.int .i64 p2.x,.int .i64 p2.y] 137))
   change Doer _ _ _ _ _ _ _ _ _ (((((((w3.setCell ⟨w.heap.size,0,none⟩ (.int .i64 0)).setCell ⟨w.heap.size,1,none⟩ (.int .i64 0)).setCell ⟨w.heap.size,2,none⟩ (.string ⟨#[]⟩)).setCell ⟨w.heap.size,3,none⟩ (.int .i64 0)).setCell ⟨w.heap.size,4,none⟩ (.int .i64 0)).alloc (.cells #[.int .i64 p0.k,.int .i64 p0.n,.string (tx p0.s),.int .i64 p0.x,.int .i64 p0.y,.int .i64 p1.k,.int .i64 p1.n,.string (tx p1.s),.int .i64 p1.x,.int .i64 p1.y,.int .i64 p2.k,.int .i64 p2.n,.string (tx p2.s),.int .i64 p2.x,.int .i64 p2.y] 137))) at hd9
   change Mv _ _ _ _ (((((((w3.setCell ⟨w.heap.size,0,none⟩ (.int .i64 0)).setCell ⟨w.heap.size,1,none⟩ (.int .i64 0)).setCell ⟨w.heap.size,2,none⟩ (.string ⟨#[]⟩)).setCell ⟨w.heap.size,3,none⟩ (.int .i64 0)).setCell ⟨w.heap.size,4,none⟩ (.int .i64 0)).alloc (.cells #[.int .i64 p0.k,.int .i64 p0.n,.string (tx p0.s),.int .i64 p0.x,.int .i64 p0.y,.int .i64 p1.k,.int .i64 p1.n,.string (tx p1.s),.int .i64 p1.x,.int .i64 p1.y,.int .i64 p2.k,.int .i64 p2.n,.string (tx p2.s),.int .i64 p2.x,.int .i64 p2.y] 137))) at hm9
   change Box _ _ _ _ _ _ (((((((w3.setCell ⟨w.heap.size,0,none⟩ (.int .i64 0)).setCell ⟨w.heap.size,1,none⟩ (.int .i64 0)).setCell ⟨w.heap.size,2,none⟩ (.string ⟨#[]⟩)).setCell ⟨w.heap.size,3,none⟩ (.int .i64 0)).setCell ⟨w.heap.size,4,none⟩ (.int .i64 0)).alloc (.cells #[.int .i64 p0.k,.int .i64 p0.n,.string (tx p0.s),.int .i64 p0.x,.int .i64 p0.y,.int .i64 p1.k,.int .i64 p1.n,.string (tx p1.s),.int .i64 p1.x,.int .i64 p1.y,.int .i64 p2.k,.int .i64 p2.n,.string (tx p2.s),.int .i64 p2.x,.int .i64 p2.y] 137))) at hxX
   generalize (((((((w3.setCell ⟨w.heap.size,0,none⟩ (.int .i64 0)).setCell ⟨w.heap.size,1,none⟩ (.int .i64 0)).setCell ⟨w.heap.size,2,none⟩ (.string ⟨#[]⟩)).setCell ⟨w.heap.size,3,none⟩ (.int .i64 0)).setCell ⟨w.heap.size,4,none⟩ (.int .i64 0)).alloc (.cells #[.int .i64 p0.k,.int .i64 p0.n,.string (tx p0.s),.int .i64 p0.x,.int .i64 p0.y,.int .i64 p1.k,.int .i64 p1.n,.string (tx p1.s),.int .i64 p1.x,.int .i64 p1.y,.int .i64 p2.k,.int .i64 p2.n,.string (tx p2.s),.int .i64 p2.x,.int .i64 p2.y] 137)))=w9 at *
   have cX0:=hxX.blk.c 0 _ rfl
   have cX1:=hxX.blk.c 1 _ rfl
   have cX2:=hxX.blk.c 2 _ rfl
   have cX3:=hxX.blk.c 3 _ rfl
   have cX4:=hxX.blk.c 4 _ rfl
   refine ⟨.tuple #[.agg zz,.int .i64 x],by simp [results,Tryz.results109,go_sem,cX0,cX1,cX2,cX3,cX4],⟨vz,x,S1,n1,ov1,rfl,by rw [HBD.out];exact Ans.er (bnd_er HXX.out) rfl HX0.out,hd9,hm9⟩⟩
 · have HXX:=qq hX;have HAA:=qq ha;have HGD:=qq (HG.out rfl)
   clear hX ha HA HG
   have hlb3:=HD3.out.blk.lt
   have d0:=HD3.out.blk.c 52 _ rfl
   have d1:=HD3.out.blk.c 53 _ rfl
   have d2:=HD3.out.blk.c 54 _ rfl
   have d3:=HD3.out.blk.c 55 _ rfl
   have d4:=HD3.out.blk.c 56 _ rfl
   go_wp2_with fail
   have HS:=qq (stand4_any _ p0 (HD3.out.old (box1 w3 (.cells #[.int .i64 p0.k,.int .i64 p0.n,.string (tx p0.s),.int .i64 p0.x,.int .i64 p0.y,.int .i64 p1.k,.int .i64 p1.n,.string (tx p1.s),.int .i64 p1.x,.int .i64 p1.y,.int .i64 p2.k,.int .i64 p2.n,.string (tx p2.s),.int .i64 p2.x,.int .i64 p2.y] 137))))
   refine (HS.out).mono ?_
   rintro e w4 ⟨rfl,hd4,hm4⟩
   have HD4:=qq hd4;have HX4:=qq ((HX3.out.old (box1 w3 (.cells #[.int .i64 p0.k,.int .i64 p0.n,.string (tx p0.s),.int .i64 p0.x,.int .i64 p0.y,.int .i64 p1.k,.int .i64 p1.n,.string (tx p1.s),.int .i64 p1.x,.int .i64 p1.y,.int .i64 p2.k,.int .i64 p2.n,.string (tx p2.s),.int .i64 p2.x,.int .i64 p2.y] 137))).mv hm4);have HM4:=qq ((HM3.out.old (box1 w3 (.cells #[.int .i64 p0.k,.int .i64 p0.n,.string (tx p0.s),.int .i64 p0.x,.int .i64 p0.y,.int .i64 p1.k,.int .i64 p1.n,.string (tx p1.s),.int .i64 p1.x,.int .i64 p1.y,.int .i64 p2.k,.int .i64 p2.n,.string (tx p2.s),.int .i64 p2.x,.int .i64 p2.y] 137))).trans hm4)
   clear hd4 hm4 HD3 HX3 HM3 HS d0 d1 d2 d3 d4
   have HS:=qq (second_any _ k HD4.out hk1 hl)
   rw [HB1.out] at HS
   go_wp2_with fail
   refine (HS.out).mono ?_
   rintro e w5 ⟨rfl,hb⟩
   have HD5:=qq (HD4.out.old hb)
   have HM5:=qq (HM4.out.old hb)
   have HX5:=qq (HX4.out.old hb)
   clear hb HD4 HM4 HX4  HS
   have HCC:=qq (HC1.out _ n1 ov1 w5 HD5.out ⟨HGD.out.key,HGD.out.val,HGD.out.acc,HGD.out.i,R0.out,HGD.out.out,HGD.out.fuel⟩)
   go_wp2_with fail
   refine HCC.out.mono ?_
   rintro e w6 ⟨v,x,S2,n2,ov2,rfl,ha6,hd6,hm6⟩
   have HA6:=qq ha6;have HD6:=qq hd6;have HM6:=qq (HM5.out.trans hm6);have HX6:=qq (HX5.out.mv hm6)
   clear ha6 hd6 hm6 HD5 HM5 HX5 HCC 
   obtain ⟨cX0,cX1,cX2,cX3,cX4,zX0,zX1,zX2,zX3,zX4,hltX⟩:=HX6.out.fiv
   go_wp2_with fail
   have hd9:=(HD6.out.puts HX6.out 0 v)
   have hm9:=(Mv.puts (B:=w.heap.size) HM6.out (by omega) 0 v)
   have hxX:=(Box.puts (HX6.out) v rfl)
   clear cX0 cX1 cX2 cX3 cX4 zX0 zX1 zX2 zX3 zX4 HD6 HM6 HX6 
   change bodyPostD _ _ _ _ _ (((((w6.setCell ⟨w.heap.size,0,none⟩ (.int .i64 v.k)).setCell ⟨w.heap.size,1,none⟩ (.int .i64 v.n)).setCell ⟨w.heap.size,2,none⟩ (.string (tx v.s))).setCell ⟨w.heap.size,3,none⟩ (.int .i64 v.x)).setCell ⟨w.heap.size,4,none⟩ (.int .i64 v.y))
   change Doer _ _ _ _ _ _ _ _ _ ((((((w6.setCell ⟨w.heap.size,0,none⟩ (.int .i64 v.k)).setCell ⟨w.heap.size,1,none⟩ (.int .i64 v.n)).setCell ⟨w.heap.size,2,none⟩ (.string (tx v.s))).setCell ⟨w.heap.size,3,none⟩ (.int .i64 v.x)).setCell ⟨w.heap.size,4,none⟩ (.int .i64 v.y))) at hd9
   change Mv _ _ _ _ ((((((w6.setCell ⟨w.heap.size,0,none⟩ (.int .i64 v.k)).setCell ⟨w.heap.size,1,none⟩ (.int .i64 v.n)).setCell ⟨w.heap.size,2,none⟩ (.string (tx v.s))).setCell ⟨w.heap.size,3,none⟩ (.int .i64 v.x)).setCell ⟨w.heap.size,4,none⟩ (.int .i64 v.y))) at hm9
   change Box _ _ _ _ _ _ ((((((w6.setCell ⟨w.heap.size,0,none⟩ (.int .i64 v.k)).setCell ⟨w.heap.size,1,none⟩ (.int .i64 v.n)).setCell ⟨w.heap.size,2,none⟩ (.string (tx v.s))).setCell ⟨w.heap.size,3,none⟩ (.int .i64 v.x)).setCell ⟨w.heap.size,4,none⟩ (.int .i64 v.y))) at hxX
   generalize ((((((w6.setCell ⟨w.heap.size,0,none⟩ (.int .i64 v.k)).setCell ⟨w.heap.size,1,none⟩ (.int .i64 v.n)).setCell ⟨w.heap.size,2,none⟩ (.string (tx v.s))).setCell ⟨w.heap.size,3,none⟩ (.int .i64 v.x)).setCell ⟨w.heap.size,4,none⟩ (.int .i64 v.y)))=w9 at *
   have cX0:=hxX.blk.c 0 _ rfl
   have cX1:=hxX.blk.c 1 _ rfl
   have cX2:=hxX.blk.c 2 _ rfl
   have cX3:=hxX.blk.c 3 _ rfl
   have cX4:=hxX.blk.c 4 _ rfl
   refine leaves_cons (f:=150) (args:=#[.pointer (some ⟨b,0,none⟩),.int .i64 4,.agg #[.int .i64 S1.it.k,.int .i64 S1.it.n,.string (tx S1.it.s),.int .i64 S1.it.x,.int .i64 S1.it.y]]) (by simp) (by simp [go_sem]) ?_
   refine (stand4_def w9 S1.it hd9 .returning).mono ?_
   rintro e u w10 ⟨rfl,rfl,hd10,hm10⟩
   have hx10:=hxX.mv hm10
   have kX0:=hx10.blk.c 0 _ rfl;have kX1:=hx10.blk.c 1 _ rfl;have kX2:=hx10.blk.c 2 _ rfl;have kX3:=hx10.blk.c 3 _ rfl;have kX4:=hx10.blk.c 4 _ rfl
   refine ⟨.tuple #[.agg v,.int .i64 x],by simp [results,Tryz.results109,go_sem,kX0,kX1,kX2,kX3,kX4],⟨v,x,{ S2 with it:=S1.it },n2,ov2,rfl,by rw [HBD.out,bnd_ok HXX.out,HN1.out];obtain ⟨rfl,rfl,rfl⟩:=HAA.out;exact withIt_ans HA6.out,hd10,hm9.trans hm10⟩⟩
def Vs (w:World) (L:Nat) (vs:List Va):Prop:=∀ i j v,i<vs.length→(vcl (vs.getD i vz))[j]? = some v→w.cell? ⟨L,i * 5+j,none⟩=some v
section
variable {w w':World} {L:Nat} {vs:List Va}
theorem Vs.lt (h:Vs w L vs) (hl:0<vs.length):L<w.heap.size:=block_lt_of_cell (h 0 0 _ hl rfl)
theorem Vs.next (h:Vs w L vs) (k:Below w.heap.size w w'):Vs w' L vs:=fun i j v hi hv=>(k.cell (p:=⟨L,i * 5+j,none⟩) (block_lt_of_cell (h i j v hi hv))).trans (h i j v hi hv)
theorem Vs.at (h:Vs w L vs) {i:Nat} (hi:i<vs.length) (j:Nat) (v:Value) (hv:(vcl (vs.getD i vz))[j]? = some v):w.cell? ⟨L,i * 5+j,none⟩=some v:=h i j v hi hv
end
def Ar (ok:Bool) (w0:World) (A:Option Addr) (c E b:Nat) (l:List No) (S:St) (n:Nat) (ov:Value) (w:World) (e:Ending) (w':World):Prop :=
 e=.returned (.bool ok)∧Mac w0 A c E b l S n (if ok=true then 0 else 13) ov w'∧Mv b ov w ov w'∧(ok=true→Below w.heap.size w w')
theorem fits_step {ks:List Int} {vs:List Va} {k:Nat} (h0:∀ x ∈ ks,0≤x) (hk:k<ks.length) (hl:ks.length≤vs.length):fits (ks.drop k) (vs.drop k)=((vs.getD k vz).k == ks.getD k 0 && fits (ks.drop (k+1)) (vs.drop (k+1))):=by
 rw [fits_drop hk hl]
 have e:ks.getD k 0=ks[k]:=by rw [List.getD_eq_getElem?_getD,List.getElem?_eq_getElem hk];rfl
 rw [e]
 have h:=h0 _ (List.getElem_mem hk)
 have:(ks[k] == -1)=false:=by rw [beq_eq_false_iff_ne];omega
 rw [this,Bool.false_or]
def Fl (x:Int) (w0:World) (A:Option Addr) (c E b:Nat) (l:List No) (S:St) (n:Nat) (ov:Value) (w:World) (e:Ending) (w':World):Prop :=
 e=.returned (.agg zz)∧Mac w0 A c E b l S n x ov w'∧Mv b ov w ov w'
theorem mfail_at {w0:World} {A:Option Addr} {c E b n:Nat} {l:List No} {S:St} {ov:Value} {w:World} (x:Int) (hx:x ≠ 0) (hd:Mac w0 A c E b l S n 0 ov w):Calls Tryz.prog 111 #[.pointer (some ⟨b,0,none⟩),.int .i64 x] w (Fl x w0 A c E b l S n ov w):=by
 have hlt:=hd.lt
 have e0:=hd.blk.c 21 _ rfl;have f0:=hd.blk.f 21 _ rfl
 have hd1:=hd.putb (S':=S) (n':=n) (xe':=x) 21 (.int .i64 x) rfl rfl
 have hm1:Mv b ov w ov (w.setCell ⟨b,21,none⟩ (.int .i64 x)):=Mv.refl.putb 21 (.int .i64 x)
 have hd2:=hd1.old (box1 (w.setCell ⟨b,21,none⟩ (.int .i64 x)) (.cells zz 28));have hm2:=hm1.old (box1 (w.setCell ⟨b,21,none⟩ (.int .i64 x)) (.cells zz 28))
 have HD:=qq hd2;have HM:=qq hm2;have HX0:=qq hx
 clear hd hd1 hm1 hd2 hm2 hx
 go_enter Tryz.func111,Tryz.ntmps111
 go_wp2_with fail
 refine bodyPost_ret (v:=.agg zz) (by simp [results,Tryz.results111,go_sem]) rfl ⟨rfl,HD.out,HM.out⟩
theorem mare_any {w0:World} {A:Option Addr} {c E b n:Nat} {l:List No} {S:St} {ov:Value} {w:World} {L K cl ck:Nat} {vs:List Va} {ks:List Int} (h0:∀ x ∈ ks,0≤x) (hk:ks.length≤vs.length) (h3:vs.length≤3)
 (hv:Vs w L vs) (hq:Blk w K (kcl ks)) (hd:Mac w0 A c E b l S n 0 ov w) :
 Calls Tryz.prog 152 #[.pointer (some ⟨b,0,none⟩),.slice (some ⟨L,0,none⟩) vs.length cl,.slice (some ⟨K,0,none⟩) ks.length ck] w (Ar (fits ks vs) w0 A c E b l S n ov w):=by
 have HV:=qq hv;have HQ:=qq hq;have HD:=qq hd;have H0:=qq h0
 clear hv hq hd h0
 go_enter Tryz.func152,Tryz.ntmps152
 go_wp2_with fail
 go_loopw [7] (fun i wr=>∃ k m:Nat,k≤ks.length∧i=.int .i64 (k:Int)∧wr=w.drewN m∧fits (ks.drop k) (vs.drop k)=fits ks vs) (fun i _=>ks.length - (intOf i).toNat)
 case atStart=>exact ⟨0,0,Nat.zero_le _,rfl,rfl,rfl⟩
 case round =>
  obtain ⟨k,m,hkl,rfl,rfl,hf⟩:=hrel
  have HDm:=qq (HD.out.old (below_drewN (Below.refl _ _) m));have HMm:Hid (Mv b ov w ov (w.drewN m)):=Mv.of (below_drewN (Below.refl _ _) m)
  by_cases hlt:k<ks.length
  · have hva:Vs (w.drewN m) L vs:=HV.out
    have hqa:Blk (w.drewN m) K (kcl ks):=HQ.out.next (below_drewN (Below.refl _ _) m)
    have a0:=hva.at (show k<vs.length by omega) 0 _ rfl
    have b0:=hqa.c k (.int .i64 (ks.getD k 0)) (by unfold kcl;rw [List.getElem?_map,List.getElem?_eq_getElem hlt,List.getD_eq_getElem?_getD,List.getElem?_eq_getElem hlt];rfl)
    rw [Nat.add_zero] at a0
    rw [fits_step H0.out hlt hk] at hf
    have hlv:k<vs.length:=by omega
    clear hva hqa
    have HWB:Hid (Below w.heap.size w (w.drewN m)):=below_drewN (Below.refl _ _) m
    generalize hwo:w.drewN m=wo at *
    have HWO:=qq hwo;clear hwo
    generalize vs.getD k vz=u at *
    generalize ks.getD k 0=q at *
    by_cases he:u.k=q
    · have he1:(u.k != q)=false:=by simpa using he
      have HF:Hid (fits (ks.drop (k+1)) (vs.drop (k+1))=fits ks vs):=by
       rw [show (u.k == q)=true by simpa using he,Bool.true_and] at hf;exact hf
      clear hf HDm HMm he
      go_wp2_with fail
      go_quiet (fail)
      go_wp2_with fail
      go_roundw
      case rel=>exact ⟨k+1,m+_,by omega,by go_num,by rw [← HWO.out,World.drewN_drewN],HF.out⟩
      case measure=>simp [intOf];omega
    · have he1:(u.k != q)=true:=by simpa using he
      have HF:Hid (fits ks vs=false):=by
       rw [show (u.k == q)=false by simpa using he,Bool.false_and] at hf;exact hf.symm
      have HFA:=qq (fun p=>mfail_at 13 (by decide) (HDm.out.old (below_drewN (Below.refl _ _) p)))
      clear hf HDm he
      go_wp2_with fail
      go_quiet (fail)
      go_wp2_with fail
      refine (HFA.out _).mono ?_
      rintro e w3 ⟨rfl,hd3,hm3⟩
      have HD3:=qq hd3;have HM3:=qq ((HMm.out.old (below_drewN (Below.refl _ _) _)).trans hm3)
      clear hd3 hm3
      go_wp2_with fail
      go_ret
      exact ⟨by rw [HF.out];rfl,by rw [HF.out];exact HD3.out,HM3.out,fun h=>by rw [HF.out] at h;cases h⟩
  · have hke:k=ks.length:=by omega
    subst hke
    have HF:Hid (fits ks vs=true):=by
     rw [List.drop_length] at hf;exact hf.symm
    clear hf
    go_wp2_with fail
    go_ret
    exact ⟨by rw [HF.out];rfl,by rw [HF.out];exact HDm.out,HMm.out,fun _=>below_drewN (Below.refl _ _) m⟩
end Go.Proofs.YtgakcpcpfkoaiaaGreatDoor.Ev
namespace Go.Proofs.YtgakcpcpfkoaiaaGreatDoor.Ev
open Go.ChangeShapes Go.WideShapes Go.ChangeAt Go.RowKit Ov Va Ex
theorem ownsRow_mv {w w':World} {b:Nat} {ov ov':Value} {base:Nat} {e:TypeId} {size:Nat} {v:Value} {n:Nat} {xs:List Value} (h:w.ownsRow base e size v n xs) (k:Mv b ov w ov' w') (hb:v.ownBlock ≠ some b) (ho:∀ g,v.ownBlock=some g→ov.ownBlock ≠ some g):w'.ownsRow base e size v n xs:=by
 refine ⟨h.1,?_⟩
 rcases h.2 with hn | ⟨g,cap,cur,rfl,hB,hgg,rest⟩
 · exact .inl hn
 · refine .inr ⟨g,cap,cur,rfl,hB,?_,rest⟩
   rw [k.block g (Array.getElem?_eq_some_iff.1 hgg).1 (fun e=>hb (by rw [e];rfl)) (ho g rfl)]
   exact hgg
theorem vflat_at (vs:List Va) (i j:Nat) (hi:i<vs.length) (hj:j<5):(vs.flatMap vcl)[i * 5+j]? = (vcl (vs.getD i vz))[j]?:=by
 induction vs generalizing i with
 | nil=>simp at hi
 | cons v t ih =>
   rw [List.flatMap_cons]
   cases i with
   | zero =>
     rw [Nat.zero_mul,Nat.zero_add,List.getElem?_append_left (by show j<5;exact hj)];rfl
   | succ i =>
     rw [List.getElem?_append_right (by show 5≤_;omega)]
     show (t.flatMap vcl)[(i+1) * 5+j - 5]? = (vcl ((v :: t).getD (i+1) vz))[j]?
     rw [show (i+1) * 5+j - 5=i * 5+j by omega,List.getD_cons_succ]
     exact ih i (by simpa using hi)
theorem vcl_lt {v:Va} {j:Nat} {u:Value} (h:(vcl v)[j]? = some u):j<5:=by
 obtain ⟨h,_⟩:=List.getElem?_eq_some_iff.1 h
 exact h
theorem vcl_one (v:Va):∀ u ∈ vcl v,u.oneCell'=true:=by
 intro u hu
 unfold vcl vcs at hu
 simp only [List.mem_cons,List.not_mem_nil,or_false] at hu
 rcases hu with rfl | rfl | rfl | rfl | rfl <;> rfl
structure Lv (w0:World) (b E:Nat) (ov:Value) (g cap:Nat) (vs:List Va) (w:World):Prop where
 own:w.ownsRow w0.heap.size 28 5 (.slice (some ⟨g,0,none⟩) vs.length cap) vs.length (vs.flatMap vcl)
 nb:g ≠ b
 nE:g ≠ E
 no:ov.ownBlock ≠ some g
section
variable {w0 w w':World} {A:Option Addr} {c E b B g cap n:Nat} {l:List No} {S:St} {xe:Int} {ov ov' ova:Value} {xs:List Value} {vs:List Va} {wa:World}
theorem Lv.lt (h:Lv w0 b E ov g cap vs w):w0.heap.size≤g∧g<w.heap.size:=h.own.lt g rfl
theorem Lv.mv (h:Lv w0 b E ov g cap vs w) (k:Mv b ov w ov' w'):Lv w0 b E ov' g cap vs w' :=
 ⟨ownsRow_mv h.own k (fun e=>h.nb (Option.some.inj e)) (fun q e=>by rw [← e];exact fun e2=>h.no e2),h.nb,h.nE,k.ne h.lt.2 h.no⟩
theorem Lv.old (h:Lv w0 b E ov g cap vs w) (k:Below w.heap.size w w'):Lv w0 b E ov g cap vs w':=h.mv (Mv.of k)
theorem Lv.toVs (h:Lv w0 b E ov g cap vs w):Vs w g vs:=fun i j v hi hv=>by
 have hj:=vcl_lt hv
 rw [h.own.cellAt (i * 5+j) (by omega),vflat_at vs i j hi hj];exact hv
theorem Mac.grow (h:Mac w0 A c E b l S n xe ov w) (hl:0<l.length) (hg:w.grownBy w' (some g)) (h0:w0.heap.size≤g) (hb:g ≠ b) (hE:g ≠ E) (ho:ov.ownBlock ≠ some g):Mac w0 A c E b l S n xe ov w':=by
 have hEl:=h.ltE hl
 have hbl:=h.lt
 have nb:some b ≠ some g:=fun e=>hb (Option.some.inj e).symm
 refine ⟨h.fro.grown hg h.fro.size (fun k e=>by rw [← Option.some.inj e];exact h0),h.hb,h.hE,h.ne,⟨fun i v x=>(hg.cell_far ⟨b,i,none⟩ hbl nb).trans (h.blk.c i v x),fun i v x=>(hg.frozen_far ⟨b,i,none⟩ hbl nb).trans (h.blk.f i v x),Nat.lt_of_lt_of_le hbl hg.size⟩,
  fun i hi=>(hg.cell_far ⟨E,i,none⟩ hEl (fun e=>hE (Option.some.inj e).symm)).trans (h.beh i hi),h.out.kept hg (.inr ho),h.sb,h.sE⟩
theorem Mv.grow (h:Mv b ova wa ov w) (hg:w.grownBy w' (some g)) (h0:wa.heap.size≤g):Mv b ova wa ov w' :=
 ⟨hg.os.trans h.os,hg.tape.trans h.tape,hg.output.trans h.output,Nat.le_trans h.size hg.size,fun k hk hb ho=>(hg.block k (Nat.lt_of_lt_of_le hk h.size) (fun e=>by have:=Option.some.inj e;omega)).trans (h.block k hk hb ho),h.row⟩
theorem Box.grow (h:Box w0 b E ov B xs w) (hg:w.grownBy w' (some g)) (hB:B ≠ g):Box w0 b E ov B xs w' :=
 have nB:some B ≠ some g:=fun e=>hB (Option.some.inj e)
 ⟨⟨fun i v x=>(hg.cell_far ⟨B,i,none⟩ h.blk.lt nB).trans (h.blk.c i v x),fun i v x=>(hg.frozen_far ⟨B,i,none⟩ h.blk.lt nB).trans (h.blk.f i v x),Nat.lt_of_lt_of_le h.blk.lt hg.size⟩,h.nb,h.nE,h.no,h.lo⟩
end
section
variable {w0 W w':World} {A:Option Addr} {c E b n g cap:Nat} {l:List No} {S:St} {ov:Value} {p:List UInt8 × Va}
theorem Mac.cell_far (h:Mac w0 A c E b l S n 0 ov W) (hg:W.grownBy w' ov.ownBlock):w'.cell? ⟨b,19,none⟩=some ov∧w'.frozen? ⟨b,19,none⟩=false :=
 ⟨(hg.cell_far ⟨b,19,none⟩ h.lt (fun e=>h.sb e.symm)).trans (h.blk.c 19 _ rfl),(hg.frozen_far ⟨b,19,none⟩ h.lt (fun e=>h.sb e.symm)).trans (h.blk.f 19 _ rfl)⟩
theorem Mac.grown (h:Mac w0 A c E b l S n 0 ov W) (hl:0<l.length) (ho:w'.ownsRow w0.heap.size 152 6 (.slice (some ⟨g,0,none⟩) (S.out.length+1) cap) (S.out.length+1) (pcells S.out++pcl p)) (hg:W.grownBy w' ov.ownBlock) (hgr:ov.ownBlock=some g∨g=W.heap.size) :
 Mac w0 A c E b l { S with out:=S.out++[p] } n 0 (.slice (some ⟨g,0,none⟩) (S.out.length+1) cap) (w'.setCell ⟨b,19,none⟩ (.slice (some ⟨g,0,none⟩) (S.out.length+1) cap)) ∧
 Mv b ov W (.slice (some ⟨g,0,none⟩) (S.out.length+1) cap) (w'.setCell ⟨b,19,none⟩ (.slice (some ⟨g,0,none⟩) (S.out.length+1) cap)):=by
 have hEl:=h.ltE hl
 have hbl:=h.lt
 have hgb:g ≠ b:=fun e=>by
  rcases hgr with e1 | e1
  · exact h.sb (by rw [e1,e])
  · omega
 have hgE:g ≠ E:=fun e=>by
  rcases hgr with e1 | e1
  · exact h.sE (by rw [e1,e])
  · omega
 have hv:(Value.slice (some ⟨g,0,none⟩) (S.out.length+1) cap).ownBlock=some g:=rfl
 have hblk:Blk w' b (mcs A c E l.length S n 0 ov):=⟨fun i v x=>(hg.cell_far ⟨b,i,none⟩ hbl (fun e=>h.sb e.symm)).trans (h.blk.c i v x),fun i v x=>(hg.frozen_far ⟨b,i,none⟩ hbl (fun e=>h.sb e.symm)).trans (h.blk.f i v x),Nat.lt_of_lt_of_le hbl hg.size⟩
 refine ⟨⟨(h.fro.grown hg h.fro.size (fun k e=>(h.out.lt k e).1)).setCell h.hb _,h.hb,h.hE,h.ne,(hblk.set 19 _).cast rfl,fun i hi=>?_,?_,fun e=>hgb (by rw [hv] at e;exact Option.some.inj e),fun e=>hgE (by rw [hv] at e;exact Option.some.inj e)⟩,
  ⟨hg.os,hg.tape,hg.output,by simpa using hg.size,fun k hk hkb hko=>(Below.heap_setCell _ _ _ _ hkb).trans (hg.block k hk (fun e=>hko e.symm)),?_⟩⟩
 · rw [World.cell?_setCell_other _ _ _ _ (fun e=>h.ne (by injection e with e1;exact e1.symm))]
   exact (hg.cell_far ⟨E,i,none⟩ hEl (fun e=>h.sE e.symm)).trans (h.beh i hi)
 · show World.ownsRow _ _ _ _ _ (S.out++[p]).length _
   rw [pcells_snoc,List.length_append]
   exact ownsRow_setCell_other ho (by rw [hv];exact fun e=>hgb (Option.some.inj e)) _
 · rw [hv]
   rcases hgr with e1 | e1
   · exact .inl e1.symm
   · exact .inr ⟨g,rfl,by omega⟩
end
end Go.Proofs.YtgakcpcpfkoaiaaGreatDoor.Ev
namespace Go.Proofs.YtgakcpcpfkoaiaaGreatDoor.Ev
open Go.ChangeShapes Go.WideShapes Go.ChangeAt Go.RowKit Ov Va Ga Ex
theorem fits_1 {a:Int} {p:Va} (h:fits [a] [p]=true) (ha:(a == -1)=false:=by decide):p.k=a:=by
 unfold fits at h
 rw [ha,Bool.false_or,Bool.and_eq_true] at h
 simpa using h.1
theorem fits_2 {a a2:Int} {p q:Va} (h:fits [a,a2] [p,q]=true) (ha:(a == -1)=false:=by decide) (hb:(a2 == -1)=false:=by decide):p.k=a∧q.k=a2:=by
 unfold fits at h
 rw [ha,Bool.false_or,Bool.and_eq_true] at h
 exact ⟨by simpa using h.1,fits_1 h.2 hb⟩
theorem fits_3 {a a2 a3:Int} {p q r:Va} (h:fits [a,a2,a3] [p,q,r]=true) (ha:(a == -1)=false:=by decide) (hb:(a2 == -1)=false:=by decide) (hc:(a3 == -1)=false:=by decide):p.k=a∧q.k=a2∧r.k=a3:=by
 unfold fits at h
 rw [ha,Bool.false_or,Bool.and_eq_true] at h
 exact ⟨by simpa using h.1,fits_2 h.2 hb hc⟩
theorem ap_af {o:Int} {l:List Va} (h:fits (ask o) l=true) (S:St) (n:Nat):ap o l S n=af o l S n:=by
 unfold ap af
 rw [if_neg (by rw [h];decide)]
theorem ap_no {o:Int} {l:List Va} (h:fits (ask o) l=false) (S:St) (n:Nat):ap o l S n=.er 13:=by
 unfold ap
 rw [if_pos h];rfl
theorem Vs.p1 {w:World} {L:Nat} {p:Va} {t:List Va} (h:Vs w L (p :: t)):w.cell? ⟨L,0,none⟩=some (.int .i64 p.k)∧w.cell? ⟨L,1,none⟩=some (.int .i64 p.n)∧w.cell? ⟨L,2,none⟩=some (.string (tx p.s))∧w.cell? ⟨L,3,none⟩=some (.int .i64 p.x)∧w.cell? ⟨L,4,none⟩=some (.int .i64 p.y)∧L<w.heap.size :=
 have hi:0<(p :: t).length:=by simp
 ⟨h.at (i:=0) hi 0 _ rfl,h.at (i:=0) hi 1 _ rfl,h.at (i:=0) hi 2 _ rfl,h.at (i:=0) hi 3 _ rfl,h.at (i:=0) hi 4 _ rfl,h.lt hi⟩
theorem Vs.p2 {w:World} {L:Nat} {p q:Va} {t:List Va} (h:Vs w L (p :: q :: t)):w.cell? ⟨L,5,none⟩=some (.int .i64 q.k)∧w.cell? ⟨L,6,none⟩=some (.int .i64 q.n)∧w.cell? ⟨L,7,none⟩=some (.string (tx q.s))∧w.cell? ⟨L,8,none⟩=some (.int .i64 q.x)∧w.cell? ⟨L,9,none⟩=some (.int .i64 q.y) :=
 have hi:1<(p :: q :: t).length:=by simp
 ⟨h.at (i:=1) hi 0 _ rfl,h.at (i:=1) hi 1 _ rfl,h.at (i:=1) hi 2 _ rfl,h.at (i:=1) hi 3 _ rfl,h.at (i:=1) hi 4 _ rfl⟩
theorem Vs.p3 {w:World} {L:Nat} {p q r:Va} {t:List Va} (h:Vs w L (p :: q :: r :: t)):w.cell? ⟨L,10,none⟩=some (.int .i64 r.k)∧w.cell? ⟨L,11,none⟩=some (.int .i64 r.n)∧w.cell? ⟨L,12,none⟩=some (.string (tx r.s))∧w.cell? ⟨L,13,none⟩=some (.int .i64 r.x)∧w.cell? ⟨L,14,none⟩=some (.int .i64 r.y) :=
 have hi:2<(p :: q :: r :: t).length:=by simp
 ⟨h.at (i:=2) hi 0 _ rfl,h.at (i:=2) hi 1 _ rfl,h.at (i:=2) hi 2 _ rfl,h.at (i:=2) hi 3 _ rfl,h.at (i:=2) hi 4 _ rfl⟩
end Go.Proofs.YtgakcpcpfkoaiaaGreatDoor.Ev
namespace Go.Proofs.YtgakcpcpfkoaiaaGreatDoor.Ev
open Go.ChangeShapes Go.WideShapes Go.ChangeAt Go.RowKit Ov Va Ex
section
variable {w0 W w':World} {A:Option Addr} {c E b n g g2 cap cap2:Nat} {l:List No} {S:St} {xe:Int} {ov:Value} {vs:List Va} {v:Va}
theorem Lv.grown (h:Lv w0 b E ov g cap vs W) (hd:Mac w0 A c E b l S n xe ov W) (hl:0<l.length) (ho:w'.ownsRow w0.heap.size 28 5 (.slice (some ⟨g2,0,none⟩) (vs.length+1) cap2) (vs.length+1) (vs.flatMap vcl++vcl v))
 (hgg:(Value.slice (some ⟨g,0,none⟩) vs.length cap).ownBlock=some g2∨g2=W.heap.size):Lv w0 b E ov g2 cap2 (vs++[v]) w':=by
 have hEl:=hd.ltE hl
 have hbl:=hd.lt
 have e:(vs++[v]).flatMap vcl=vs.flatMap vcl++vcl v:=by rw [List.flatMap_append];simp
 refine ⟨by rw [List.length_append,e];exact ho,?_,?_,?_⟩
 · rcases hgg with h1 | h1
   · rw [← Option.some.inj h1];exact h.nb
   · omega
 · rcases hgg with h1 | h1
   · rw [← Option.some.inj h1];exact h.nE
   · omega
 · rcases hgg with h1 | h1
   · rw [← Option.some.inj h1];exact h.no
   · rw [h1];exact hd.olt
theorem Lv.made (h:Mac w0 A c E b l S n xe ov W) (hl:0<l.length) (v:Va):Lv w0 b E ov W.heap.size 1 [v] (W.alloc (.cells v 28)) :=
 have k:=Box.makeM h hl 28 (vcl v)
 ⟨World.ownsRow_lit W v 1 h.fro.size (by unfold maxLen;decide) rfl,k.nb,k.nE,k.no⟩
theorem infoV:(Tryz.prog.info? 28).map (fun i=>(i.zero,i.size,i.bytes))=some (some (.agg (vcl vz).toArray),5,48):=by kernel_rfl
theorem val_at (W:World) (v:Va) (ty:TypeId):∀ j u,(vcl v)[j]? = some u→(W.alloc (.cells v ty)).cell? ((⟨W.heap.size,0,none⟩:Addr).add j)=some u:=by
 intro j u hu
 have e:(⟨W.heap.size,0,none⟩:Addr).add j=⟨W.heap.size,j,none⟩:=by
  unfold Addr.add
  split
  · rename_i h;subst h;rfl
  · simp
 rw [e]
 exact (Blk.made W ty (vcl v) rfl).c j u hu
end
end Go.Proofs.YtgakcpcpfkoaiaaGreatDoor.Ev

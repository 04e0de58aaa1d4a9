/-
  A text of this claim: EvDeed5.
-/
import Derived.Test.YtgakcpcpfkoaiaaGreatDoorQ1
import Derived.Test.YtgakcpcpfkoaiaaGreatDoorQEvDeed2
import Derived.Test.YtgakcpcpfkoaiaaGreatDoorQ3
import Derived.Deep.QuietTactic
import Derived.BigQuiet
set_option maxHeartbeats 2000000
set_option maxRecDepth 100000
namespace Go.Proofs.YtgakcpcpfkoaiaaGreatDoor.Ev
open Go.ChangeShapes Go.WideShapes Go.ChangeAt Go.RowKit Ov Va Ga Ex
theorem cut_bad {l:List Va} (h:(at1 l).n<0∨(at2 l).n<(at1 l).n∨((at0 l).s.length:Int)<(at2 l).n) (S:St) (n:Nat):af 16 l S n=.er 14:=by
 show lift (if (at1 l).n<0∨(at2 l).n<(at1 l).n∨((at0 l).s.length:Int)<(at2 l).n then .inl 14 else .inr (tv (((at0 l).s.take (at2 l).n.toNat).drop (at1 l).n.toNat))) S n=_
 rw [if_pos h];rfl
theorem cut_ok {l:List Va} (h:¬ ((at1 l).n<0∨(at2 l).n<(at1 l).n∨((at0 l).s.length:Int)<(at2 l).n)) (S:St) (n:Nat):af 16 l S n=.ok (tv (((at0 l).s.take (at2 l).n.toNat).drop (at1 l).n.toNat)) S n:=by
 show lift (if (at1 l).n<0∨(at2 l).n<(at1 l).n∨((at0 l).s.length:Int)<(at2 l).n then .inl 14 else .inr (tv (((at0 l).s.take (at2 l).n.toNat).drop (at1 l).n.toNat))) S n=_
 rw [if_neg h];rfl
theorem word_af (l:List Va):af 17 l=lift (wdN (at0 l).s (at1 l).n):=rfl
def strSz:Value→Nat
 | .string s=>s.size
 | _=>0
theorem size_tx (l:List UInt8):(tx l).size=l.length:=tx_size l
theorem deed_cut {d:Nat} (HD:DoC (ev d) d):DeedC d 16 96:=by
 intro w0 A c E b l S n ov w k r hcx hd hg hkl ho hrn hx hd24
 have HBD:Hid (body (ev d) (nd l k) (l.drop (k+1)) S n=bnd (prt (ev d) [1,0,0] (l.drop (k+1))) (af 16) S n):=by show _=_;exact congrFun (congrFun (body_prt ho (by decide) (by decide) (by decide) (by decide) (by decide) (by decide)) S) n
 have HP:=qq (pre_any HD [1,0,0] (by decide) (by decide) (by decide) hcx hd hg hkl hx (by decide) hd24)
 clear hcx hd hg ho hrn hx hd24 HD
 go_enter Tryz.func96,Tryz.ntmps96
 go_wp2_with fail
 refine (HP.out).mono ?_
 rintro e w3 ⟨p0,p1,p2,x,S1,n1,ov1,rfl,ha,r0,r1,r2,hgd,hd3,hm3,hx3⟩
 have HA:=qq ha;have R0:=qq r0;have R1:=qq r1;have R2:=qq r2;have HG:=qq hgd;have HD3:=qq hd3;have HM3:=qq hm3;have HX3:=qq hx3
 have hlZ:=hx3.blk.lt
 clear ha r0 r1 r2 hgd hd3 hm3 hx3 HP
 rcases HA.out.cases with ⟨hx0,hX⟩ | ⟨rfl,a,ha,hX⟩
 · have HX0:=qq hx0;have HXX:=qq hX
   have hx1:(x == 0)=false:=by simpa using hx0
   have hx2:(x != 0)=true:=by simpa using hx0
   clear hx0 hX HA
   obtain ⟨cX0,cX1,cX2,cX3,cX4,zX0,zX1,zX2,zX3,zX4,hltX⟩:=HX3.out.fiv
   go_wp2_with fail
   refine denda (P:=bodyPost _ _ _ _ _) HD3.out HM3.out HX3.out (by omega) _ _ _ _ _ ?_
   clear cX0 cX1 cX2 cX3 cX4 zX0 zX1 zX2 zX3 zX4 HD3 HM3 HX3 
   intro w9 hd9 hm9 cX0 cX1 cX2 cX3 cX4
   refine bodyPost_ret (v:=.tuple #[.agg zz,.int .i64 x]) (by simp [results,Tryz.results96,go_sem,cX0,cX1,cX2,cX3,cX4]) rfl ⟨vz,x,S1,n1,ov1,rfl,by rw [HBD.out];exact Ans.er (bnd_er HXX.out) rfl HX0.out,hd9,hm9⟩
 · have HXX:=qq hX;have HAA:=qq ha;have HGD:=qq (HG.out rfl)
   clear hX ha HA HG
   have h0:=(rt_all R0.out).2.1;have h1:=(rt_all R1.out).1;have h2:=(rt_all R2.out).1
   obtain ⟨h11,h12⟩:=h1;obtain ⟨h21,h22⟩:=h2
   obtain ⟨u,hu⟩:∃ u,tx p0.s=u:=⟨_,rfl⟩
   have hus:u.size=p0.s.length:=by rw [← hu,tx_size]
   have HU:=qq hu
   rw [hu]
   clear hu
   go_wp2_with fail
   go_quiet (fail)
   have HD4:=qq ((HD3.out.old (box1 w3 (.cells #[.int .i64 p0.k,.int .i64 p0.n,.string (u),.int .i64 p0.x,.int .i64 p0.y,.int .i64 p1.k,.int .i64 p1.n,.string (tx p1.s),.int .i64 p1.x,.int .i64 p1.y,.int .i64 p2.k,.int .i64 p2.n,.string (tx p2.s),.int .i64 p2.x,.int .i64 p2.y] 137))).old (below_drewN (Below.refl _ _) nq));have HM4:=qq ((HM3.out.old (box1 w3 (.cells #[.int .i64 p0.k,.int .i64 p0.n,.string (u),.int .i64 p0.x,.int .i64 p0.y,.int .i64 p1.k,.int .i64 p1.n,.string (tx p1.s),.int .i64 p1.x,.int .i64 p1.y,.int .i64 p2.k,.int .i64 p2.n,.string (tx p2.s),.int .i64 p2.x,.int .i64 p2.y] 137))).old (below_drewN (Below.refl _ _) nq));have HX4:=qq ((HX3.out.old (box1 w3 (.cells #[.int .i64 p0.k,.int .i64 p0.n,.string (u),.int .i64 p0.x,.int .i64 p0.y,.int .i64 p1.k,.int .i64 p1.n,.string (tx p1.s),.int .i64 p1.x,.int .i64 p1.y,.int .i64 p2.k,.int .i64 p2.n,.string (tx p2.s),.int .i64 p2.x,.int .i64 p2.y] 137))).old (below_drewN (Below.refl _ _) nq))
   clear HD3 HM3 HX3
   generalize World.drewN (w3.alloc (.cells #[.int .i64 p0.k,.int .i64 p0.n,.string (u),.int .i64 p0.x,.int .i64 p0.y,.int .i64 p1.k,.int .i64 p1.n,.string (tx p1.s),.int .i64 p1.x,.int .i64 p1.y,.int .i64 p2.k,.int .i64 p2.n,.string (tx p2.s),.int .i64 p2.x,.int .i64 p2.y] 137)) nq=w4 at *
   by_cases hc1:p1.n<0
   · skip
     have HC:Hid ((p1.n<0∨p2.n<p1.n∨(p0.s.length:Int)<p2.n)):=.inl hc1
     obtain ⟨cX0,cX1,cX2,cX3,cX4,zX0,zX1,zX2,zX3,zX4,hltX⟩:=HX4.out.fiv
     go_wp2_with fail
     refine dend0 (P:=bodyPost _ _ _ _ _) HD4.out HM4.out HX4.out (by omega) _ _ _ _ _ ?_
     clear cX0 cX1 cX2 cX3 cX4 zX0 zX1 zX2 zX3 zX4 HD4 HM4 HX4 
     intro w9 hd9 hm9 cX0 cX1 cX2 cX3 cX4
     refine bodyPost_ret (v:=.tuple #[.agg zz,.int .i64 14]) (by simp [results,Tryz.results96,go_sem,cX0,cX1,cX2,cX3,cX4]) rfl ⟨vz,14,S1,n1,ov1,rfl,by rw [HBD.out];obtain ⟨rfl,rfl,rfl⟩:=HAA.out;exact Ans.er (by rw [bnd_ok HXX.out];exact cut_bad HC.out _ _) rfl (by decide),hd9,hm9⟩
   · skip
     by_cases hc2:p2.n<p1.n
     · skip
       have HC:Hid ((p1.n<0∨p2.n<p1.n∨(p0.s.length:Int)<p2.n)):=.inr (.inl hc2)
       obtain ⟨cX0,cX1,cX2,cX3,cX4,zX0,zX1,zX2,zX3,zX4,hltX⟩:=HX4.out.fiv
       go_wp2_with fail
       refine dend0 (P:=bodyPost _ _ _ _ _) HD4.out HM4.out HX4.out (by omega) _ _ _ _ _ ?_
       clear cX0 cX1 cX2 cX3 cX4 zX0 zX1 zX2 zX3 zX4 HD4 HM4 HX4 
       intro w9 hd9 hm9 cX0 cX1 cX2 cX3 cX4
       refine bodyPost_ret (v:=.tuple #[.agg zz,.int .i64 14]) (by simp [results,Tryz.results96,go_sem,cX0,cX1,cX2,cX3,cX4]) rfl ⟨vz,14,S1,n1,ov1,rfl,by rw [HBD.out];obtain ⟨rfl,rfl,rfl⟩:=HAA.out;exact Ans.er (by rw [bnd_ok HXX.out];exact cut_bad HC.out _ _) rfl (by decide),hd9,hm9⟩
     · skip
       by_cases hc3:(u.size:Int)<p2.n
       · skip
         have HC:Hid ((p1.n<0∨p2.n<p1.n∨(p0.s.length:Int)<p2.n)):=.inr (.inr (by omega))
         obtain ⟨cX0,cX1,cX2,cX3,cX4,zX0,zX1,zX2,zX3,zX4,hltX⟩:=HX4.out.fiv
         go_wp2_with fail
         refine dend0 (P:=bodyPost _ _ _ _ _) HD4.out HM4.out HX4.out (by omega) _ _ _ _ _ ?_
         clear cX0 cX1 cX2 cX3 cX4 zX0 zX1 zX2 zX3 zX4 HD4 HM4 HX4 
         intro w9 hd9 hm9 cX0 cX1 cX2 cX3 cX4
         refine bodyPost_ret (v:=.tuple #[.agg zz,.int .i64 14]) (by simp [results,Tryz.results96,go_sem,cX0,cX1,cX2,cX3,cX4]) rfl ⟨vz,14,S1,n1,ov1,rfl,by rw [HBD.out];obtain ⟨rfl,rfl,rfl⟩:=HAA.out;exact Ans.er (by rw [bnd_ok HXX.out];exact cut_bad HC.out _ _) rfl (by decide),hd9,hm9⟩
       · skip
         have HC:Hid (¬ (p1.n<0∨p2.n<p1.n∨(p0.s.length:Int)<p2.n)):=by show ¬ _;omega
         have hsl:∀ w,(Instr.slice 9 (.string u) (some (.int .i64 p1.n)) (some (.int .i64 p2.n)) none).run Tryz.prog w=.ok (.string (u.extract p1.n.toNat p2.n.toNat)) w:=fun w =>
          run_slice_string (P:=Tryz.prog) w 9 u .i64 .i64 p1.n p2.n Tryz.underlying9 (by omega) (by omega) (by omega)
         have HE:Hid (u.extract p1.n.toNat p2.n.toNat=tx ((p0.s.take p2.n.toNat).drop p1.n.toNat)):=by
          show _=_
          rw [ext_mid u (show p1.n.toNat≤p2.n.toNat by omega) (by omega),← HU.out,tx_list]
         go_wp2_with fail
         refine (etext_any _ _).mono ?_
         rintro e w5 ⟨rfl,hb⟩
         have HD5:=qq (HD4.out.old hb)
         have HM5:=qq (HM4.out.old hb)
         have HX5:=qq (HX4.out.old hb)
         clear hsl
         clear hb HD4 HM4 HX4  
         obtain ⟨cX0,cX1,cX2,cX3,cX4,zX0,zX1,zX2,zX3,zX4,hltX⟩:=HX5.out.fiv
         go_wp2_with fail
         refine dend0 (P:=bodyPost _ _ _ _ _) HD5.out HM5.out HX5.out (by omega) _ _ _ _ _ ?_
         clear cX0 cX1 cX2 cX3 cX4 zX0 zX1 zX2 zX3 zX4 HD5 HM5 HX5 
         intro w9 hd9 hm9 cX0 cX1 cX2 cX3 cX4
         refine bodyPost_ret (v:=.tuple #[.agg #[.int .i64 1,.int .i64 0,.string (u.extract p1.n.toNat p2.n.toNat),.int .i64 0,.int .i64 0],.int .i64 0]) (by simp [results,Tryz.results96,go_sem,cX0,cX1,cX2,cX3,cX4]) rfl ⟨tv ((p0.s.take p2.n.toNat).drop p1.n.toNat),0,S1,n1,ov1,by rw [HE.out];rfl,by rw [HBD.out];obtain ⟨rfl,rfl,rfl⟩:=HAA.out;exact Ans.ok (by rw [bnd_ok HXX.out];exact cut_ok HC.out _ _) rfl,hd9,hm9⟩
theorem deed_words {d:Nat} (HD:DoC (ev d) d):DeedC d 18 98:=by
 intro w0 A c E b l S n ov w k r hcx hd hg hkl ho hrn hx hd24
 have HBD:Hid (body (ev d) (nd l k) (l.drop (k+1)) S n=bnd (prt (ev d) [1] (l.drop (k+1))) (af 18) S n):=by show _=_;exact congrFun (congrFun (body_prt ho (by decide) (by decide) (by decide) (by decide) (by decide) (by decide)) S) n
 have HP:=qq (pre_any HD [1] (by decide) (by decide) (by decide) hcx hd hg hkl hx (by decide) hd24)
 clear hcx hd hg ho hrn hx hd24 HD
 go_enter Tryz.func98,Tryz.ntmps98
 go_wp2_with fail
 refine (HP.out).mono ?_
 rintro e w3 ⟨p0,p1,p2,x,S1,n1,ov1,rfl,ha,r0,r1,r2,hgd,hd3,hm3,hx3⟩
 have HA:=qq ha;have R0:=qq r0;have R1:=qq r1;have R2:=qq r2;have HG:=qq hgd;have HD3:=qq hd3;have HM3:=qq hm3;have HX3:=qq hx3
 have hlZ:=hx3.blk.lt
 clear ha r0 r1 r2 hgd hd3 hm3 hx3 HP
 have h0:=(rt_all R0.out).2.1
 have HST:=qq (stretch_any (tx p0.s) (by rw [tx_size];omega))
 rw [tx_list] at HST
 have HS:=qq (fun u (h:u.size≤4096)=>stretch_any u (by omega))
 go_wp2_with fail
 refine (HST.out _).mono ?_
 rintro e w4 ⟨rfl,hb⟩
 have HD4:=qq ((HD3.out.old (box1 _ (.cells #[.int .i64 p0.k,.int .i64 p0.n,.string (tx p0.s),.int .i64 p0.x,.int .i64 p0.y,.int .i64 p1.k,.int .i64 p1.n,.string (tx p1.s),.int .i64 p1.x,.int .i64 p1.y,.int .i64 p2.k,.int .i64 p2.n,.string (tx p2.s),.int .i64 p2.x,.int .i64 p2.y] 137))).old hb)
 have HM4:=qq ((HM3.out.old (box1 _ (.cells #[.int .i64 p0.k,.int .i64 p0.n,.string (tx p0.s),.int .i64 p0.x,.int .i64 p0.y,.int .i64 p1.k,.int .i64 p1.n,.string (tx p1.s),.int .i64 p1.x,.int .i64 p1.y,.int .i64 p2.k,.int .i64 p2.n,.string (tx p2.s),.int .i64 p2.x,.int .i64 p2.y] 137))).old hb)
 have HX4:=qq ((HX3.out.old (box1 _ (.cells #[.int .i64 p0.k,.int .i64 p0.n,.string (tx p0.s),.int .i64 p0.x,.int .i64 p0.y,.int .i64 p1.k,.int .i64 p1.n,.string (tx p1.s),.int .i64 p1.x,.int .i64 p1.y,.int .i64 p2.k,.int .i64 p2.n,.string (tx p2.s),.int .i64 p2.x,.int .i64 p2.y] 137))).old hb)
 have HP4:Hid (Box w0 b E ov1 (w3.heap.size) [.int .i64 p0.k,.int .i64 p0.n,.string (tx p0.s),.int .i64 p0.x,.int .i64 p0.y,.int .i64 p1.k,.int .i64 p1.n,.string (tx p1.s),.int .i64 p1.x,.int .i64 p1.y,.int .i64 p2.k,.int .i64 p2.n,.string (tx p2.s),.int .i64 p2.x,.int .i64 p2.y] w4):=by
  have h:=Box.made HD3.out (by omega) 137 [.int .i64 p0.k,.int .i64 p0.n,.string (tx p0.s),.int .i64 p0.x,.int .i64 p0.y,.int .i64 p1.k,.int .i64 p1.n,.string (tx p1.s),.int .i64 p1.x,.int .i64 p1.y,.int .i64 p2.k,.int .i64 p2.n,.string (tx p2.s),.int .i64 p2.x,.int .i64 p2.y]
  exact (h).old hb
 clear hb HD3 HM3 HX3  
 clear HST
 go_wp2_with fail
 go_loopw [8,9,10] (fun i u t wr=>∃ (j:Nat) (cur:List UInt8),i=.int .i64 (j:Int)∧u=.string (tx (st cur))∧t=.string (tx (bh cur))∧j+(wds cur).length=(wds p0.s).length∧j+cur.length≤4096∧Doer w0 A c E b l S1 n1 ov1 wr∧Mv b ov w ov1 wr∧Box w0 b E ov1 w.heap.size zz wr) (fun _ u t _=>strSz u+strSz t)
 case atStart=>exact ⟨0,p0.s,rfl,rfl,rfl,by omega,by omega,HD4.out,HM4.out,HX4.out⟩
 case round =>
  clear HD4 HM4 HX4 HP4
  obtain ⟨j,cur,rfl,rfl,rfl,hw,hj,hd,hm,hx⟩:=hrel
  have HD5:=qq hd;have HM5:=qq hm;have HX5:=qq hx;have HW:=qq hw
  clear hd hm hx hw
  have hlb:=bh_le cur
  have hs1:=size_tx (st cur);have hs2:=size_tx (bh cur)
  by_cases hn:st cur=[]
  · have HN:=qq hn
    rw [hn]
    have he:(tx ([]:List UInt8)).toList.isEmpty=true:=by rw [ByteArray.toList_eq,tx_list];rfl
    have HJ:Hid (j=(wds p0.s).length):=by show _=_;have:=HW.out;rw [wds_nil hn] at this;simpa using this
    clear hn HW
    go_wp2_with fail
    refine (enumber_any _ _).mono ?_
    rintro e w6 ⟨rfl,hb⟩
    have HD6:=qq (HD5.out.old hb)
    have HM6:=qq (HM5.out.old hb)
    have HX6:=qq (HX5.out.old hb)
    clear hb HD5 HM5 HX5  
    obtain ⟨cX0,cX1,cX2,cX3,cX4,zX0,zX1,zX2,zX3,zX4,hltX⟩:=HX6.out.fiv
    go_wp2_with fail
    refine dend0 (P:=bodyPost _ _ _ _ _) HD6.out HM6.out HX6.out (by omega) _ _ _ _ _ ?_
    clear cX0 cX1 cX2 cX3 cX4 zX0 zX1 zX2 zX3 zX4 HD6 HM6 HX6 
    intro w9 hd9 hm9 cX0 cX1 cX2 cX3 cX4
    refine bodyPost_ret (v:=.tuple #[.agg #[.int .i64 0,.int .i64 ((j:Int)),.string ⟨#[]⟩,.int .i64 0,.int .i64 0],.int .i64 x]) (by simp [results,Tryz.results98,go_sem,cX0,cX1,cX2,cX3,cX4]) rfl ⟨nv j,x,S1,n1,ov1,rfl,by rw [HBD.out];exact HA.out.bnd fun h0 a ha _=>by obtain ⟨rfl,rfl,rfl⟩:=ha;exact ⟨_,rfl,by rw [HJ.out]⟩,hd9,hm9⟩
  · skip
    have hpos:0<(st cur).length:=List.length_pos_iff.2 hn
    obtain ⟨u,hu⟩:∃ u,tx (st cur)=u:=⟨_,rfl⟩
    rw [hu] at hs1 ⊢
    have he:u.toList.isEmpty=false:=by simpa using Va.full_of (s:=u) (by omega)
    have HR:Hid (j+1+(wds (bh cur)).length=(wds p0.s).length):=by show _=_;have:=HW.out;rw [wds_cons hn,List.length_cons] at this;omega
    have HSS:=qq (HS.out (tx (bh cur)) (by omega))
    rw [tx_list] at HSS
    clear hu hn HW
    go_wp2_with fail
    refine (HSS.out _).mono ?_
    rintro e w6 ⟨rfl,hb⟩
    have HD6:=qq (HD5.out.old hb)
    have HM6:=qq (HM5.out.old hb)
    have HX6:=qq (HX5.out.old hb)
    clear hb HD5 HM5 HX5  
    have hl2:=bh_le (bh cur)
    have hs3:=size_tx (st (bh cur));have hs4:=size_tx (bh (bh cur))
    go_wp2_with fail
    go_roundw
    case rel=>exact ⟨j+1,bh cur,by go_num,rfl,rfl,HR.out,by omega,HD6.out,HM6.out,HX6.out⟩
    case measure=>simp [strSz];omega
theorem deed_word {d:Nat} (HD:DoC (ev d) d):DeedC d 17 97:=by
 intro w0 A c E b l S n ov w k r hcx hd hg hkl ho hrn hx hd24
 have HBD:Hid (body (ev d) (nd l k) (l.drop (k+1)) S n=bnd (prt (ev d) [1,0] (l.drop (k+1))) (af 17) S n):=by show _=_;exact congrFun (congrFun (body_prt ho (by decide) (by decide) (by decide) (by decide) (by decide) (by decide)) S) n
 have HP:=qq (pre_any HD [1,0] (by decide) (by decide) (by decide) hcx hd hg hkl hx (by decide) hd24)
 clear hcx hd hg ho hrn hx hd24 HD
 go_enter Tryz.func97,Tryz.ntmps97
 go_wp2_with fail
 refine (HP.out).mono ?_
 rintro e w3 ⟨p0,p1,p2,x,S1,n1,ov1,rfl,ha,r0,r1,r2,hgd,hd3,hm3,hx3⟩
 have HA:=qq ha;have R0:=qq r0;have R1:=qq r1;have R2:=qq r2;have HG:=qq hgd;have HD3:=qq hd3;have HM3:=qq hm3;have HX3:=qq hx3
 have hlZ:=hx3.blk.lt
 clear ha r0 r1 r2 hgd hd3 hm3 hx3 HP
 rcases HA.out.cases with ⟨hx0,hX⟩ | ⟨rfl,a,ha,hX⟩
 · have HX0:=qq hx0;have HXX:=qq hX
   have hx1:(x == 0)=false:=by simpa using hx0
   have hx2:(x != 0)=true:=by simpa using hx0
   clear hx0 hX HA
   obtain ⟨cX0,cX1,cX2,cX3,cX4,zX0,zX1,zX2,zX3,zX4,hltX⟩:=HX3.out.fiv
   go_wp2_with fail
   refine denda (P:=bodyPost _ _ _ _ _) HD3.out HM3.out HX3.out (by omega) _ _ _ _ _ ?_
   clear cX0 cX1 cX2 cX3 cX4 zX0 zX1 zX2 zX3 zX4 HD3 HM3 HX3 
   intro w9 hd9 hm9 cX0 cX1 cX2 cX3 cX4
   refine bodyPost_ret (v:=.tuple #[.agg zz,.int .i64 x]) (by simp [results,Tryz.results97,go_sem,cX0,cX1,cX2,cX3,cX4]) rfl ⟨vz,x,S1,n1,ov1,rfl,by rw [HBD.out];exact Ans.er (bnd_er HXX.out) rfl HX0.out,hd9,hm9⟩
 · have HXX:=qq hX;have HAA:=qq ha;have HGD:=qq (HG.out rfl)
   clear hX ha HA HG
   have h0:=(rt_all R0.out).2.1;have h1:=(rt_all R1.out).1
   obtain ⟨h11,h12⟩:=h1
   have HST:=qq (stretch_any (tx p0.s) (by rw [tx_size];omega))
   rw [tx_list] at HST
   have HS:=qq (fun u (h:u.size≤4096)=>stretch_any u (by omega))
   go_wp2_with fail
   refine (HST.out _).mono ?_
   rintro e w4 ⟨rfl,hb⟩
   have HD4:=qq ((HD3.out.old (box1 _ (.cells #[.int .i64 p0.k,.int .i64 p0.n,.string (tx p0.s),.int .i64 p0.x,.int .i64 p0.y,.int .i64 p1.k,.int .i64 p1.n,.string (tx p1.s),.int .i64 p1.x,.int .i64 p1.y,.int .i64 p2.k,.int .i64 p2.n,.string (tx p2.s),.int .i64 p2.x,.int .i64 p2.y] 137))).old hb)
   have HM4:=qq ((HM3.out.old (box1 _ (.cells #[.int .i64 p0.k,.int .i64 p0.n,.string (tx p0.s),.int .i64 p0.x,.int .i64 p0.y,.int .i64 p1.k,.int .i64 p1.n,.string (tx p1.s),.int .i64 p1.x,.int .i64 p1.y,.int .i64 p2.k,.int .i64 p2.n,.string (tx p2.s),.int .i64 p2.x,.int .i64 p2.y] 137))).old hb)
   have HX4:=qq ((HX3.out.old (box1 _ (.cells #[.int .i64 p0.k,.int .i64 p0.n,.string (tx p0.s),.int .i64 p0.x,.int .i64 p0.y,.int .i64 p1.k,.int .i64 p1.n,.string (tx p1.s),.int .i64 p1.x,.int .i64 p1.y,.int .i64 p2.k,.int .i64 p2.n,.string (tx p2.s),.int .i64 p2.x,.int .i64 p2.y] 137))).old hb)
   have HP4:Hid (Box w0 b E ov1 (w3.heap.size) [.int .i64 p0.k,.int .i64 p0.n,.string (tx p0.s),.int .i64 p0.x,.int .i64 p0.y,.int .i64 p1.k,.int .i64 p1.n,.string (tx p1.s),.int .i64 p1.x,.int .i64 p1.y,.int .i64 p2.k,.int .i64 p2.n,.string (tx p2.s),.int .i64 p2.x,.int .i64 p2.y] w4):=by
    have h:=Box.made HD3.out (by omega) 137 [.int .i64 p0.k,.int .i64 p0.n,.string (tx p0.s),.int .i64 p0.x,.int .i64 p0.y,.int .i64 p1.k,.int .i64 p1.n,.string (tx p1.s),.int .i64 p1.x,.int .i64 p1.y,.int .i64 p2.k,.int .i64 p2.n,.string (tx p2.s),.int .i64 p2.x,.int .i64 p2.y]
    exact (h).old hb
   clear hb HD3 HM3 HX3  
   clear HST
   go_wp2_with fail
   go_loopw [8,9,10] (fun i u t wr=>∃ (y:Int) (cur:List UInt8),i=.int .i64 y∧u=.string (tx (st cur))∧t=.string (tx (bh cur))∧wdN p0.s p1.n=wdN cur y∧cur.length≤4096∧p1.n - (4096 - cur.length)≤y∧y≤p1.n∧Doer w0 A c E b l S1 n1 ov1 wr∧Mv b ov w ov1 wr∧Box w0 b E ov1 w.heap.size zz wr) (fun _ u t _=>strSz u+strSz t)
   case atStart=>exact ⟨p1.n,p0.s,rfl,rfl,rfl,rfl,h0,by omega,by omega,HD4.out,HM4.out,HX4.out⟩
   case round =>
    clear HD4 HM4 HX4 HP4
    obtain ⟨y,cur,rfl,rfl,rfl,hw,hj,hy1,hy2,hd,hm,hx⟩:=hrel
    have HD5:=qq hd;have HM5:=qq hm;have HX5:=qq hx;have HW:=qq hw
    clear hd hm hx hw
    have hlb:=bh_le cur
    have hs1:=size_tx (st cur);have hs2:=size_tx (bh cur)
    by_cases hn:st cur=[]
    · have HJ:Hid (wdN p0.s p1.n=.inl 14):=by show _=_;rw [HW.out,wdN_nil hn]
      rw [hn]
      have he:(tx ([]:List UInt8)).toList.isEmpty=true:=by rw [ByteArray.toList_eq,tx_list];rfl
      clear hn HW
      generalize wr=w5 at *
      obtain ⟨cX0,cX1,cX2,cX3,cX4,zX0,zX1,zX2,zX3,zX4,hltX⟩:=HX5.out.fiv
      go_wp2_with fail
      refine dend0 (P:=bodyPost _ _ _ _ _) HD5.out HM5.out HX5.out (by omega) _ _ _ _ _ ?_
      clear cX0 cX1 cX2 cX3 cX4 zX0 zX1 zX2 zX3 zX4 HD5 HM5 HX5 
      intro w9 hd9 hm9 cX0 cX1 cX2 cX3 cX4
      refine bodyPost_ret (v:=.tuple #[.agg zz,.int .i64 14]) (by simp [results,Tryz.results97,go_sem,cX0,cX1,cX2,cX3,cX4]) rfl ⟨vz,14,S1,n1,ov1,rfl,by rw [HBD.out];obtain ⟨rfl,rfl,rfl⟩:=HAA.out;exact Ans.er (by rw [bnd_ok HXX.out];exact (by rw [word_af,HJ.out];rfl)) rfl (by decide),hd9,hm9⟩
    · skip
      have hpos:0<(st cur).length:=List.length_pos_iff.2 hn
      obtain ⟨u,hu⟩:∃ u,tx (st cur)=u:=⟨_,rfl⟩
      rw [hu] at hs1 ⊢
      have HU:=qq hu
      have he:u.toList.isEmpty=false:=by simpa using Va.full_of (s:=u) (by omega)
      clear hu
      by_cases hz:y=0
      · subst hz
        have HJ:Hid (wdN p0.s p1.n=.inr (tv (st cur))):=by show _=_;rw [HW.out,wdN_zero hn]
        clear hn HW
        go_wp2_with fail
        refine (etext_any _ _).mono ?_
        rintro e w6 ⟨rfl,hb⟩
        have HD6:=qq (HD5.out.old hb)
        have HM6:=qq (HM5.out.old hb)
        have HX6:=qq (HX5.out.old hb)
        clear hb HD5 HM5 HX5  
        obtain ⟨cX0,cX1,cX2,cX3,cX4,zX0,zX1,zX2,zX3,zX4,hltX⟩:=HX6.out.fiv
        go_wp2_with fail
        refine dend0 (P:=bodyPost _ _ _ _ _) HD6.out HM6.out HX6.out (by omega) _ _ _ _ _ ?_
        clear cX0 cX1 cX2 cX3 cX4 zX0 zX1 zX2 zX3 zX4 HD6 HM6 HX6 
        intro w9 hd9 hm9 cX0 cX1 cX2 cX3 cX4
        refine bodyPost_ret (v:=.tuple #[.agg #[.int .i64 1,.int .i64 0,.string (u),.int .i64 0,.int .i64 0],.int .i64 0]) (by simp [results,Tryz.results97,go_sem,cX0,cX1,cX2,cX3,cX4]) rfl ⟨tv (st cur),0,S1,n1,ov1,by rw [← HU.out];rfl,by rw [HBD.out];obtain ⟨rfl,rfl,rfl⟩:=HAA.out;exact Ans.ok (by rw [bnd_ok HXX.out];exact (by rw [word_af,HJ.out];rfl)) rfl,hd9,hm9⟩
      · have hz1:(y == 0)=false:=by simpa using hz
        have HR:Hid (wdN p0.s p1.n=wdN (bh cur) (y - 1)):=by show _=_;rw [HW.out,wdN_more hn hz]
        have HSS:=qq (HS.out (tx (bh cur)) (by omega))
        rw [tx_list] at HSS
        clear hn HW hz HU
        go_wp2_with fail
        refine (HSS.out _).mono ?_
        rintro e w6 ⟨rfl,hb⟩
        have HD6:=qq (HD5.out.old hb)
        have HM6:=qq (HM5.out.old hb)
        have HX6:=qq (HX5.out.old hb)
        clear hb HD5 HM5 HX5  
        have hl2:=bh_le (bh cur)
        have hs3:=size_tx (st (bh cur));have hs4:=size_tx (bh (bh cur))
        go_wp2_with fail
        go_roundw
        case rel=>exact ⟨y - 1,bh cur,by go_num,rfl,rfl,HR.out,by omega,by omega,by omega,HD6.out,HM6.out,HX6.out⟩
        case measure=>simp [strSz];omega
end Go.Proofs.YtgakcpcpfkoaiaaGreatDoor.Ev

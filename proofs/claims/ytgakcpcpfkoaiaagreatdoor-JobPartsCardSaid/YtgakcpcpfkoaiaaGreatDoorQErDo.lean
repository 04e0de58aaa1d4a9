/-
  A text of this claim: ErDo.
-/
import Derived.Test.YtgakcpcpfkoaiaaGreatDoorQ1
import Derived.Test.YtgakcpcpfkoaiaaGreatDoorQ7
import Derived.Test.YtgakcpcpfkoaiaaGreatDoorQ6
import Derived.Test.YtgakcpcpfkoaiaaGreatDoorQExRefW
import Derived.Deep.Cut
set_option maxHeartbeats 4000000
set_option maxRecDepth 100000
namespace Go.Proofs.YtgakcpcpfkoaiaaGreatDoor.Ev
open Go.ChangeShapes Go.WideShapes Go.ChangeAt Go.RowKit Ov Va Ga Ex
def MoC (f:List No→M Va) (d:Nat):Prop:=∀ (w0:World) (A:Option Addr) (c E b:Nat) (l:List No) (S:St) (n:Nat) (ov:Value) (w:World) (k:Nat) (r:List No),
 Cx w0 A l→Mac w0 A c E b l S n 0 ov w→Gd S n→ex d (l.drop k)=some r→d≤25 →
 Calls Tryz.prog 61 #[.pointer (some ⟨b,0,none⟩),.int .i64 (k:Int)] w (Rn (f (l.drop k) S n) w0 A c E b l ov w)
def MdC (d:Nat) (o:Int):Prop:=∀ (w0:World) (A:Option Addr) (c E b:Nat) (l:List No) (S:St) (n:Nat) (ov:Value) (w:World) (k:Nat) (r:List No),
 Cx w0 A l→Mac w0 A c E b l S (n+1) 0 ov w→Gd S (n+1)→k<l.length→(nd l k).o=o→rn (nd l k)=true→it (ex d) (pa o) (l.drop (k+1))=some r→d≤24 →
 Calls Tryz.prog 61 #[.pointer (some ⟨b,0,none⟩),.int .i64 (k:Int)] w (Rn (body (ev d) (nd l k) (l.drop (k+1)) S n) w0 A c E b l ov w)
theorem mdo_pre {w0:World} {A:Option Addr} {c E b n:Nat} {l:List No} {S:St} {ov:Value} {w:World} (hd:Mac w0 A c E b l S (n+1) 0 ov w) (hl:0<l.length) :
 ∃ w1,(w.setCell ⟨b,20,none⟩ (.int .i64 (n:Int))).alloc (.cells zz 28)=w1∧Mac w0 A c E b l S n 0 ov w1∧Mv b ov w ov w1∧Box w0 b E ov w.heap.size zz w1∧w1.heap.size=w.heap.size+1:=by
 have h1:Mac w0 A c E b l S n 0 ov (w.setCell ⟨b,20,none⟩ (.int .i64 (n:Int))):=hd.putb 20 _ rfl rfl
 have hx:=Box.makeM h1 hl 28 zz
 rw [World.size_setCell] at hx
 exact ⟨_,rfl,h1.old (box1 _ _),(Mv.refl.putb 20 _).old (box1 _ _),hx,by rw [World.size_alloc,World.size_setCell]⟩
theorem gd_less {S:St} {n:Nat} (h:Gd S (n+1)):Gd S n:=⟨h.key,h.val,h.acc,h.i,h.it,h.out,by have:=h.fuel;omega⟩
theorem md_value {d:Nat}:MdC d 0:=by
 intro w0 A c E b l S n ov w k r hcx hd hg hkl ho hrn hx hd24
 have hl:=hcx.len
 have hn5:=hg.fuel
 have hl0:Hid (0<l.length):=show 0<l.length by omega
 obtain ⟨B,O,hA⟩:=hcx.nds.shape (by omega)
 have HCX:=qq hcx
 have HA0:=qq hA
 have e21:w.cell? ⟨b,21,none⟩=some (.int .i64 0):=hd.blk.c 21 _ rfl
 have e20:w.cell? ⟨b,20,none⟩=some (.int .i64 ((n:Int)+1)):=hd.blk.c 20 _ rfl
 have f20:=hd.blk.f 20 _ rfl
 have hltb:=hd.lt
 obtain ⟨w1,hw1,hd1,hm1,hbX,hsz⟩:=mdo_pre hd hl0.out
 have hnw:=hcx.nds.next hd1.fro
 rw [hA] at hnw
 obtain ⟨vk,vn,vs,vx,vy,hv⟩:∃ vk vn vs vx vy,(nd l k).v=⟨vk,vn,vs,vx,vy⟩:=⟨_,_,_,_,_,rfl⟩
 obtain ⟨nd1,hnd⟩:∃ N,nd l k=N:=⟨_,rfl⟩
 have j0:w1.cell? ⟨B,O+k * 6,none⟩=some (.int .i64 0):=by
  have h:=hnw.cell hkl 0 _ rfl
  rw [ho] at h;exact h
 have j1:w1.cell? ⟨B,O+k * 6+1,none⟩=some (.int .i64 vk):=by
  have h:=hnw.cell hkl 1 _ rfl
  rw [hv] at h;exact h
 have j2:w1.cell? ⟨B,O+k * 6+2,none⟩=some (.int .i64 vn):=by
  have h:=hnw.cell hkl 2 _ rfl
  rw [hv] at h;exact h
 have j3:w1.cell? ⟨B,O+k * 6+3,none⟩=some (.string (tx vs)):=by
  have h:=hnw.cell hkl 3 _ rfl
  rw [hv] at h;exact h
 have j4:w1.cell? ⟨B,O+k * 6+4,none⟩=some (.int .i64 vx):=by
  have h:=hnw.cell hkl 4 _ rfl
  rw [hv] at h;exact h
 have j5:w1.cell? ⟨B,O+k * 6+5,none⟩=some (.int .i64 vy):=by
  have h:=hnw.cell hkl 5 _ rfl
  rw [hv] at h;exact h
 have hBl:B<w1.heap.size:=block_lt_of_cell j0
 have i0:w1.cell? ⟨b,0,none⟩=some (.slice (some ⟨B,O,none⟩) l.length c):=by rw [← hA];exact hd1.blk.c 0 _ rfl
 have HD1:=qq hd1;have HM1:=qq hm1;have HX1:=qq hbX;have HW1:=qq hw1;have HSZ:=qq hsz;have HG:=qq (gd_less hg);have HO:=qq ho;have HR:=qq hrn;have HV:=qq hv;have HK:=qq hkl
 clear hcx hd hg ho hrn hv hw1 hd1 hm1 hbX hsz hnw hnd hA
 go_enter Tryz.func61,Tryz.ntmps61
 go_upto_region 6 with fail
 rw [HW1.out]
 clear e21 e20 f20 HW1
 have hbN:=Box.makeM HD1.out hl0.out 46 [.int .i64 0,.int .i64 vk,.int .i64 vn,.string (tx vs),.int .i64 vx,.int .i64 vy]
 have hb:=box1 w1 (.cells #[.int .i64 0,.int .i64 vk,.int .i64 vn,.string (tx vs),.int .i64 vx,.int .i64 vy] 46)
 obtain ⟨w2,hw2⟩:∃ w2,w1.alloc (.cells #[.int .i64 0,.int .i64 vk,.int .i64 vn,.string (tx vs),.int .i64 vx,.int .i64 vy] 46)=w2:=⟨_,rfl⟩
 rw [show w1.alloc (.cells [.int .i64 0,.int .i64 vk,.int .i64 vn,.string (tx vs),.int .i64 vx,.int .i64 vy].toArray 46)=w2 from hw2] at hbN
 rw [hw2] at hb
 have HW2:=qq hw2;have HN2:=qq hbN
 clear hw2 hbN
 have HD2:=qq (HD1.out.old hb)
 have HM2:=qq (HM1.out.old hb)
 have HX2:=qq (HX1.out.old hb)
 clear hb HD1 HM1 HX1  
 have HRES:Hid (body (ev d) (nd l k) (l.drop (k+1)) S n=.ok ⟨vk,vn,vs,vx,vy⟩ S n):=by show _=_;unfold body;rw [if_pos HO.out,HV.out];rfl
 go_upto_region 8 with fail
 rw [HW2.out]
 clear HW2 j0 j1 j2 j3 j4 j5 i0 hBl
 obtain ⟨qN0,qN1,qN2,qN3,qN4,qN5⟩:=ck6 HN2.out.blk
 obtain ⟨cX0,cX1,cX2,cX3,cX4,zX0,zX1,zX2,zX3,zX4,hltX⟩:=HX2.out.five
 go_wp2_with fail
 refine mend (P:=bodyPost _ _ _ _ _) HD2.out HM2.out HX2.out (by omega) _ _ _ _ _ ?_
 clear HD2 HM2 HX2 HN2 qN0 qN1 qN2 qN3 qN4 qN5 cX0 cX1 cX2 cX3 cX4 zX0 zX1 zX2 zX3 zX4
 intro w9 hd9 hm9 c0 c1 c2 c3 c4
 refine bodyPost_ret (v:=.agg #[.int .i64 vk,.int .i64 vn,.string (tx vs),.int .i64 vx,.int .i64 vy]) (by simp [results,Tryz.results61,go_sem,c0,c1,c2,c3,c4]) rfl ⟨⟨vk,vn,vs,vx,vy⟩,0,S,n,ov,rfl,Ans.ok HRES.out rfl,fun h=>absurd rfl h,hd9,hm9⟩
theorem md_name {d:Nat}:MdC d 1:=by
 intro w0 A c E b l S n ov w k r hcx hd hg hkl ho hrn hx hd24
 have hl:=hcx.len
 have hn5:=hg.fuel
 have hl0:Hid (0<l.length):=show 0<l.length by omega
 obtain ⟨B,O,hA⟩:=hcx.nds.shape (by omega)
 have HCX:=qq hcx
 have HA0:=qq hA
 have e21:w.cell? ⟨b,21,none⟩=some (.int .i64 0):=hd.blk.c 21 _ rfl
 have e20:w.cell? ⟨b,20,none⟩=some (.int .i64 ((n:Int)+1)):=hd.blk.c 20 _ rfl
 have f20:=hd.blk.f 20 _ rfl
 have hltb:=hd.lt
 obtain ⟨w1,hw1,hd1,hm1,hbX,hsz⟩:=mdo_pre hd hl0.out
 have hnw:=hcx.nds.next hd1.fro
 rw [hA] at hnw
 obtain ⟨vk,vn,vs,vx,vy,hv⟩:∃ vk vn vs vx vy,(nd l k).v=⟨vk,vn,vs,vx,vy⟩:=⟨_,_,_,_,_,rfl⟩
 obtain ⟨nd1,hnd⟩:∃ N,nd l k=N:=⟨_,rfl⟩
 have j0:w1.cell? ⟨B,O+k * 6,none⟩=some (.int .i64 1):=by
  have h:=hnw.cell hkl 0 _ rfl
  rw [ho] at h;exact h
 have j1:w1.cell? ⟨B,O+k * 6+1,none⟩=some (.int .i64 vk):=by
  have h:=hnw.cell hkl 1 _ rfl
  rw [hv] at h;exact h
 have j2:w1.cell? ⟨B,O+k * 6+2,none⟩=some (.int .i64 vn):=by
  have h:=hnw.cell hkl 2 _ rfl
  rw [hv] at h;exact h
 have j3:w1.cell? ⟨B,O+k * 6+3,none⟩=some (.string (tx vs)):=by
  have h:=hnw.cell hkl 3 _ rfl
  rw [hv] at h;exact h
 have j4:w1.cell? ⟨B,O+k * 6+4,none⟩=some (.int .i64 vx):=by
  have h:=hnw.cell hkl 4 _ rfl
  rw [hv] at h;exact h
 have j5:w1.cell? ⟨B,O+k * 6+5,none⟩=some (.int .i64 vy):=by
  have h:=hnw.cell hkl 5 _ rfl
  rw [hv] at h;exact h
 have hBl:B<w1.heap.size:=block_lt_of_cell j0
 have i0:w1.cell? ⟨b,0,none⟩=some (.slice (some ⟨B,O,none⟩) l.length c):=by rw [← hA];exact hd1.blk.c 0 _ rfl
 have HD1:=qq hd1;have HM1:=qq hm1;have HX1:=qq hbX;have HW1:=qq hw1;have HSZ:=qq hsz;have HG:=qq (gd_less hg);have HO:=qq ho;have HR:=qq hrn;have HV:=qq hv;have HK:=qq hkl
 clear hcx hd hg ho hrn hv hw1 hd1 hm1 hbX hsz hnw hnd hA
 go_enter Tryz.func61,Tryz.ntmps61
 go_upto_region 6 with fail
 rw [HW1.out]
 clear e21 e20 f20 HW1
 have hbN:=Box.makeM HD1.out hl0.out 46 [.int .i64 1,.int .i64 vk,.int .i64 vn,.string (tx vs),.int .i64 vx,.int .i64 vy]
 have hb:=box1 w1 (.cells #[.int .i64 1,.int .i64 vk,.int .i64 vn,.string (tx vs),.int .i64 vx,.int .i64 vy] 46)
 obtain ⟨w2,hw2⟩:∃ w2,w1.alloc (.cells #[.int .i64 1,.int .i64 vk,.int .i64 vn,.string (tx vs),.int .i64 vx,.int .i64 vy] 46)=w2:=⟨_,rfl⟩
 rw [show w1.alloc (.cells [.int .i64 1,.int .i64 vk,.int .i64 vn,.string (tx vs),.int .i64 vx,.int .i64 vy].toArray 46)=w2 from hw2] at hbN
 rw [hw2] at hb
 have HW2:=qq hw2;have HN2:=qq hbN
 clear hw2 hbN
 have HD2:=qq (HD1.out.old hb)
 have HM2:=qq (HM1.out.old hb)
 have HX2:=qq (HX1.out.old hb)
 clear hb HD1 HM1 HX1  
 have hvn:vn=0∨vn=1∨vn=2∨vn=3∨vn=4:=by
  rcases rn_cases HR.out with ⟨g,_⟩ | ⟨_,g⟩ | ⟨g,_⟩
  · rw [HO.out] at g;omega
  · rw [HV.out] at g;have g2:=g;simp only [] at g2;omega
  · rw [HO.out] at g;omega
 have HRES:Hid (body (ev d) (nd l k) (l.drop (k+1)) S n=nmd vn S n):=by show _=_;unfold body;rw [if_neg (by rw [HO.out];decide),if_pos HO.out,HV.out]
 rcases hvn with rfl | rfl | rfl | rfl | rfl
 · skip
   go_upto_region 12 with fail
   rw [HW2.out]
   clear HW2 j0 j1 j2 j3 j4 j5 i0 hBl
   obtain ⟨qN0,qN1,qN2,qN3,qN4,qN5⟩:=ck6 HN2.out.blk
   have m2:w2.cell? ⟨b,2,none⟩=some (.string (tx S.key)):=HD2.out.blk.c 2 _ rfl
   have hltb2:=HD2.out.lt
   go_wp2_with fail
   refine (mtext_any _ _).mono ?_
   rintro e w3 ⟨rfl,hb⟩
   have HD3:=qq (HD2.out.old hb)
   have HM3:=qq (HM2.out.old hb)
   have HX3:=qq (HX2.out.old hb)
   have HN3:=qq (HN2.out.old hb)
   clear hb HD2 HM2 HX2 HN2 qN0 qN1 qN2 qN3 qN4 qN5 m2 
   obtain ⟨cX0,cX1,cX2,cX3,cX4,zX0,zX1,zX2,zX3,zX4,hltX⟩:=HX3.out.five
   go_wp2_with fail
   refine mend (P:=bodyPost _ _ _ _ _) HD3.out HM3.out HX3.out (by omega) _ _ _ _ _ ?_
   clear HD3 HM3 HX3 HN3 cX0 cX1 cX2 cX3 cX4 zX0 zX1 zX2 zX3 zX4
   intro w9 hd9 hm9 c0 c1 c2 c3 c4
   refine bodyPost_ret (v:=.agg #[.int .i64 1,.int .i64 0,.string (tx S.key),.int .i64 0,.int .i64 0]) (by simp [results,Tryz.results61,go_sem,c0,c1,c2,c3,c4]) rfl ⟨tv S.key,0,S,n,ov,rfl,Ans.ok (by rw [HRES.out];rfl) rfl,fun h=>absurd rfl h,hd9,hm9⟩
 · skip
   go_upto_region 14 with fail
   rw [HW2.out]
   clear HW2 j0 j1 j2 j3 j4 j5 i0 hBl
   obtain ⟨qN0,qN1,qN2,qN3,qN4,qN5⟩:=ck6 HN2.out.blk
   have m3:w2.cell? ⟨b,3,none⟩=some (.int .i64 S.val.k):=HD2.out.blk.c 3 _ rfl
   have m4:w2.cell? ⟨b,4,none⟩=some (.int .i64 S.val.n):=HD2.out.blk.c 4 _ rfl
   have m5:w2.cell? ⟨b,5,none⟩=some (.string (tx S.val.s)):=HD2.out.blk.c 5 _ rfl
   have m6:w2.cell? ⟨b,6,none⟩=some (.int .i64 S.val.x):=HD2.out.blk.c 6 _ rfl
   have m7:w2.cell? ⟨b,7,none⟩=some (.int .i64 S.val.y):=HD2.out.blk.c 7 _ rfl
   have hltb2:=HD2.out.lt
   obtain ⟨cX0,cX1,cX2,cX3,cX4,zX0,zX1,zX2,zX3,zX4,hltX⟩:=HX2.out.five
   go_wp2_with fail
   refine mend (P:=bodyPost _ _ _ _ _) HD2.out HM2.out HX2.out (by omega) _ _ _ _ _ ?_
   clear HD2 HM2 HX2 HN2 qN0 qN1 qN2 qN3 qN4 qN5 m3 m4 m5 m6 m7 cX0 cX1 cX2 cX3 cX4 zX0 zX1 zX2 zX3 zX4
   intro w9 hd9 hm9 c0 c1 c2 c3 c4
   refine bodyPost_ret (v:=.agg #[.int .i64 S.val.k,.int .i64 S.val.n,.string (tx S.val.s),.int .i64 S.val.x,.int .i64 S.val.y]) (by simp [results,Tryz.results61,go_sem,c0,c1,c2,c3,c4]) rfl ⟨S.val,0,S,n,ov,rfl,Ans.ok (by rw [HRES.out];rfl) rfl,fun h=>absurd rfl h,hd9,hm9⟩
 · skip
   go_upto_region 16 with fail
   rw [HW2.out]
   clear HW2 j0 j1 j2 j3 j4 j5 i0 hBl
   obtain ⟨qN0,qN1,qN2,qN3,qN4,qN5⟩:=ck6 HN2.out.blk
   have m8:w2.cell? ⟨b,8,none⟩=some (.int .i64 S.acc.k):=HD2.out.blk.c 8 _ rfl
   have m9:w2.cell? ⟨b,9,none⟩=some (.int .i64 S.acc.n):=HD2.out.blk.c 9 _ rfl
   have m10:w2.cell? ⟨b,10,none⟩=some (.string (tx S.acc.s)):=HD2.out.blk.c 10 _ rfl
   have m11:w2.cell? ⟨b,11,none⟩=some (.int .i64 S.acc.x):=HD2.out.blk.c 11 _ rfl
   have m12:w2.cell? ⟨b,12,none⟩=some (.int .i64 S.acc.y):=HD2.out.blk.c 12 _ rfl
   have hltb2:=HD2.out.lt
   obtain ⟨cX0,cX1,cX2,cX3,cX4,zX0,zX1,zX2,zX3,zX4,hltX⟩:=HX2.out.five
   go_wp2_with fail
   refine mend (P:=bodyPost _ _ _ _ _) HD2.out HM2.out HX2.out (by omega) _ _ _ _ _ ?_
   clear HD2 HM2 HX2 HN2 qN0 qN1 qN2 qN3 qN4 qN5 m8 m9 m10 m11 m12 cX0 cX1 cX2 cX3 cX4 zX0 zX1 zX2 zX3 zX4
   intro w9 hd9 hm9 c0 c1 c2 c3 c4
   refine bodyPost_ret (v:=.agg #[.int .i64 S.acc.k,.int .i64 S.acc.n,.string (tx S.acc.s),.int .i64 S.acc.x,.int .i64 S.acc.y]) (by simp [results,Tryz.results61,go_sem,c0,c1,c2,c3,c4]) rfl ⟨S.acc,0,S,n,ov,rfl,Ans.ok (by rw [HRES.out];rfl) rfl,fun h=>absurd rfl h,hd9,hm9⟩
 · skip
   go_upto_region 18 with fail
   rw [HW2.out]
   clear HW2 j0 j1 j2 j3 j4 j5 i0 hBl
   obtain ⟨qN0,qN1,qN2,qN3,qN4,qN5⟩:=ck6 HN2.out.blk
   have m13:w2.cell? ⟨b,13,none⟩=some (.int .i64 S.i):=HD2.out.blk.c 13 _ rfl
   have hltb2:=HD2.out.lt
   go_wp2_with fail
   refine (mnum_any _ _).mono ?_
   rintro e w3 ⟨rfl,hb⟩
   have HD3:=qq (HD2.out.old hb)
   have HM3:=qq (HM2.out.old hb)
   have HX3:=qq (HX2.out.old hb)
   have HN3:=qq (HN2.out.old hb)
   clear hb HD2 HM2 HX2 HN2 qN0 qN1 qN2 qN3 qN4 qN5 m13 
   obtain ⟨cX0,cX1,cX2,cX3,cX4,zX0,zX1,zX2,zX3,zX4,hltX⟩:=HX3.out.five
   go_wp2_with fail
   refine mend (P:=bodyPost _ _ _ _ _) HD3.out HM3.out HX3.out (by omega) _ _ _ _ _ ?_
   clear HD3 HM3 HX3 HN3 cX0 cX1 cX2 cX3 cX4 zX0 zX1 zX2 zX3 zX4
   intro w9 hd9 hm9 c0 c1 c2 c3 c4
   refine bodyPost_ret (v:=.agg #[.int .i64 0,.int .i64 (S.i),.string ⟨#[]⟩,.int .i64 0,.int .i64 0]) (by simp [results,Tryz.results61,go_sem,c0,c1,c2,c3,c4]) rfl ⟨nv S.i,0,S,n,ov,rfl,Ans.ok (by rw [HRES.out];rfl) rfl,fun h=>absurd rfl h,hd9,hm9⟩
 · skip
   go_upto_region 19 with fail
   rw [HW2.out]
   clear HW2 j0 j1 j2 j3 j4 j5 i0 hBl
   obtain ⟨qN0,qN1,qN2,qN3,qN4,qN5⟩:=ck6 HN2.out.blk
   have m14:w2.cell? ⟨b,14,none⟩=some (.int .i64 S.it.k):=HD2.out.blk.c 14 _ rfl
   have m15:w2.cell? ⟨b,15,none⟩=some (.int .i64 S.it.n):=HD2.out.blk.c 15 _ rfl
   have m16:w2.cell? ⟨b,16,none⟩=some (.string (tx S.it.s)):=HD2.out.blk.c 16 _ rfl
   have m17:w2.cell? ⟨b,17,none⟩=some (.int .i64 S.it.x):=HD2.out.blk.c 17 _ rfl
   have m18:w2.cell? ⟨b,18,none⟩=some (.int .i64 S.it.y):=HD2.out.blk.c 18 _ rfl
   have hltb2:=HD2.out.lt
   obtain ⟨cX0,cX1,cX2,cX3,cX4,zX0,zX1,zX2,zX3,zX4,hltX⟩:=HX2.out.five
   go_wp2_with fail
   refine mend (P:=bodyPost _ _ _ _ _) HD2.out HM2.out HX2.out (by omega) _ _ _ _ _ ?_
   clear HD2 HM2 HX2 HN2 qN0 qN1 qN2 qN3 qN4 qN5 m14 m15 m16 m17 m18 cX0 cX1 cX2 cX3 cX4 zX0 zX1 zX2 zX3 zX4
   intro w9 hd9 hm9 c0 c1 c2 c3 c4
   refine bodyPost_ret (v:=.agg #[.int .i64 S.it.k,.int .i64 S.it.n,.string (tx S.it.s),.int .i64 S.it.x,.int .i64 S.it.y]) (by simp [results,Tryz.results61,go_sem,c0,c1,c2,c3,c4]) rfl ⟨S.it,0,S,n,ov,rfl,Ans.ok (by rw [HRES.out];rfl) rfl,fun h=>absurd rfl h,hd9,hm9⟩
end Go.Proofs.YtgakcpcpfkoaiaaGreatDoor.Ev

/-
  Small texts of this claim, together: GaCommon, JoFold, GaRef, GaRef2, GaRef3, CrMore, CrSeal, CrRef, ErWds, ErWords.
-/
import Derived.Test.YtgakcpcpfkoaiaaGreatDoorQ3
import Derived.Test.YtgakcpcpfkoaiaaGreatDoorQ1
import Derived.Test.YtgakcpcpfkoaiaaGreatDoorQ2
import Derived.Test.YtgakcpcpfkoaiaaGreatDoorQCrTable
set_option maxHeartbeats 2000000
set_option maxRecDepth 100000
namespace Go.Proofs.YtgakcpcpfkoaiaaGreatDoor.Ga
open Go.ChangeShapes Go.WideShapes Go.ChangeAt Go.RowKit Ov
theorem common_bad (x y u v:Int) (h:(rb ⟨x,y⟩ && rb ⟨u,v⟩)=false) (w:World):Calls Tryz.prog 40 #[.agg #[.int .i64 x,.int .i64 y],.agg #[.int .i64 u,.int .i64 v]] w (Gives (.tuple #[.agg #[.int .i64 0,.int .i64 0],.int .i64 14]) w):=by
 have HR:=qq (both_any x y u v);rw [h] at HR;clear h
 go_enter Tryz.func40,Tryz.ntmps40
 go_wp2_with fail
 refine wp_scope_once 0 (fun _ _=>False) (fun _ _=>0) rfl (fun NX=>?_) (fun _ _ h=>h.elim)
 clear NX
 go_wp2_with fail
 refine (HR.out _).mono ?_
 rintro e w1 ⟨rfl,hb⟩
 obtain ⟨h2,d2,d3,d4⟩:=boxes3 26 (.int .i64 x) (.int .i64 y) (.int .i64 u) (.int .i64 v) (.int .i64 0) (.int .i64 0) w
 have HB:=qq (Below.next h2 hb)
 have hz:=(d4.next hb).lt
 obtain ⟨e0,e1,g0,g1⟩:=d4.next hb
 clear hb h2 d2 d3 d4
 go_wp2_with fail
 simp only [Exit.jump]
 refine bodyPost_ret (v:=.tuple #[.agg #[.int .i64 0,.int .i64 0],.int .i64 14]) (by simp [results,Tryz.results40,go_sem,e0,e1]) rfl ⟨rfl,?_⟩
 exact below_put2 HB.out (c:=w.heap.size+1+1) (by omega) _ _
def JG (x y u v:Int) (w:World) (a':Act) (w':World):Prop:=∃ (p q r s:Int) (u6 u7 u8 u9 u10 u11 u12 u13 u14 u15 u16 u17 u18 u19 u20 u21 u22 u23 u24 u25:Value),
 rb ⟨p,q⟩=true∧rb ⟨r,s⟩=true∧Pt.cg ⟨p,q⟩ ⟨r,s⟩=Pt.cg ⟨x,y⟩ ⟨u,v⟩∧Duo w' w.heap.size (.int .i64 p) (.int .i64 q)∧Duo w' (w.heap.size+1) (.int .i64 r) (.int .i64 s)∧Duo w' (w.heap.size+1+1) (.int .i64 0) (.int .i64 0)∧Below w.heap.size w w' ∧
 a'={ tmps:=#[.agg #[.int .i64 x,.int .i64 y],.agg #[.int .i64 u,.int .i64 v],.pointer (some ⟨w.heap.size,0,none⟩),.pointer (some ⟨w.heap.size+1,0,none⟩),.pointer (some ⟨w.heap.size+1+1,0,none⟩),.int .i64 0,u6,u7,u8,u9,u10,u11,u12,u13,u14,u15,u16,u17,u18,u19,u20,u21,u22,u23,u24,u25],defers:=[] }
def muG (w:World) (_:Act) (w':World):Nat:=(Pt.norm ⟨cellInt w' (w.heap.size+1) 0,cellInt w' (w.heap.size+1) 1⟩).toNat
theorem common_yes {x y u v:Int} (ha:rb ⟨x,y⟩=true) (hb:rb ⟨u,v⟩=true) (w:World):Calls Tryz.prog 40 #[.agg #[.int .i64 x,.int .i64 y],.agg #[.int .i64 u,.int .i64 v]] w
 (Gives (.tuple #[.agg #[.int .i64 (Pt.cg ⟨x,y⟩ ⟨u,v⟩).x,.int .i64 (Pt.cg ⟨x,y⟩ ⟨u,v⟩).y],.int .i64 0]) w):=by
 have HR:=qq (both_any x y u v);rw [ha,hb] at HR
 have HA:=qq ha;have HH:=qq hb;clear ha hb
 go_enter Tryz.func40,Tryz.ntmps40
 go_wp2_with fail
 refine wp_scope_once 0 (JG x y u v w) (muG w) rfl (fun NX=>?_) ?_
 · go_wp2_with fail
   refine (HR.out _).mono ?_
   rintro e w1 ⟨rfl,hb⟩
   obtain ⟨h2,d2,d3,d4⟩:=boxes3 26 (.int .i64 x) (.int .i64 y) (.int .i64 u) (.int .i64 v) (.int .i64 0) (.int .i64 0) w
   have HB:=qq (Below.next h2 hb)
   have D2:=qq (d2.next hb);have D3:=qq (d3.next hb);have D4:=qq (d4.next hb)
   clear hb h2 d2 d3 d4
   go_wp2_with fail
   go_step3
   rename_i hK
   exact hK _ _ (NX.out _ _ ⟨x,y,u,v,_,_,_,_,_,_,_,_,_,_,_,_,_,_,_,_,_,_,_,_,HA.out,HH.out,rfl,D2.out,D3.out,D4.out,HB.out,rfl⟩)
 · rintro a' w' ⟨p,q,r,s,u6,u7,u8,u9,u10,u11,u12,u13,u14,u15,u16,u17,u18,u19,u20,u21,u22,u23,u24,u25,ha,hb,hg,d2,d3,d4,hbl,rfl⟩
   have HP:=qq ha;have HQ:=qq hb;have HG:=qq hg;have D2:=qq d2;have D3:=qq d3;have D4:=qq d4;have HB:=qq hbl
   obtain ⟨a0,a1,f2,f3⟩:=d2
   obtain ⟨b0,b1,f4,f5⟩:=d3
   have HM:Hid (muG w { tmps:=#[.agg #[.int .i64 x,.int .i64 y],.agg #[.int .i64 u,.int .i64 v],.pointer (some ⟨w.heap.size,0,none⟩),.pointer (some ⟨w.heap.size+1,0,none⟩),.pointer (some ⟨w.heap.size+1+1,0,none⟩),.int .i64 0,u6,u7,u8,u9,u10,u11,u12,u13,u14,u15,u16,u17,u18,u19,u20,u21,u22,u23,u24,u25],defers:=[] } w'=(Pt.norm ⟨r,s⟩).toNat):=by
    show muG _ _ _=_
    unfold muG;rw [cellInt_of b0,cellInt_of b1]
   clear ha hb hg d4 hbl
   by_cases h0:(⟨r,s⟩:Pt)=Pt.zero
   · have HC:Hid (Pt.cg ⟨x,y⟩ ⟨u,v⟩=Pt.fs ⟨p,q⟩):=by
      show _=_
      rw [← HG.out,h0,Pt.cg_zero]
     have hr:(r == 0)=true:=by injection h0 with h1 h2;exact beq_iff_eq.2 h1
     have hs:(s == 0)=true:=by injection h0 with h1 h2;exact beq_iff_eq.2 h2
     clear h0
     rw [HC.out]
     have HF:=qq (first_any HP.out)
     generalize (Pt.fs ⟨p,q⟩).x=fx at *
     generalize (Pt.fs ⟨p,q⟩).y=fy at *
     go_wp2_with fail
     refine (HF.out _).mono ?_
     rintro e w2 ⟨rfl,hb⟩
     have HB2:=qq (HB.out.trans (hb.mono HB.out.size))
     have hz:=(D4.out.next hb).lt
     obtain ⟨e0,e1,g0,g1⟩:=D4.out.next hb
     clear hb a0 a1 b0 b1
     go_wp2_with fail
     simp only [Exit.jump]
     refine bodyPost_ret (v:=.tuple #[.agg #[.int .i64 fx,.int .i64 fy],.int .i64 0]) (by simp [results,Tryz.results40,go_sem,e0,e1]) rfl ⟨rfl,?_⟩
     exact below_put2 HB2.out (c:=w.heap.size+1+1) (by omega) _ _
   · have HC:Hid (Pt.cg ⟨r,s⟩ (Pt.rest ⟨p,q⟩ ⟨r,s⟩)=Pt.cg ⟨x,y⟩ ⟨u,v⟩):=by
      show _=_
      rw [← HG.out,Pt.cg_rest _ h0]
     have HL:=qq (Pt.rest_lt ⟨p,q⟩ h0)
     have HN:=qq (Pt.rest_right (a:=⟨p,q⟩) HQ.out h0)
     have HD:=qq (divide_any HP.out HQ.out h0)
     have hne:=not_zero h0
     clear h0
     obtain ⟨t,ht⟩:∃ t,Pt.rest ⟨p,q⟩ ⟨r,s⟩=t:=⟨_,rfl⟩
     rw [ht] at HC HL HN HD
     obtain ⟨tx,ty⟩:=t
     have HD2:Hid (∀ w,Calls Tryz.prog 69 #[.agg #[.int .i64 p,.int .i64 q],.agg #[.int .i64 r,.int .i64 s]] w
      (Gives (.tuple #[.agg #[.int .i64 (Pt.quo ⟨p,q⟩ ⟨r,s⟩).x,.int .i64 (Pt.quo ⟨p,q⟩ ⟨r,s⟩).y],.agg #[.int .i64 tx,.int .i64 ty]]) w)):=HD
     clear HD ht
     generalize (Pt.quo ⟨p,q⟩ ⟨r,s⟩).x=qx at *
     generalize (Pt.quo ⟨p,q⟩ ⟨r,s⟩).y=qy at *
     rcases hne with hr | ⟨hr,hs⟩
     all_goals
      go_wp2_with fail
      refine (HD2.out _).mono ?_
      rintro e w2 ⟨rfl,hb⟩
      obtain ⟨k2,o6,o7⟩:=boxes2 26 (.int .i64 qx) (.int .i64 qy) (.int .i64 tx) (.int .i64 ty) w2
      have HB2:=qq ((HB.out.trans (hb.mono HB.out.size)).trans (k2.mono (HB.out.trans (hb.mono HB.out.size)).size))
      have F2:=qq ((D2.out.next hb).next k2)
      have F3:=qq ((D3.out.next hb).next k2)
      have F4:=qq ((D4.out.next hb).next k2)
      have O7:=qq o7
      have hg:w.heap.size+1+1<w2.heap.size:=(D4.out.next hb).lt
      clear hb a0 a1 b0 b1 f2 f3 f4 f5 k2 o6 o7
      go_wp2_with fail
      generalize (w2.alloc (.cells #[.int .i64 qx,.int .i64 qy] 26)).alloc (.cells #[.int .i64 tx,.int .i64 ty] 26)=w3 at *
      have n1:¬ w.heap.size=w2.heap.size+1:=by omega
      have n2:¬ w.heap.size+1=w2.heap.size+1:=by omega
      have n3:¬ w2.heap.size+1=w.heap.size:=by omega
      have n4:¬ w2.heap.size+1=w.heap.size+1:=by omega
      clear hg
      generalize w2.heap.size+1=g at *
      obtain ⟨a0,a1,_,_⟩:=O7.out
      obtain ⟨b0,b1,g0,g1⟩:=F2.out
      obtain ⟨c0,c1,i0,i1⟩:=F3.out
      have hz:=F4.out.lt
      have HX:=qq (((F2.out.set (.int .i64 r) (.int .i64 s)).put2 (c:=w.heap.size+1) (by omega) (.int .i64 tx) (.int .i64 ty)).drew)
      have HY:=qq (((F3.out.put2 (c:=w.heap.size) (by omega) (.int .i64 r) (.int .i64 s)).set (.int .i64 tx) (.int .i64 ty)).drew)
      have HZ:=qq (((F4.out.put2 (c:=w.heap.size) (by omega) (.int .i64 r) (.int .i64 s)).put2 (c:=w.heap.size+1) (by omega) (.int .i64 tx) (.int .i64 ty)).drew)
      have HW:=qq (below_put2 (below_put2 HB2.out (c:=w.heap.size) (by omega) (.int .i64 r) (.int .i64 s)) (c:=w.heap.size+1) (by omega) (.int .i64 tx) (.int .i64 ty)).drew
      go_region
      go_wp2_with fail
      go_step3
      refine ⟨rfl,⟨r,s,tx,ty,_,_,_,_,_,_,_,_,_,_,_,_,_,_,_,_,_,_,_,_,HQ.out,HN.out,HC.out,HX.out,HY.out,HZ.out,HW.out,rfl⟩,?_⟩
      refine Nat.lt_of_lt_of_eq ?_ HM.out.symm
      unfold muG
      rw [cellInt_of HY.out.c0,cellInt_of HY.out.c1]
      exact HL.out
end Go.Proofs.YtgakcpcpfkoaiaaGreatDoor.Ga
namespace Go.Proofs.YtgakcpcpfkoaiaaGreatDoor.Jo
open Go.ChangeShapes Go.WideShapes Go.ChangeAt Go.RowKit Ov Ga Va
theorem five {w:World} {b:Nat} {x0 x1 x2 x3 x4:Value} (h:Blk w b [x0,x1,x2,x3,x4]):w.cell? ⟨b,0,none⟩=some x0∧w.cell? ⟨b,1,none⟩=some x1∧w.cell? ⟨b,2,none⟩=some x2∧w.cell? ⟨b,3,none⟩=some x3∧w.cell? ⟨b,4,none⟩=some x4:=⟨h.c 0 _ rfl,h.c 1 _ rfl,h.c 2 _ rfl,h.c 3 _ rfl,h.c 4 _ rfl⟩
theorem thaw {w:World} {b:Nat} {x0 x1 x2 x3 x4:Value} (h:Blk w b [x0,x1,x2,x3,x4]):w.frozen? ⟨b,0,none⟩=false∧w.frozen? ⟨b,1,none⟩=false∧w.frozen? ⟨b,2,none⟩=false∧w.frozen? ⟨b,3,none⟩=false∧w.frozen? ⟨b,4,none⟩=false:=⟨h.f 0 _ rfl,h.f 1 _ rfl,h.f 2 _ rfl,h.f 3 _ rfl,h.f 4 _ rfl⟩
theorem fin5 {P:World→Prop} {lo:Nat} {W w:World} {b:Nat} {x0 x1 x2 x3 x4:Value} (h:Blk w b [x0,x1,x2,x3,x4]) (hb:Below lo W w) (hlo:lo≤b) (a0 a1 a2 a3 a4:Value)
 (k:∀ w',Blk w' b [a0,a1,a2,a3,a4]→Below lo W w'→(∀ c ys,c ≠ b→Blk w c ys→Blk w' c ys)→P w'):P (((((w.setCell ⟨b,0,none⟩ a0).setCell ⟨b,1,none⟩ a1).setCell ⟨b,2,none⟩ a2).setCell ⟨b,3,none⟩ a3).setCell ⟨b,4,none⟩ a4) :=
 k _ (((((h.set 0 a0).set 1 a1).set 2 a2).set 3 a3).set 4 a4) (((((hb.setCell hlo _).setCell hlo _).setCell hlo _).setCell hlo _).setCell hlo _) fun _ _ hc g=>((((g.put (Ne.symm hc) 0 a0).put (Ne.symm hc) 1 a1).put (Ne.symm hc) 2 a2).put (Ne.symm hc) 3 a3).put (Ne.symm hc) 4 a4
theorem fin2 {P:World→Prop} {lo:Nat} {W w:World} {b:Nat} {x0 x1:Value} (h:Duo w b x0 x1) (hb:Below lo W w) (hlo:lo≤b) (a0 a1:Value)
 (k:∀ w',Duo w' b a0 a1→Below lo W w'→P w'):P ((w.setCell ⟨b,0,none⟩ a0).setCell ⟨b,1,none⟩ a1):=k _ (h.set a0 a1) ((hb.setCell hlo _).setCell hlo _)
theorem two_boxes (w:World) (t:TypeId) (xs ys zs:List Value):Blk (((w.alloc (.cells xs.toArray t)).alloc (.cells ys.toArray t)).alloc (.cells zs.toArray t)) w.heap.size xs ∧
 Blk (((w.alloc (.cells xs.toArray t)).alloc (.cells ys.toArray t)).alloc (.cells zs.toArray t)) (w.heap.size+1) ys∧Blk (((w.alloc (.cells xs.toArray t)).alloc (.cells ys.toArray t)).alloc (.cells zs.toArray t)) (w.heap.size+1+1) zs ∧
 Below w.heap.size w (((w.alloc (.cells xs.toArray t)).alloc (.cells ys.toArray t)).alloc (.cells zs.toArray t)) :=
 ⟨((Blk.made w t xs rfl).old _).old _,(Blk.made _ t ys (World.size_alloc _ _)).old _,Blk.made _ t zs (by simp [World.size_alloc]),box3 _ _ _ _⟩
theorem choose_b (c:ByteArray) (k n x y k' n' x' y':Int) (s s':ByteArray) (hs:s'.size≤281474976710656) (w:World) (h:(decide (ord ⟨k,n,s.data.toList,x,y⟩ ⟨k',n',s'.data.toList,x',y'⟩<0) == (c.toList == [109,97,120]))=true) :
 Calls Tryz.prog 14 #[.string c,.agg #[.int .i64 k,.int .i64 n,.string s,.int .i64 x,.int .i64 y],.agg #[.int .i64 k',.int .i64 n',.string s',.int .i64 x',.int .i64 y']] w (Gives (.agg #[.int .i64 k',.int .i64 n',.string s',.int .i64 x',.int .i64 y']) w):=by
 have HO:=qq (order_val k n x y k' n' x' y' s s')
 have HC:=qq (fun w1=>clone_any s' w1 hs)
 generalize ord ⟨k,n,s.data.toList,x,y⟩ ⟨k',n',s'.data.toList,x',y'⟩=o at *
 obtain ⟨D1,D2,D3,hb0⟩:=two_boxes w 28 [.int .i64 k,.int .i64 n,.string s,.int .i64 x,.int .i64 y] [.int .i64 k',.int .i64 n',.string s',.int .i64 x',.int .i64 y'] [.int .i64 0,.int .i64 0,.string ⟨#[]⟩,.int .i64 0,.int .i64 0]
 have H1:=qq D1;have H2:=qq D2;have H3:=qq D3;have HB:=qq hb0;clear D1 D2 D3 hb0
 go_enter Tryz.func14,Tryz.ntmps14
 go_wp2_with fail
 refine (HO.out _).mono ?_
 rintro e w1 ⟨rfl,hb⟩
 replace H1:=qq (H1.out.next hb);replace H2:=qq (H2.out.next hb);replace H3:=qq (H3.out.next hb);replace HB:=qq (Below.next HB.out hb);clear hb
 obtain ⟨c0,c1,c2,c3,c4⟩:=five H2.out
 obtain ⟨f0,f1,f2,f3,f4⟩:=thaw H1.out
 obtain ⟨e0,e1,e2,e3,e4⟩:=five H1.out
 go_wp2_with fail
 clear c0 c1 c2 c3 c4 f0 f1 f2 f3 f4 e0 e1 e2 e3 e4
 refine fin5 (P:=fun W=>Calls Tryz.prog _ _ W _) H1.out HB.out (Nat.le_refl _) _ _ _ _ _ fun w2 hx hy ho=>?_
 replace H3:=qq (ho _ _ (by omega) H3.out);replace H1:=qq hx;replace HB:=qq hy;clear hx hy ho H2
 refine (HC.out _).mono ?_
 rintro e w3 ⟨rfl,hb⟩
 replace H1:=qq (H1.out.next hb);replace H3:=qq (H3.out.next hb);replace HB:=qq (Below.next HB.out hb);clear hb
 obtain ⟨c0,c1,c2,c3,c4⟩:=five H1.out
 obtain ⟨f0,f1,f2,f3,f4⟩:=thaw H3.out
 obtain ⟨e0,e1,e2,e3,e4⟩:=five H3.out
 have g2:=H1.out.f 2 _ rfl
 go_wp2_with fail
 have h3:=H3.out.put (show w.heap.size ≠ w.heap.size+1+1 by omega) 2 (.string s')
 have hb3:=HB.out.setCell (p:=⟨w.heap.size,2,none⟩) (Nat.le_refl _) (.string s')
 clear c0 c1 c2 c3 c4 f0 f1 f2 f3 f4 e0 e1 e2 e3 e4 g2
 refine fin5 (P:=bodyPost _ _ _ _ _) h3 hb3 (by omega) _ _ _ _ _ fun w4 hx hy _=>?_
 obtain ⟨c0,c1,c2,c3,c4⟩:=five hx
 exact bodyPost_ret (v:=.agg #[.int .i64 k',.int .i64 n',.string s',.int .i64 x',.int .i64 y']) (by simp [results,Tryz.results14,go_sem,c0,c1,c2,c3,c4]) rfl ⟨rfl,hy⟩
theorem choose_a (c:ByteArray) (k n x y k' n' x' y':Int) (s s':ByteArray) (hs:s.size≤281474976710656) (w:World) (h:(decide (ord ⟨k,n,s.data.toList,x,y⟩ ⟨k',n',s'.data.toList,x',y'⟩<0) == (c.toList == [109,97,120]))=false) :
 Calls Tryz.prog 14 #[.string c,.agg #[.int .i64 k,.int .i64 n,.string s,.int .i64 x,.int .i64 y],.agg #[.int .i64 k',.int .i64 n',.string s',.int .i64 x',.int .i64 y']] w (Gives (.agg #[.int .i64 k,.int .i64 n,.string s,.int .i64 x,.int .i64 y]) w):=by
 have HO:=qq (order_val k n x y k' n' x' y' s s')
 have HC:=qq (fun w1=>clone_any s w1 hs)
 generalize ord ⟨k,n,s.data.toList,x,y⟩ ⟨k',n',s'.data.toList,x',y'⟩=o at *
 obtain ⟨D1,D2,D3,hb0⟩:=two_boxes w 28 [.int .i64 k,.int .i64 n,.string s,.int .i64 x,.int .i64 y] [.int .i64 k',.int .i64 n',.string s',.int .i64 x',.int .i64 y'] [.int .i64 0,.int .i64 0,.string ⟨#[]⟩,.int .i64 0,.int .i64 0]
 have H1:=qq D1;have H2:=qq D2;have H3:=qq D3;have HB:=qq hb0;clear D1 D2 D3 hb0
 go_enter Tryz.func14,Tryz.ntmps14
 go_wp2_with fail
 refine (HO.out _).mono ?_
 rintro e w1 ⟨rfl,hb⟩
 replace H1:=qq (H1.out.next hb);replace H2:=qq (H2.out.next hb);replace H3:=qq (H3.out.next hb);replace HB:=qq (Below.next HB.out hb);clear hb
 obtain ⟨c0,c1,c2,c3,c4⟩:=five H1.out
 go_wp2_with fail
 clear c0 c1 c2 c3 c4
 refine (HC.out _).mono ?_
 rintro e w3 ⟨rfl,hb⟩
 replace H1:=qq (H1.out.next hb);replace H2:=qq (H2.out.next hb);replace H3:=qq (H3.out.next hb);replace HB:=qq (Below.next HB.out hb);clear hb
 obtain ⟨c0,c1,c2,c3,c4⟩:=five H1.out
 obtain ⟨f0,f1,f2,f3,f4⟩:=thaw H3.out
 obtain ⟨e0,e1,e2,e3,e4⟩:=five H3.out
 have g2:=H1.out.f 2 _ rfl
 go_wp2_with fail
 have h3:=H3.out.put (show w.heap.size ≠ w.heap.size+1+1 by omega) 2 (.string s)
 have hb3:=HB.out.setCell (p:=⟨w.heap.size,2,none⟩) (Nat.le_refl _) (.string s)
 clear c0 c1 c2 c3 c4 f0 f1 f2 f3 f4 e0 e1 e2 e3 e4 g2
 refine fin5 (P:=bodyPost _ _ _ _ _) h3 hb3 (by omega) _ _ _ _ _ fun w4 hx hy _=>?_
 obtain ⟨c0,c1,c2,c3,c4⟩:=five hx
 exact bodyPost_ret (v:=.agg #[.int .i64 k,.int .i64 n,.string s,.int .i64 x,.int .i64 y]) (by simp [results,Tryz.results14,go_sem,c0,c1,c2,c3,c4]) rfl ⟨rfl,hy⟩
theorem sum_text (c:ByteArray):(c.toList == [115,117,109])=decide (c.data.toList=wSum):=by
 rw [ByteArray.toList_eq,Bool.eq_iff_iff,beq_iff_eq,decide_eq_true_iff];rfl
theorem numbers_any (c:ByteArray) (a b:Int) (ha:-9007199254740992≤a∧a≤9007199254740992) (hb:-9007199254740992≤b∧b≤9007199254740992) (w:World) :
 Calls Tryz.prog 15 #[.string c,.int .i64 a,.int .i64 b] w (Gives (.int .i64 (if c.data.toList=wSum then rg (a+b) 9007199254740992 else (Int.gcd a b:Int))) w):=by
 have hq:=sum_text c
 by_cases h:c.data.toList=wSum
 · rw [if_pos h]
   rw [decide_eq_true h] at hq
   have HC:=qq (fun w=>round_any (a+b) 9007199254740992 (by decide) (by omega) w)
   have h1:wrap64 (a+b)=a+b:=IntWalk.wrap64_in _ (by omega)
   clear h ha hb
   go_enter Tryz.func15,Tryz.ntmps15
   go_wp2_with fail
   refine (HC.out _).mono ?_
   rintro e w1 ⟨rfl,hb⟩
   have HB:=qq hb;clear hb
   go_wp2_with fail
   go_ret
   exact ⟨rfl,HB.out⟩
 · rw [if_neg h]
   rw [decide_eq_false h] at hq
   have HC:=qq (fun w=>common_any a b ha hb w)
   generalize (Int.gcd a b:Int)=g at *
   clear h ha hb
   go_enter Tryz.func15,Tryz.ntmps15
   go_wp2_with fail
   refine (HC.out _).mono ?_
   rintro e w1 ⟨rfl,hb⟩
   have HB:=qq hb;clear hb
   go_wp2_with fail
   go_ret
   exact ⟨rfl,HB.out⟩
theorem spots_sum (c:ByteArray) (x y u v:Int) (hq:(c.toList == [115,117,109])=true) (hx:-16777216≤x∧x≤16777216) (hy:-16777216≤y∧y≤16777216) (hu:-16777216≤u∧u≤16777216) (hv:-16777216≤v∧v≤16777216) (w:World) :
 Calls Tryz.prog 16 #[.string c,.agg #[.int .i64 x,.int .i64 y],.agg #[.int .i64 u,.int .i64 v]] w (Gives (.agg #[.int .i64 (rg (x+u) 16777216),.int .i64 (rg (y+v) 16777216)]) w):=by
 have h1:wrap64 (x+u)=x+u:=IntWalk.wrap64_in _ (by omega)
 have h2:wrap64 (y+v)=y+v:=IntWalk.wrap64_in _ (by omega)
 have HX:=qq (fun w=>round_any (x+u) 16777216 (by decide) (by omega) w)
 have HY:=qq (fun w=>round_any (y+v) 16777216 (by decide) (by omega) w)
 generalize rg (x+u) 16777216=p at *
 generalize rg (y+v) 16777216=q at *
 clear hx hy hu hv
 obtain ⟨kb,o1,o2,o3⟩:=boxes3 26 (.int .i64 x) (.int .i64 y) (.int .i64 u) (.int .i64 v) (.int .i64 0) (.int .i64 0) w
 have HB:=qq kb;have D1:=qq o1;have D2:=qq o2;have D3:=qq o3
 clear kb o1 o2 o3
 go_enter Tryz.func16,Tryz.ntmps16
 go_wp2_with fail
 generalize ((w.alloc (.cells #[.int .i64 x,.int .i64 y] 26)).alloc (.cells #[.int .i64 u,.int .i64 v] 26)).alloc (.cells #[.int .i64 0,.int .i64 0] 26)=v1 at *
 have d0:=fun r:Over v1=>(D1.out.over r).c0
 have d1:=fun r:Over v1=>(D1.out.over r).c1
 have e0:=fun r:Over v1=>(D2.out.over r).c0
 have e1:=fun r:Over v1=>(D2.out.over r).c1
 refine wp_over_tail 13 (by kernel_rfl) (by kernel_rfl) ?_
 simp only [List.take_succ_cons,List.take_zero,List.drop_succ_cons,List.drop_zero]
 repeat (go_big_quiet_step (first | fail | with_reducible exact over_gives _ (HX.out _) | with_reducible exact over_gives _ (HY.out _)))
 refine wpQuiet_nil ?_
 rintro w2 ⟨⟨w2,hb⟩,rfl⟩
 have E3:=D3.out.next hb
 replace HB:=qq (Below.next HB.out hb)
 have hz:=E3.lt
 have K3:=qq E3
 obtain ⟨c0,c1,f0,f1⟩:=E3
 clear hb d0 d1 e0 e1 D1 D2 D3
 go_wp2_with fail
 clear c0 c1 f0 f1
 refine fin2 (P:=bodyPost _ _ _ _ _) K3.out HB.out (by omega) _ _ fun w4 hx hy=>?_
 obtain ⟨c0,c1,_,_⟩:=hx
 exact bodyPost_ret (v:=.agg #[.int .i64 p,.int .i64 q]) (by simp [results,Tryz.results16,go_sem,c0,c1]) rfl ⟨rfl,hy⟩
theorem spots_gcd (c:ByteArray) (x y u v:Int) (hq:(c.toList == [115,117,109])=false) (ha:rb ⟨x,y⟩=true) (hb:rb ⟨u,v⟩=true) (w:World) :
 Calls Tryz.prog 16 #[.string c,.agg #[.int .i64 x,.int .i64 y],.agg #[.int .i64 u,.int .i64 v]] w (Gives (.agg #[.int .i64 (Pt.cg ⟨x,y⟩ ⟨u,v⟩).x,.int .i64 (Pt.cg ⟨x,y⟩ ⟨u,v⟩).y]) w):=by
 have HC:=qq (fun w=>common_yes ha hb w)
 generalize (Pt.cg ⟨x,y⟩ ⟨u,v⟩).x=p at *
 generalize (Pt.cg ⟨x,y⟩ ⟨u,v⟩).y=q at *
 clear ha hb
 obtain ⟨kb,o1,o2,o3⟩:=boxes3 26 (.int .i64 x) (.int .i64 y) (.int .i64 u) (.int .i64 v) (.int .i64 0) (.int .i64 0) w
 have HB:=qq kb;have D1:=qq o1;have D2:=qq o2;have D3:=qq o3
 clear kb o1 o2 o3
 go_enter Tryz.func16,Tryz.ntmps16
 go_wp2_with fail
 generalize ((w.alloc (.cells #[.int .i64 x,.int .i64 y] 26)).alloc (.cells #[.int .i64 u,.int .i64 v] 26)).alloc (.cells #[.int .i64 0,.int .i64 0] 26)=v1 at *
 refine (HC.out _).mono ?_
 rintro e w2 ⟨rfl,hb⟩
 have E3:=D3.out.next hb
 have hz:=E3.lt
 have K3:=qq ((E3.set (.int .i64 p) (.int .i64 q)).old (.cells #[.int .i64 p,.int .i64 q] 26))
 have HB2:=qq ((((Below.next HB.out hb).setCell (p:=⟨w.heap.size+1+1,0,none⟩) (by show _≤w.heap.size+1+1;omega) (.int .i64 p)).setCell (p:=⟨w.heap.size+1+1,1,none⟩) (by show _≤w.heap.size+1+1;omega) (.int .i64 q)).alloc (by simp;have:=HB.out.size;have:=hb.size;omega) (.cells #[.int .i64 p,.int .i64 q] 26))
 obtain ⟨c0,c1,f0,f1⟩:=E3
 clear hb D1 D2 D3 HB
 go_wp2_with fail
 clear c0 c1 f0 f1
 obtain ⟨c0,c1,_,_⟩:=K3.out
 have hy:=HB2.out
 generalize ((w2.setCell ⟨w.heap.size+1+1,0,none⟩ (.int .i64 p)).setCell ⟨w.heap.size+1+1,1,none⟩ (.int .i64 q)).alloc (.cells #[.int .i64 p,.int .i64 q] 26)=w4 at *
 exact bodyPost_ret (v:=.agg #[.int .i64 p,.int .i64 q]) (by simp [results,Tryz.results16,go_sem,c0,c1]) rfl ⟨rfl,hy⟩
end Go.Proofs.YtgakcpcpfkoaiaaGreatDoor.Jo
namespace Go.Proofs.YtgakcpcpfkoaiaaGreatDoor.Ga
open Go.ChangeShapes Go.WideShapes Go.ChangeAt Go.RowKit Ov
theorem boxes1' (t:TypeId) (x1 y1:Value) (w:World):Below w.heap.size w (w.alloc (.cells #[x1,y1] t))∧Duo (w.alloc (.cells #[x1,y1] t)) w.heap.size x1 y1:=⟨box1 w _,Duo.made w t x1 y1⟩
theorem rnorm_any {x y:Int} (h:rb ⟨x,y⟩=true) (w:World):Calls Tryz.prog 72 #[.agg #[.int .i64 x,.int .i64 y]] w (Gives (.int .i64 (x * x+y * y)) w):=by
 obtain ⟨hx,hy⟩:=rb_xy h
 obtain ⟨h1,h2⟩:=mul_big hx hx
 obtain ⟨h3,h4⟩:=mul_big hy hy
 clear hx hy h
 go_enter Tryz.func72,Tryz.ntmps72
 go_wp2_with fail
 go_ret
 exact ⟨rfl,below1 w _⟩
theorem rmul_any {x y u v:Int} (ha:rb ⟨x,y⟩=true) (hb:rb ⟨u,v⟩=true) (w:World):Calls Tryz.prog 71 #[.agg #[.int .i64 x,.int .i64 y],.agg #[.int .i64 u,.int .i64 v]] w
 (Gives (.agg #[.int .i64 (x * u - y * v),.int .i64 (x * v+y * u)]) w):=by
 obtain ⟨hx,hy⟩:=rb_xy ha
 obtain ⟨hu,hv⟩:=rb_xy hb
 obtain ⟨h1,h2⟩:=mul_big hx hu
 obtain ⟨h3,h4⟩:=mul_big hy hv
 obtain ⟨h5,h6⟩:=mul_big hx hv
 obtain ⟨h7,h8⟩:=mul_big hy hu
 clear hx hy hu hv ha hb
 go_enter Tryz.func71,Tryz.ntmps71
 go_wp2_with fail
 refine bodyPost_ret (v:=.agg #[.int .i64 (x * u - y * v),.int .i64 (x * v+y * u)]) (by simp [results,Tryz.results71,go_sem]) rfl ⟨rfl,?_⟩
 exact below3 w _ _ _
theorem rnearest_any {n d:Int} (h1:-1125899906842624≤n) (h2:n≤1125899906842624) (h3:0<d) (h4:d≤1125899906842624) (w:World) :
 Calls Tryz.prog 73 #[.int .i64 n,.int .i64 d] w (Gives (.int .i64 (near n d)) w):=by
 obtain ⟨t1,t2⟩:=tdiv_le (2 * n+d) (2 * d) 4503599627370496 (by omega) (by omega) (by omega)
 have hn:near n d=(2 * n+d) / (2 * d):=rfl
 have hc:=cut_cases (2 * n+d) (2 * d) (by omega)
 have hm:=Int.mul_tdiv_add_tmod (2 * n+d) (2 * d)
 have hl:=Int.tmod_lt_of_pos (2 * n+d) (show 0<2 * d by omega)
 have hg:=Int.lt_tmod_of_pos (2 * n+d) (show 0<2 * d by omega)
 generalize (2 * n+d).tmod (2 * d)=r at *
 obtain ⟨q,hq⟩:∃ q,(2 * n+d).tdiv (2 * d)=q:=⟨_,rfl⟩
 rw [hq] at hc hm t1 t2
 have e1:2 * d * q=q * 2 * d:=by grind
 have e2:q * (2 * d)=q * 2 * d:=by grind
 rw [e1] at hm
 rw [e2] at hc
 have b1:-9007199254740992≤q * 2 * d:=by omega
 have b2:q * 2 * d≤9007199254740992:=by omega
 rcases hc with ⟨c1,c2,c3⟩ | ⟨c1,c2,c3⟩
 · have HE:=qq (hn.trans c2.symm)
   clear hn c2 c1 hm hl hg e1 e2
   go_enter Tryz.func73,Tryz.ntmps73
   go_wp2_with fail
   go_ret
   exact ⟨ret_int (by rw [HE.out]),Below.refl _ _⟩
 · have HE:=qq (hn.trans c2.symm)
   clear hn c2 c1 hm hl hg e1 e2
   go_enter Tryz.func73,Tryz.ntmps73
   go_wp2_with fail
   go_ret
   exact ⟨ret_int (by rw [HE.out]),Below.refl _ _⟩
theorem rdiv_core (x y u v v' z1 z2 n q1 q2 p1 p2 r1 r2:Int) (w:World) (hx:-16777216≤x) (hx':x≤16777216) (hy:-16777216≤y) (hy':y≤16777216) (hv:-16777216≤v) (hv':v≤16777216) (hnv:-v=v')
 (hp1:-562949953421312≤p1) (hp1':p1≤562949953421312) (hp2:-562949953421312≤p2) (hp2':p2≤562949953421312) (hr1:x - p1=r1) (hr2:y - p2=r2)
 (HM1:Hid (∀ w,Calls Tryz.prog 71 #[.agg #[.int .i64 x,.int .i64 y],.agg #[.int .i64 u,.int .i64 v']] w (Gives (.agg #[.int .i64 z1,.int .i64 z2]) w)))
 (HN:Hid (∀ w,Calls Tryz.prog 72 #[.agg #[.int .i64 u,.int .i64 v]] w (Gives (.int .i64 n) w)))
 (HQ1:Hid (∀ w,Calls Tryz.prog 73 #[.int .i64 z1,.int .i64 n] w (Gives (.int .i64 q1) w)))
 (HQ2:Hid (∀ w,Calls Tryz.prog 73 #[.int .i64 z2,.int .i64 n] w (Gives (.int .i64 q2) w)))
 (HM2:Hid (∀ w,Calls Tryz.prog 71 #[.agg #[.int .i64 q1,.int .i64 q2],.agg #[.int .i64 u,.int .i64 v]] w (Gives (.agg #[.int .i64 p1,.int .i64 p2]) w))) :
 Calls Tryz.prog 44 #[.agg #[.int .i64 x,.int .i64 y],.agg #[.int .i64 u,.int .i64 v]] w (Gives (.tuple #[.agg #[.int .i64 q1,.int .i64 q2],.agg #[.int .i64 r1,.int .i64 r2]]) w):=by
 go_enter Tryz.func44,Tryz.ntmps44
 go_wp2_with fail
 obtain ⟨hb,d2,d3,d4,d5⟩:=boxes4 26 (.int .i64 x) (.int .i64 y) (.int .i64 u) (.int .i64 v) (.int .i64 0) (.int .i64 0) (.int .i64 0) (.int .i64 0) w
 generalize (((w.alloc (.cells #[.int .i64 x,.int .i64 y] 26)).alloc (.cells #[.int .i64 u,.int .i64 v] 26)).alloc (.cells #[.int .i64 0,.int .i64 0] 26)).alloc (.cells #[.int .i64 0,.int .i64 0] 26)=w0 at *
 have HB:=qq hb;clear hb
 have D2:=qq d2;have D3:=qq d3;have D4:=qq d4;have D5:=qq d5;clear d2 d3 d4 d5
 refine (HM1.out _).mono ?_
 rintro e w1 ⟨rfl,hb⟩
 obtain ⟨kb,o6⟩:=boxes1' 26 (.int .i64 z1) (.int .i64 z2) w1
 have hg:w.heap.size+1+1+1<w1.heap.size:=(D5.out.next hb).lt
 have HB1:=qq (Below.next (Below.next HB.out hb) kb)
 have E2:=qq ((D2.out.next hb).next kb);have E3:=qq ((D3.out.next hb).next kb);have E4:=qq ((D4.out.next hb).next kb);have E5:=qq ((D5.out.next hb).next kb)
 have E6:=qq o6
 clear hb kb o6 HB D2 D3 D4 D5
 obtain ⟨a0,a1,_,_⟩:=E3.out
 go_wp2_with fail
 generalize w1.alloc (.cells #[.int .i64 z1,.int .i64 z2] 26)=w2 at *
 generalize w1.heap.size=g at *
 clear a0 a1
 refine (HN.out _).mono ?_
 rintro e w3 ⟨rfl,hb⟩
 have HB2:=qq (Below.next HB1.out hb)
 have F2:=qq (E2.out.next hb);have F3:=qq (E3.out.next hb);have F4:=qq (E4.out.next hb);have F5:=qq (E5.out.next hb);have F6:=qq (E6.out.next hb)
 clear hb HB1 E2 E3 E4 E5 E6
 go_wp2_with fail
 refine wp_over_alloc (O:=.cells #[.int .i64 0,.int .i64 0] 26) 9 (by kernel_rfl) (by kernel_rfl) rfl rfl rfl (fun ρ x=>alloc_spot ρ x _ _ _) (by kernel_rfl) ?_
 simp only [List.take_succ_cons,List.take_zero,List.drop_succ_cons,List.drop_zero]
 apply Exists.intro
 apply And.intro
 · intro x0
   have k1:∀ r:Over x0.val,r.val.cell? ⟨g,0,none⟩=some (.int .i64 z1):=fun r=>((F6.out.over x0).over r).c0
   have k2:∀ r:Over x0.val,r.val.cell? ⟨g,1,none⟩=some (.int .i64 z2):=fun r=>((F6.out.over x0).over r).c1
   repeat (go_big_quiet_step (first
    | with_reducible exact over_gives _ (HQ1.out _)
    | with_reducible exact over_gives _ (HQ2.out _)))
   refine wpQuiet_nil ?_
   rfl
 · rintro b w4 HO
   have hb:=HO.1
   have hlo:=HO.2.1
   have l6:=F6.out.lt
   have G8:=qq (HO.duo.set (.int .i64 q1) (.int .i64 q2))
   have l2:=F2.out.lt;have l3:=F3.out.lt;have l4:=F4.out.lt;have l5:=F5.out.lt
   have G2:=qq ((F2.out.next hb).put2 (c:=b) (by omega) (.int .i64 q1) (.int .i64 q2))
   have G3:=qq ((F3.out.next hb).put2 (c:=b) (by omega) (.int .i64 q1) (.int .i64 q2))
   have G4:=qq ((F4.out.next hb).put2 (c:=b) (by omega) (.int .i64 q1) (.int .i64 q2))
   have G5:=qq ((F5.out.next hb).put2 (c:=b) (by omega) (.int .i64 q1) (.int .i64 q2))
   have HB3:=qq (below_put2 (Below.next HB2.out hb) (c:=b) (by have:=HB2.out.size;omega) (.int .i64 q1) (.int .i64 q2))
   obtain ⟨c0,c1,f0,f1⟩:=HO.duo
   have hbl:b<w4.heap.size:=block_lt_of_cell c0
   have ng:Hid (w.heap.size+1+1+1<b):=qq (by omega)
   clear hb HO F2 F3 F4 F5 F6 HB2 hlo l2 l3 l4 l5 l6
   simp only [Act.put,List.setIfInBounds_toArray,List.set_cons_zero,List.set_cons_succ]
   obtain ⟨b0,b1,_,_⟩:=G8.out
   obtain ⟨e0,e1,_,_⟩:=G3.out
   go_wp2_with fail
   generalize ((w4.setCell ⟨b,0,none⟩ (.int .i64 q1)).setCell ⟨b,1,none⟩ (.int .i64 q2))=w5 at *
   clear c0 c1 f0 f1 hbl b0 b1 e0 e1
   refine (HM2.out _).mono ?_
   rintro e w6 ⟨rfl,hb⟩
   obtain ⟨kb,o9⟩:=boxes1' 26 (.int .i64 p1) (.int .i64 p2) w6
   have hg9:b<w6.heap.size:=(G8.out.next hb).lt
   have HB4:=qq (Below.next (Below.next HB3.out hb) kb)
   have I2:=qq ((G2.out.next hb).next kb);have I4:=qq ((G4.out.next hb).next kb);have I5:=qq ((G5.out.next hb).next kb);have I8:=qq ((G8.out.next hb).next kb)
   have I9:=qq o9
   clear hb kb o9 HB3 G2 G3 G4 G5 G8
   go_wp2_with fail
   generalize w6.alloc (.cells #[.int .i64 p1,.int .i64 p2] 26)=w7 at *
   have n1:=ng.out
   have n8:¬ w.heap.size+1+1=b:=by omega
   have n8':¬ b=w.heap.size+1+1:=by omega
   have n9:¬ w.heap.size+1+1=w6.heap.size:=by omega
   have n9':¬ w6.heap.size=w.heap.size+1+1:=by omega
   generalize w6.heap.size=g9 at *
   have hz:=I5.out.lt
   clear n1 hg9 hg
   obtain ⟨a0,a1,_,_⟩:=I2.out
   obtain ⟨b0,b1,_,_⟩:=I8.out
   obtain ⟨c0,c1,_,_⟩:=I9.out
   obtain ⟨e0,e1,g0,g1⟩:=I4.out
   obtain ⟨i0,i1,j0,j1⟩:=I5.out
   go_region
   go_wp2_with fail
   refine bodyPost_ret (v:=.tuple #[.agg #[.int .i64 q1,.int .i64 q2],.agg #[.int .i64 r1,.int .i64 r2]]) (by simp [results,Tryz.results44,go_sem,e0,e1,i0,i1]) rfl ⟨rfl,?_⟩
   exact (below_put2 (below_put2 HB4.out (c:=w.heap.size+1+1) (by omega) _ _) (c:=w.heap.size+1+1+1) (by omega) _ _).drew
theorem rdiv_any {x y u v:Int} (ha:rb ⟨x,y⟩=true) (hb:rb ⟨u,v⟩=true) (h0:(⟨u,v⟩:Pt) ≠ Pt.zero) (w:World) :
 Calls Tryz.prog 44 #[.agg #[.int .i64 x,.int .i64 y],.agg #[.int .i64 u,.int .i64 v]] w
  (Gives (.tuple #[.agg #[.int .i64 (Pt.quo ⟨x,y⟩ ⟨u,v⟩).x,.int .i64 (Pt.quo ⟨x,y⟩ ⟨u,v⟩).y],.agg #[.int .i64 (Pt.rest ⟨x,y⟩ ⟨u,v⟩).x,.int .i64 (Pt.rest ⟨x,y⟩ ⟨u,v⟩).y]]) w):=by
 obtain ⟨hx,hy⟩:=rb_xy ha
 obtain ⟨hu,hv⟩:=rb_xy hb
 have hq:=Pt.quo_right ha h0
 obtain ⟨hp1,hp2⟩:=rb_yes hq
 have hb':rb ⟨u,-v⟩=true:=by unfold rb at *;rw [fb_neg];exact hb
 have hv':=(rb_xy hb').2
 obtain ⟨s1,s1'⟩:=sum_le (mul_big hx hu) (mul_big hy hv')
 obtain ⟨s2,s2'⟩:=sum_le (mul_big hx hv') (mul_big hy hu)
 obtain ⟨s3,s3'⟩:=sum_le (mul_big hp1 hu) (mul_big hp2 hv)
 obtain ⟨s4,s4'⟩:=sum_le (mul_big hp1 hv) (mul_big hp2 hu)
 obtain ⟨s5,s5'⟩:=sum_le (mul_big hu hu) (mul_big hv hv)
 have hn:0<Pt.norm ⟨u,v⟩:=Pt.norm_pos h0
 exact rdiv_core x y u v (-v) (x * u - y * -v) (x * -v+y * u) (u * u+v * v) _ _ _ _ _ _ w hx.1 hx.2 hy.1 hy.2 hv.1 hv.2 rfl s3'.1 s3'.2 s4.1 s4.2 rfl rfl (qq (rmul_any ha hb')) (qq (rnorm_any hb))
  (qq (rnearest_any (n:=x * u - y * -v) (d:=u * u+v * v) (by omega) (by omega) hn (by omega))) (qq (rnearest_any (n:=x * -v+y * u) (d:=u * u+v * v) (by omega) (by omega) hn (by omega))) (qq (rmul_any hq hb))
theorem fs_turn' {a:Pt} (h:¬ (0<a.x∧0≤a.y)):Pt.fs a.turn=Pt.fs a:=by
 by_cases h0:a=Pt.zero
 · subst h0;rfl
 · exact Pt.fs_turn h h0
theorem turns_none {a:Pt} (h:∀ j,j<4→¬ (0<(Pt.turns j a).x∧0≤(Pt.turns j a).y)):a=Pt.zero:=by
 have h0:¬ (0<a.x∧0≤a.y):=h 0 (by omega)
 have h1:¬ (0 < -a.y∧0≤a.x):=h 1 (by omega)
 have h2:¬ (0 < -a.x∧0≤-a.y):=h 2 (by omega)
 have h3:¬ (0 < - -a.y∧0≤-a.x):=h 3 (by omega)
 exact Pt.ext (by show a.x=0;omega) (by show a.y=0;omega)
def RelR (x y:Int) (w:World) (I:Value) (wr:World):Prop:=∃ (k:Nat) (p q:Int),k≤4∧I=.int .i64 (k:Int)∧Pt.turns k ⟨x,y⟩=⟨p,q⟩∧Pt.fs ⟨p,q⟩=Pt.fs ⟨x,y⟩ ∧
 (∀ j,j<k→¬ (0<(Pt.turns j ⟨x,y⟩).x∧0≤(Pt.turns j ⟨x,y⟩).y))∧Duo wr w.heap.size (.int .i64 p) (.int .i64 q)∧Duo wr (w.heap.size+1) (.int .i64 0) (.int .i64 0)∧Below w.heap.size w wr
theorem rfirst_any {x y:Int} (h:rb ⟨x,y⟩=true) (w:World) :
 Calls Tryz.prog 43 #[.agg #[.int .i64 x,.int .i64 y]] w (Gives (.agg #[.int .i64 (Pt.fs ⟨x,y⟩).x,.int .i64 (Pt.fs ⟨x,y⟩).y]) w):=by
 have H:=qq h;clear h
 go_enter Tryz.func43,Tryz.ntmps43
 go_wp2_with fail
 obtain ⟨h2,d0,d1⟩:=boxes2 26 (.int .i64 x) (.int .i64 y) (.int .i64 0) (.int .i64 0) w
 have HW:Hid (RelR x y w (.int .i64 0) ((w.alloc (.cells #[.int .i64 x,.int .i64 y] 26)).alloc (.cells #[.int .i64 0,.int .i64 0] 26))):=qq ⟨0,x,y,by omega,rfl,rfl,rfl,fun j hj=>by omega,d0,d1,h2⟩
 clear h2 d0 d1
 go_loopw [3] (fun I wr=>RelR x y w I wr) (fun I _=>4 - (intOf I).toNat)
 case atStart=>exact HW.out
 case round =>
  obtain ⟨k,p,q,hk,rfl,ht,hf,hj,d0,d1,hb⟩:=hrel
  have HT:=qq ht;have HF:=qq hf;have HJ:=qq hj;have D0:=qq d0;have D1:=qq d1;have HB:=qq hb
  clear ht hf hj d0 d1 hb
  obtain ⟨c0,c1,f0,f1⟩:=D0.out
  obtain ⟨e0,e1,g0,g1⟩:=D1.out
  have hz:=D1.out.lt
  by_cases hlt:k<4
  · by_cases hq:0<p∧0≤q
    · have HE:Hid (Pt.fs ⟨x,y⟩=⟨p,q⟩):=by
       show _=_
       rw [← HF.out];exact Pt.fs_done (.inl hq)
      obtain ⟨q1,q2⟩:=hq
      go_wp2_with fail
      refine bodyPost_ret (v:=.agg #[.int .i64 p,.int .i64 q]) (by simp [results,Tryz.results43,go_sem,e0,e1]) rfl ⟨by rw [HE.out],?_⟩
      exact below_put2 HB.out (c:=w.heap.size+1) (by omega) _ _
    · have HM:Hid (∀ w,Calls Tryz.prog 71 #[.agg #[.int .i64 p,.int .i64 q],.agg #[.int .i64 0,.int .i64 1]] w (Gives (.agg #[.int .i64 (-q),.int .i64 p]) w)):=qq fun w=>by
       have hr:rb ⟨p,q⟩=true:=by rw [← HT.out];exact Pt.turns_right _ H.out
       have h1:=rmul_any (u:=0) (v:=1) hr (by decide) w
       rwa [show p * 0 - q * 1=-q by omega,show p * 1+q * 0=p by omega] at h1
      have HT':Hid (Pt.turns (k+1) ⟨x,y⟩=⟨-q,p⟩):=by
       show (Pt.turns k ⟨x,y⟩).turn=_
       rw [HT.out];rfl
      have HF':Hid (Pt.fs ⟨-q,p⟩=Pt.fs ⟨x,y⟩):=by
       show _=_
       rw [← HF.out];exact fs_turn' (a:=⟨p,q⟩) hq
      have HJ':Hid (∀ j,j<k+1→¬ (0<(Pt.turns j ⟨x,y⟩).x∧0≤(Pt.turns j ⟨x,y⟩).y)):=qq fun j hj=>by
       by_cases e:j=k
       · subst e;rw [HT.out];exact hq
       · exact HJ.out j (by omega)
      have hcase:¬ 0<p∨(0<p∧¬ 0≤q):=by omega
      clear hq
      generalize -q=q' at *
      rcases hcase with h1 | ⟨h1,h2⟩
      all_goals
       go_wp2_with fail
       refine (HM.out _).mono ?_
       rintro e w2 ⟨rfl,hb⟩
       have HO:=qq ((D0.out.next hb).set (.int .i64 q') (.int .i64 p))
       have HP:=qq ((D1.out.next hb).put2 (c:=w.heap.size) (by omega) (.int .i64 q') (.int .i64 p))
       have HB2:=qq (below_put2 (HB.out.trans (hb.mono HB.out.size)) (c:=w.heap.size) (Nat.le_refl _) (.int .i64 q') (.int .i64 p))
       obtain ⟨d0,d1,h0,h1⟩:=D0.out.next hb
       have hz:=(D0.out.next hb).lt
       clear hb c0 c1 f0 f1 e0 e1 g0 g1
       go_wp2_with fail
       go_roundw
       case rel=>exact ⟨k+1,q',p,by omega,by go_num,HT'.out,HF'.out,HJ'.out,HO.out,HP.out,HB2.out⟩
       case measure=>simp [intOf];omega
  · have HE:Hid (Pt.fs ⟨x,y⟩=⟨p,q⟩):=by
     obtain rfl:k=4:=by omega
     have h0:=turns_none HJ.out
     have ht:=HT.out
     rw [h0] at ht ⊢
     show Pt.zero=_
     rw [← ht];rfl
    go_wp2_with fail
    refine bodyPost_ret (v:=.agg #[.int .i64 p,.int .i64 q]) (by simp [results,Tryz.results43,go_sem,e0,e1]) rfl ⟨by rw [HE.out],?_⟩
    exact below_put2 HB.out (c:=w.heap.size+1) (by omega) _ _
theorem rcommon_upto (n:Nat):∀ (x y u v:Int) (w:World),(Pt.norm ⟨u,v⟩).toNat<n→rb ⟨x,y⟩=true→rb ⟨u,v⟩=true →
 Calls Tryz.prog 21 #[.agg #[.int .i64 x,.int .i64 y],.agg #[.int .i64 u,.int .i64 v]] w (Gives (.agg #[.int .i64 (Pt.cg ⟨x,y⟩ ⟨u,v⟩).x,.int .i64 (Pt.cg ⟨x,y⟩ ⟨u,v⟩).y]) w):=by
 induction n with
 | zero=>intro x y u v w h;omega
 | succ n ih =>
   intro x y u v w hn ha hb
   by_cases h0:(⟨u,v⟩:Pt)=Pt.zero
   · have HC:=qq (rfirst_any ha)
     injection h0 with e1 e2
     subst e1;subst e2
     have e:Pt.cg ⟨x,y⟩ ⟨0,0⟩=Pt.fs ⟨x,y⟩:=Pt.cg_zero _
     rw [e]
     clear hn ha hb e ih
     generalize (Pt.fs ⟨x,y⟩).x=p at *
     generalize (Pt.fs ⟨x,y⟩).y=q at *
     go_enter Tryz.func21,Tryz.ntmps21
     go_wp2_with fail
     obtain ⟨kb,d0,d1,d2⟩:=boxes3 26 (.int .i64 x) (.int .i64 y) (.int .i64 0) (.int .i64 0) (.int .i64 0) (.int .i64 0) w
     have HB:=qq kb;have D2:=qq d2
     clear kb d0 d1 d2
     generalize ((w.alloc (.cells #[.int .i64 x,.int .i64 y] 26)).alloc (.cells #[.int .i64 0,.int .i64 0] 26)).alloc (.cells #[.int .i64 0,.int .i64 0] 26)=w1 at *
     refine (HC.out _).mono ?_
     rintro e w2 ⟨rfl,hb⟩
     have HB2:=qq (Below.next HB.out hb)
     obtain ⟨e0,e1,g0,g1⟩:=D2.out.next hb
     have hz:=(D2.out.next hb).lt
     clear hb
     go_wp2_with fail
     refine bodyPost_ret (v:=.agg #[.int .i64 p,.int .i64 q]) (by simp [results,Tryz.results21,go_sem,e0,e1]) rfl ⟨rfl,?_⟩
     exact below_put2 HB2.out (c:=w.heap.size+1+1) (by omega) _ _
   · have HD:=qq (rdiv_any ha hb h0)
     have hr:=Pt.rest_right (a:=⟨x,y⟩) hb h0
     have hl:=Pt.rest_lt ⟨x,y⟩ h0
     rw [Pt.cg_rest _ h0]
     have hne:=not_zero h0
     generalize Pt.rest ⟨x,y⟩ ⟨u,v⟩=t at *
     obtain ⟨r,s⟩:=t
     have HI:=qq (fun w=>ih u v r s w (by omega) hb hr)
     clear ih hn ha hb h0 hr hl
     generalize (Pt.quo ⟨x,y⟩ ⟨u,v⟩).x=qx at *
     generalize (Pt.quo ⟨x,y⟩ ⟨u,v⟩).y=qy at *
     generalize (Pt.cg ⟨u,v⟩ ⟨r,s⟩).x=p at *
     generalize (Pt.cg ⟨u,v⟩ ⟨r,s⟩).y=q at *
     have HD2:Hid (∀ w,Calls Tryz.prog 44 #[.agg #[.int .i64 x,.int .i64 y],.agg #[.int .i64 u,.int .i64 v]] w (Gives (.tuple #[.agg #[.int .i64 qx,.int .i64 qy],.agg #[.int .i64 r,.int .i64 s]]) w)):=HD
     clear HD
     rcases hne with h1 | ⟨h1,h2⟩
     all_goals
      go_enter Tryz.func21,Tryz.ntmps21
      go_wp2_with fail
      obtain ⟨kb,d0,d1,d2⟩:=boxes3 26 (.int .i64 x) (.int .i64 y) (.int .i64 u) (.int .i64 v) (.int .i64 0) (.int .i64 0) w
      have HB:=qq kb;have D1:=qq d1;have D2:=qq d2
      clear kb d0 d1 d2
      generalize ((w.alloc (.cells #[.int .i64 x,.int .i64 y] 26)).alloc (.cells #[.int .i64 u,.int .i64 v] 26)).alloc (.cells #[.int .i64 0,.int .i64 0] 26)=w1 at *
      refine (HD2.out _).mono ?_
      rintro e w2 ⟨rfl,hb⟩
      obtain ⟨kb,o5,o6⟩:=boxes2 26 (.int .i64 qx) (.int .i64 qy) (.int .i64 r) (.int .i64 s) w2
      have HB2:=qq (Below.next (Below.next HB.out hb) kb)
      have E2:=qq ((D2.out.next hb).next kb)
      obtain ⟨a0,a1,a2,a3⟩:=(D1.out.next hb).next kb
      obtain ⟨b0,b1,b2,b3⟩:=o6
      clear hb kb o5 HB D1 D2
      go_wp2_with fail
      generalize (w2.alloc (.cells #[.int .i64 qx,.int .i64 qy] 26)).alloc (.cells #[.int .i64 r,.int .i64 s] 26)=w3 at *
      generalize w2.heap.size=g at *
      clear a0 a1 a2 a3 b0 b1 b2 b3
      refine (HI.out _).mono ?_
      rintro e w4 ⟨rfl,hb⟩
      have HB3:=qq (Below.next HB2.out hb)
      obtain ⟨e0,e1,g0,g1⟩:=E2.out.next hb
      have hz:=(E2.out.next hb).lt
      clear hb
      go_wp2_with fail
      refine bodyPost_ret (v:=.agg #[.int .i64 p,.int .i64 q]) (by simp [results,Tryz.results21,go_sem,e0,e1]) rfl ⟨rfl,?_⟩
      exact below_put2 HB3.out (c:=w.heap.size+1+1) (by omega) _ _
theorem rcommon_any {x y u v:Int} (ha:rb ⟨x,y⟩=true) (hb:rb ⟨u,v⟩=true) (w:World) :
 Calls Tryz.prog 21 #[.agg #[.int .i64 x,.int .i64 y],.agg #[.int .i64 u,.int .i64 v]] w (Gives (.agg #[.int .i64 (Pt.cg ⟨x,y⟩ ⟨u,v⟩).x,.int .i64 (Pt.cg ⟨x,y⟩ ⟨u,v⟩).y]) w) :=
 rcommon_upto _ x y u v w (Nat.lt_succ_self _) ha hb
end Go.Proofs.YtgakcpcpfkoaiaaGreatDoor.Ga
namespace Go.Proofs.YtgakcpcpfkoaiaaGreatDoor.Cr
open Go.ChangeShapes Go.WideShapes Go.ChangeAt Go.RowKit Ov
def MW (w:World):World:=w.alloc (.cells (TA (hs 8)) 113)
theorem MW_at (w:World) (i:Nat) (h:i<256):(MW w).cell? ⟨w.heap.size,i,none⟩=some (.int .u32 (hs 8 i:Int)):=by
 unfold MW
 rw [World.cell?_alloc_at _ _ _ _ rfl];exact TA_get _ i h
theorem MW_store (w:World):(storeCells ⟨w.heap.size,0,none⟩ (TA (hs 8)).toList).run Tryz.prog (w.alloc (.cells (TA fun _=>0) 113))=.ok () (MW w) :=
 run_storeCells_new w 113 _ _ (TA_info _) (by rw [TA_size,TA_size]) (TA_one _)
theorem MW_below {w w1:World} (h:Below w.heap.size w w1):Below w.heap.size w (MW w1):=h.alloc h.size _
theorem st_bits (n:Nat) (b:UInt8) (hn:n<4294967296):bits .xor .u32 ((n / 256:Nat):Int) ((hs 8 (n % 256 ^^^ b.toNat):Nat):Int)=(st n b:Nat):=by
 have h8:n % 256 ^^^ b.toNat<256:=Nat.xor_lt_two_pow (n:=8) (by omega) b.toNat_lt
 rw [bits_xor_u32 _ _ (by omega) (hs_lt 8 (by omega)),st_tab]
theorem nt_bits {s:Nat} (h:s<4294967296):bits .xor .u32 IntKind.u32.max (s:Int)=(nt s:Nat):=bits_xor_u32 4294967295 s (by omega) h
def RelM (s:Nat) (t:ByteArray) (N I:Value):Prop:=∃ k:Nat,k≤t.size∧N=.int .u32 (run (nt s) (t.data.toList.take k):Nat)∧I=.int .i64 (k:Int)
theorem more_any (s:Nat) (t:ByteArray) (w:World) (hs':s<4294967296) (ht:t.size≤1000000) :
 Calls Tryz.prog 50 #[.int .u32 (s:Int),.string t] w fun e w'=>e=.returned (.int .u32 (mo s t.data.toList:Nat))∧Below w.heap.size w w':=by
 have hz:=zeroT
 have HN:=qq (nt_bits hs')
 go_enter Tryz.func50,Tryz.ntmps50
 go_wp2_with fail
 refine (table_any _).mono ?_
 rintro e w1 ⟨rfl,hb⟩
 have HB:=qq (MW_below hb);clear hb
 have HC:=qq (MW_at w1)
 have hst:=MW_store w1
 go_wp2_with fail
 clear hst hz
 generalize MW w1=wm at *
 go_loop [6,13] (fun N I=>RelM s t N I) (fun _ I=>t.size - (intOf I).toNat)
 case atStart=>exact ⟨0,by omega,by rw [HN.out];rfl,rfl⟩
 case round =>
  obtain ⟨k,hk,rfl,rfl⟩:=hrel
  have hl:=run_lt (t.data.toList.take k) (nt_lt hs')
  by_cases hlt:k<t.size
  · have HR:Hid (run (nt s) (t.data.toList.take (k+1))=st (run (nt s) (t.data.toList.take k)) t[k]):=by
     show _=_
     rw [take_snoc t k hlt,run_snoc]
    generalize run (nt s) (t.data.toList.take k)=n at *
    have e2:=bits_xor_u8 (n % 256) t[k].toNat (by omega) (UInt8.toNat_lt _)
    have h8:n % 256 ^^^ t[k].toNat<256:=Nat.xor_lt_two_pow (n:=8) (by omega) (UInt8.toNat_lt _)
    have hc:=HC.out (n % 256 ^^^ t[k].toNat) h8
    have HX:=qq (st_bits n t[k] hl)
    generalize n % 256 ^^^ t[k].toNat=x at e2 h8 hc HX
    have e3:bits .xor .u8 ((n:Int) % 256) (t[k].toNat:Int)=(x:Int):=e2
    clear e2
    have k0:(k:Int)<(t.size:Int):=by omega
    go_wp2_with fail
    go_round
    case rel=>exact ⟨k+1,by omega,by rw [HR.out,← HX.out];rfl,by go_num⟩
    case measure=>simp [intOf];omega
  · obtain rfl:k=t.size:=by omega
    rw [take_all] at hl ⊢
    have HN2:=qq (nt_bits hl)
    have hge:¬ (t.size:Int)<(t.size:Int):=by omega
    go_wp2_with fail
    go_ret
    exact ⟨ret_int HN2.out,HB.out⟩
theorem sum_any (t:ByteArray) (w:World) (ht:t.size≤1000000) :
 Calls Tryz.prog 25 #[.string t] w fun e w'=>e=.returned (.int .u32 (sm t.data.toList:Nat))∧Below w.heap.size w w':=by
 go_enter Tryz.func25,Tryz.ntmps25
 go_wp2_with fail
 refine (more_any 0 t _ (by omega) ht).mono ?_
 rintro e w1 ⟨rfl,hb⟩
 have HB:=qq hb;clear hb
 go_wp2_with fail
 go_ret
 exact ⟨rfl,HB.out⟩
theorem hs_succ (k n:Nat):hs (k+1) n=hv (hs k n):=hs_add k 1 n
def RelS (x:Nat) (X I:Value):Prop:=∃ k:Nat,k≤8∧X=.int .i64 (hs k x:Nat)∧I=.int .i64 (k:Int)
theorem steps_any (x:Nat) (w:World) (hx:x<4294967296) :
 Calls Tryz.prog 59 #[.int .i64 (x:Int)] w fun e w'=>e=.returned (.int .i64 (hs 8 x:Nat))∧w'=w:=by
 go_enter Tryz.func59,Tryz.ntmps59
 go_wp2_with fail
 go_loop [0,3] (fun X I=>RelS x X I) (fun _ I=>8 - (intOf I).toNat)
 case atStart=>exact ⟨0,by omega,rfl,rfl⟩
 case round =>
  obtain ⟨k,hk,rfl,rfl⟩:=hrel
  have hl:=hs_lt k hx
  have HS:=qq (hs_succ k x)
  by_cases hlt:k<8
  · generalize hs k x=n at *
    have HX:=qq (bits_xor_i64 (n / 2) 3988292384 (by omega) (by omega))
    by_cases h:n % 2=1
    · have HV:Hid (hv n=n / 2 ^^^ 3988292384):=if_pos h
      have e2:(n:Int) % 2=1:=by omega
      clear h
      go_wp2_with fail
      go_round
      case rel=>exact ⟨k+1,by omega,by rw [HS.out,HV.out,← HX.out];rfl,by go_num⟩
      case measure=>simp [intOf];omega
    · have HV:Hid (hv n=n / 2):=if_neg h
      have e2:(n:Int) % 2=0:=by omega
      clear h
      go_wp2_with fail
      go_round
      case rel=>exact ⟨k+1,by omega,by rw [HS.out,HV.out];rfl,by go_num⟩
      case measure=>simp [intOf];omega
  · obtain rfl:k=8:=by omega
    go_wp2_with fail
    go_ret
    exact ⟨rfl,rfl⟩
def RelRS (t:ByteArray) (X I:Value):Prop:=∃ k:Nat,k≤t.size∧X=.int .i64 (run 4294967295 (t.data.toList.take k):Nat)∧I=.int .i64 (k:Int)
theorem rsum_any (t:ByteArray) (w:World) (ht:t.size≤1000000) :
 Calls Tryz.prog 30 #[.string t] w fun e w'=>e=.returned (.int .i64 (sm t.data.toList:Nat))∧w'=w:=by
 go_enter Tryz.func30,Tryz.ntmps30
 go_wp2_with fail
 go_loop [3,4] (fun X I=>RelRS t X I) (fun _ I=>t.size - (intOf I).toNat)
 case atStart=>exact ⟨0,by omega,rfl,rfl⟩
 case round =>
  obtain ⟨k,hk,rfl,rfl⟩:=hrel
  have hl:=run_lt (n:=4294967295) (t.data.toList.take k) (by omega)
  by_cases hlt:k<t.size
  · have HR:Hid (run 4294967295 (t.data.toList.take (k+1))=hs 8 (run 4294967295 (t.data.toList.take k) ^^^ t[k].toNat)):=by
     show _=_
     rw [take_snoc t k hlt,run_snoc];rfl
    generalize run 4294967295 (t.data.toList.take k)=n at *
    have hb:=UInt8.toNat_lt t[k]
    have hx:n ^^^ t[k].toNat<4294967296:=Nat.xor_lt_two_pow (n:=32) hl (by omega)
    have e2:=bits_xor_i64 n t[k].toNat hl (by omega)
    generalize n ^^^ t[k].toNat=x at *
    have k0:(k:Int)<(t.size:Int):=by omega
    go_wp2_with fail
    refine (steps_any x _ hx).mono ?_
    rintro e w' ⟨rfl,rfl⟩
    go_wp2_with fail
    go_round
    case rel=>exact ⟨k+1,by omega,by rw [HR.out],by go_num⟩
    case measure=>simp [intOf];omega
  · obtain rfl:k=t.size:=by omega
    rw [take_all] at hl ⊢
    have HS:=qq (sm_run t.data.toList)
    have HX:=qq (bits_xor_i64 (run 4294967295 t.data.toList) 4294967295 hl (by omega))
    generalize run 4294967295 t.data.toList=n at *
    go_wp2_with fail
    go_ret
    exact ⟨ret_int (by rw [HS.out,Nat.xor_comm,← HX.out];rfl),rfl⟩
end Go.Proofs.YtgakcpcpfkoaiaaGreatDoor.Cr
namespace Go.Proofs.YtgakcpcpfkoaiaaGreatDoor.Ev
open Ov Tp Ga Va Ex
theorem wds_next {s:List UInt8} {m:Nat} (h:∀ c t,s.drop m=c :: t→isB c=true):wds (s.drop m)=wds (s.drop (m+1)):=by
 have e:s.drop (m+1)=(s.drop m).drop 1:=by rw [List.drop_drop]
 rw [e]
 cases hd:s.drop m with
 | nil=>rfl
 | cons c t =>
   have hc:c=32:=by simpa [isB] using h c t hd
   rw [hc,wds_blank];rfl
theorem wds_run {s:List UInt8} {k m:Nat} (hk:k<m) (hm:m≤s.length) (ht:(s.take m).drop k=(s.drop k).takeWhile (fun c=>!isB c)) (hd:s.drop m=(s.drop k).dropWhile (fun c=>!isB c)) :
 wds (s.drop k)=(s.take m).drop k :: wds (s.drop m):=by
 have hl:0<((s.drop k).takeWhile (fun c=>!isB c)).length:=by rw [← ht,List.length_drop,List.length_take];omega
 cases h:s.drop k with
 | nil=>rw [h] at hl;exact absurd hl (by decide)
 | cons c t =>
   rw [h] at hl ht hd
   have hc:isB c=false:=by
    rcases Bool.eq_false_or_eq_true (isB c) with g | g
    · rw [List.takeWhile_cons_of_neg (by simp [g])] at hl;exact absurd hl (by decide)
    · exact g
   obtain ⟨h1,h2⟩:=wds_front (s:=t) hc
   rw [wds_cons (by rw [h1];exact List.cons_ne_nil _ _),ht,hd,h1,h2,List.takeWhile_cons_of_pos (by simp [hc]),List.dropWhile_cons_of_pos (by simp [hc])]
end Go.Proofs.YtgakcpcpfkoaiaaGreatDoor.Ev
namespace Go.Proofs.YtgakcpcpfkoaiaaGreatDoor.Ev
open Go.ChangeShapes Go.WideShapes Go.ChangeAt Go.RowKit Ov Va Ga Ex
theorem infoT:(Tryz.prog.info? 9).map (fun i=>(i.zero,i.size,i.bytes))=some (some (.string ⟨#[]⟩),1,16):=by kernel_rfl
def tcl (l:List (List UInt8)):List Value:=l.map fun x=>Value.string (tx x)
theorem tcl_snoc (l:List (List UInt8)) (x:List UInt8):tcl (l++[x])=tcl l++[.string (tx x)]:=by simp [tcl]
def Wo (l:List (List UInt8)) (w:World) (e:Ending) (w':World):Prop:=∃ V,e=.returned V∧w'.ownsRow w.heap.size 9 1 V l.length (tcl l)∧Below w.heap.size w w'
def RelWo (s:List UInt8) (w:World) (V I:Value) (wr:World):Prop:=∃ (k:Nat) (l:List (List UInt8)),k≤s.length+1∧l.length≤k∧I=.int .i64 (k:Int)∧l++wds (s.drop k)=wds s∧wr.ownsRow w.heap.size 9 1 V l.length (tcl l)∧Below w.heap.size w wr
theorem mwords_any (s:ByteArray) (hs:s.size≤4096) (w:World):Calls Tryz.prog 170 #[.string s] w (Wo (wds s.data.toList) w):=by
 obtain ⟨i0,hi0,hz0,hz1,hz2⟩:=info_parts infoT
 have HI:=qq hi0;have HZ0:=qq hz0;have HZ1:=qq hz1;have HZ2:=qq hz2
 clear hi0 hz0 hz1 hz2
 have hsz:s.data.toList.length=s.size:=by simp
 go_enter Tryz.func170,Tryz.ntmps170
 go_wp2_with fail
 go_loopw [3,4] (fun V I wr=>RelWo s.data.toList w V I wr) (fun _ I _=>s.size+1 - (intOf I).toNat)
 case atStart=>exact ⟨0,[],Nat.zero_le _,Nat.le_refl _,rfl,rfl,World.ownsRow_nil w _ _ 1,Below.refl _ _⟩
 case round =>
  obtain ⟨k,l,hk,hlk,rfl,hl,ho,hb⟩:=hrel
  have HL:=qq hl;have HO:=qq ho;have HB:=qq hb
  clear hl ho hb
  by_cases hlt:k<s.size
  · go_wp2_with fail
    go_loop [5] (fun t=>∃ m:Nat,k≤m∧m≤s.size∧t=.int .i64 (m:Int)∧(s.data.toList.drop k).takeWhile (fun c=>!isB c)=(s.data.toList.take m).drop k++(s.data.toList.drop m).takeWhile (fun c=>!isB c)∧(s.data.toList.drop k).dropWhile (fun c=>!isB c)=(s.data.toList.drop m).dropWhile (fun c=>!isB c)) (fun t=>s.size - (intOf t).toNat)
    case atStart=>exact ⟨k,Nat.le_refl _,Nat.le_of_lt hlt,rfl,by rw [drop_take_nil];rfl,rfl⟩
    case round =>
     obtain ⟨m,hkm,hm,rfl,hst,hbh⟩:=hrel
     have HST:=qq hst;have HBH:=qq hbh
     clear hst hbh
     by_cases hgo:∃ h:m<s.size,isB s[m]=false
     · obtain ⟨hlt2,hc2⟩:=hgo
       have hdr:=drop_at s hlt2
       have htk:=take_snoc s m hlt2
       have hcn:¬ isB s[m]=true:=by rw [hc2];decide
       have h32:((s[m].toNat:Int) != 32)=true:=isB_no hcn
       have HR1:Hid ((s.data.toList.drop k).takeWhile (fun c=>!isB c)=(s.data.toList.take (m+1)).drop k++(s.data.toList.drop (m+1)).takeWhile (fun c=>!isB c)):=by
        show _=_
        rw [HST.out,hdr,List.takeWhile_cons_of_pos (by simpa using hcn),htk,List.drop_append_of_le_length (by rw [List.length_take];omega)];simp
       have HR2:Hid ((s.data.toList.drop k).dropWhile (fun c=>!isB c)=(s.data.toList.drop (m+1)).dropWhile (fun c=>!isB c)):=by
        show _=_
        rw [HBH.out,hdr,List.dropWhile_cons_of_pos (by simpa using hcn)]
       clear hdr htk hc2 hcn HST HBH
       go_wp2_with fail
       go_round
       case rel=>exact ⟨m+1,by omega,by omega,by go_num,HR1.out,HR2.out⟩
       case measure=>simp [intOf];omega
     · have HQ:Hid (∀ c t,s.data.toList.drop m=c :: t→isB c=true):=by
        intro c t e
        have hlt2:m<s.size:=by
         have:=congrArg List.length e
         rw [List.length_drop,List.length_cons] at this;omega
        rw [drop_at s hlt2] at e
        injection e with e1 e2
        rw [← e1]
        rcases Bool.eq_false_or_eq_true (isB s[m]) with g | g
        · exact g
        · exact absurd ⟨hlt2,g⟩ hgo
       have HT0:Hid ((s.data.toList.drop m).takeWhile (fun c=>!isB c)=[]∧(s.data.toList.drop m).dropWhile (fun c=>!isB c)=s.data.toList.drop m):=by
        show _∧_
        have hq:=HQ.out
        cases hd:s.data.toList.drop m with
        | nil=>exact ⟨rfl,rfl⟩
        | cons c t =>
          have:=hq c t hd
          exact ⟨List.takeWhile_cons_of_neg (by simp [this]),List.dropWhile_cons_of_neg (by simp [this])⟩
       have HW1:Hid (wds (s.data.toList.drop m)=wds (s.data.toList.drop (m+1))):=wds_next HQ.out
       have h32:∀ h:m<s.size,((s[m].toNat:Int) != 32)=false:=fun h=>isB_yes (HQ.out _ _ (drop_at s h))
       have HRUN:Hid (k<m→wds (s.data.toList.drop k)=(s.data.toList.take m).drop k :: wds (s.data.toList.drop m)):=fun h =>
        wds_run h (by omega) (by rw [HST.out,HT0.out.1,List.append_nil]) (by rw [HBH.out,HT0.out.2])
       clear HQ HT0 HST HBH hgo
       by_cases hkm2:k<m
       · have HS:Hid (s.extract k m=tx ((s.data.toList.take m).drop k)):=ext_mid s hkm hm
         have HLN:Hid ((l++[(s.data.toList.take m).drop k])++wds (s.data.toList.drop (m+1))=wds s.data.toList):=by
          show _=_
          rw [List.append_assoc,List.singleton_append,← HW1.out,← HRUN.out hkm2];exact HL.out
         clear HRUN HW1 HL
         by_cases hme:m<s.size
         · have g32:=h32 hme
           clear h32
           go_wp2_with (at_builtin;rw [HS.out];refine wpList_append_own _ rfl _ _ 154 rfl w.heap.size 9 i0 (.string ⟨#[]⟩) 1 16 Tryz.underlying154 HI.out HZ0.out HZ1.out HZ2.out rfl (by decide) _ _ _ rfl (HO.out.alloc _) ⟨wr.heap.size,0,none⟩ 1 1 [.string (tx ((s.data.toList.take m).drop k))] rfl rfl (one_news wr _ _) (one_one rfl) ?c3 ?c4 ?c5 ?_)
           case c3=>unfold maxLen;omega
           case c4=>omega
           case c5=>have h9:=HB.out.size;(try rw [World.size_alloc]);omega
           intro v' w1 hown' hgrow _
           have HN:Hid (w1.ownsRow w.heap.size 9 1 v' (l++[(s.data.toList.take m).drop k]).length (tcl (l++[(s.data.toList.take m).drop k]))):=by
            show World.ownsRow _ _ _ _ _ _ _
            rw [tcl_snoc,List.length_append];exact hown'
           have HB1:Hid (Below w.heap.size w w1):=(HB.out.alloc HB.out.size _).grown hgrow (one_base HB.out.size _) (fun g e=>(HO.out.lt g e).1)
           clear hown' hgrow
           go_wp2_with fail
           go_roundw
           case rel=>exact ⟨m+1,l++[(s.data.toList.take m).drop k],by omega,by rw [List.length_append];simp;omega,by go_num,HLN.out,HN.out,HB1.out⟩
           case measure=>simp [intOf];omega
         · clear h32
           go_wp2_with (at_builtin;rw [HS.out];refine wpList_append_own _ rfl _ _ 154 rfl w.heap.size 9 i0 (.string ⟨#[]⟩) 1 16 Tryz.underlying154 HI.out HZ0.out HZ1.out HZ2.out rfl (by decide) _ _ _ rfl (HO.out.alloc _) ⟨wr.heap.size,0,none⟩ 1 1 [.string (tx ((s.data.toList.take m).drop k))] rfl rfl (one_news wr _ _) (one_one rfl) ?c3 ?c4 ?c5 ?_)
           case c3=>unfold maxLen;omega
           case c4=>omega
           case c5=>have h9:=HB.out.size;(try rw [World.size_alloc]);omega
           intro v' w1 hown' hgrow _
           have HN:Hid (w1.ownsRow w.heap.size 9 1 v' (l++[(s.data.toList.take m).drop k]).length (tcl (l++[(s.data.toList.take m).drop k]))):=by
            show World.ownsRow _ _ _ _ _ _ _
            rw [tcl_snoc,List.length_append];exact hown'
           have HB1:Hid (Below w.heap.size w w1):=(HB.out.alloc HB.out.size _).grown hgrow (one_base HB.out.size _) (fun g e=>(HO.out.lt g e).1)
           clear hown' hgrow
           go_wp2_with fail
           go_roundw
           case rel=>exact ⟨m+1,l++[(s.data.toList.take m).drop k],by omega,by rw [List.length_append];simp;omega,by go_num,HLN.out,HN.out,HB1.out⟩
           case measure=>simp [intOf];omega
       · obtain rfl:m=k:=by omega
         have HLN:Hid (l++wds (s.data.toList.drop (m+1))=wds s.data.toList):=by
          show _=_
          rw [← HW1.out];exact HL.out
         have g32:=h32 hlt
         clear HRUN HW1 HL h32
         go_wp2_with fail
         go_roundw
         case rel=>exact ⟨m+1,l,by omega,by omega,by go_num,HLN.out,HO.out,HB.out⟩
         case measure=>simp [intOf];omega
  · have HE:Hid (l=wds s.data.toList):=by
     show _=_
     have:=HL.out
     rw [List.drop_of_length_le (by omega)] at this
     rw [← this];exact (List.append_nil l).symm
    go_wp2_with fail
    go_ret
    exact ⟨_,rfl,by rw [← HE.out];exact HO.out,HB.out⟩
end Go.Proofs.YtgakcpcpfkoaiaaGreatDoor.Ev

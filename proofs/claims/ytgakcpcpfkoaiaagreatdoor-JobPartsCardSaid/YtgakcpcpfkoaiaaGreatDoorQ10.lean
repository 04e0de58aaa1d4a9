/-
  Small texts of this claim, together: JoPartsW, JoRefF, JoRefP, JoPartsX.
-/
import Derived.Test.YtgakcpcpfkoaiaaGreatDoorQ1
import Derived.Test.YtgakcpcpfkoaiaaGreatDoorQ9
import Derived.Test.YtgakcpcpfkoaiaaGreatDoorQJoRefR
import Derived.Test.YtgakcpcpfkoaiaaGreatDoorQ5
import Derived.Test.YtgakcpcpfkoaiaaGreatDoorQVaRight
import Derived.Deep.Cut
import Derived.Test.YtgakcpcpfkoaiaaGreatDoorQJoRefA1
import Derived.Test.YtgakcpcpfkoaiaaGreatDoorQJoRefB1
import Derived.Test.YtgakcpcpfkoaiaaGreatDoorQ4
import Derived.Test.YtgakcpcpfkoaiaaGreatDoorQJoPart
import Derived.Test.YtgakcpcpfkoaiaaGreatDoorQErRunY
set_option maxHeartbeats 4000000
set_option maxRecDepth 100000
namespace Go.Proofs.YtgakcpcpfkoaiaaGreatDoor.Jo
open Go.ChangeShapes Go.WideShapes Go.ChangeAt Go.RowKit Ov Ga Va Ex Ev
theorem parts_walk (j:Jb) (A1:Option Addr) (c1:Nat) (A2:Option Addr) (c2:Nat) (A3:Option Addr) (c3:Nat) (key:List UInt8) (c:ByteArray) (k n x y k' n' x' y' r0 r1 r3 r4 q:Int) (s s' r2:ByteArray) (m v:Int) (w:World) (hlj:JA w j A1 A2 A3)
 (hk:key.length≤9223372036854775807)
 (HF1:s.size≤5000→s'.size≤5000→Hid (∀ w,Calls Tryz.prog 6 #[.string c,.agg #[.int .i64 k,.int .i64 n,.string s,.int .i64 x,.int .i64 y],.agg #[.int .i64 k',.int .i64 n',.string s',.int .i64 x',.int .i64 y']] w (Gives (.tuple #[.agg #[.int .i64 r0,.int .i64 r1,.string r2,.int .i64 r3,.int .i64 r4],.int .i64 q]) w))) (HF2:s.size≤5000→s'.size≤5000→Hid (∀ w,Calls Tryz.prog 7 #[.string c,.agg #[.int .i64 k,.int .i64 n,.string s,.int .i64 x,.int .i64 y],.agg #[.int .i64 k',.int .i64 n',.string s',.int .i64 x',.int .i64 y']] w (Gives (.tuple #[.agg #[.int .i64 r0,.int .i64 r1,.string r2,.int .i64 r3,.int .i64 r4],.int .i64 q]) w)))
 (HPT:Hid (∀ w1 B1 d1 B2 d2 B3 d3,JL w1 j B1 B2 B3→j.nm.length≤100→Below w.heap.size w w1→Calls Tryz.prog 8 #[.agg #[.string (tx j.nm),.int .i64 j.t,.int .i64 j.p,.int .i64 j.k,.int .i64 j.n,.int .i64 j.f,.slice B1 j.m.length d1,.slice B2 j.b.length d2,.slice B3 j.r.length d3,.string (tx j.fd),.bool j.cb],.string (tx key)] w1 (Gives (.tuple #[.int .i64 m,.int .i64 v]) w1)))
 (HRP:Hid (∀ w1,JL w1 j A1 A2 A3→jr j=0→Below w.heap.size w w1→Calls Tryz.prog 11 #[.agg #[.string (tx j.nm),.int .i64 j.t,.int .i64 j.p,.int .i64 j.k,.int .i64 j.n,.int .i64 j.f,.slice A1 j.m.length c1,.slice A2 j.b.length c2,.slice A3 j.r.length c3,.string (tx j.fd),.bool j.cb],.string (tx key)] w1 (Gives (.tuple #[.int .i64 m,.int .i64 v]) w1)))
 (hbad:jr j ≠ 0→m=0∧v=jr j) :
 Calls Tryz.prog 3 #[.agg #[.string (tx j.nm),.int .i64 j.t,.int .i64 j.p,.int .i64 j.k,.int .i64 j.n,.int .i64 j.f,.slice A1 j.m.length c1,.slice A2 j.b.length c2,.slice A3 j.r.length c3,.string (tx j.fd),.bool j.cb],.string (tx key),.string c,.agg #[.int .i64 k,.int .i64 n,.string s,.int .i64 x,.int .i64 y],.agg #[.int .i64 k',.int .i64 n',.string s',.int .i64 x',.int .i64 y']] w (Gives (.bool true) w):=by
 have HS:=qq (fun w1 (h:Below w.heap.size w w1)=>small_any j A1 c1 A2 c2 A3 c3 w1 (hlj.next h))
 have HJA:=qq hlj
 clear hlj
 have hs:(tx key).size=key.length:=tx_size key
 have HJ:=qq (((made11 w 24 (.string (tx j.nm)) (.int .i64 j.t) (.int .i64 j.p) (.int .i64 j.k) (.int .i64 j.n) (.int .i64 j.f) (.slice A1 j.m.length c1) (.slice A2 j.b.length c2) (.slice A3 j.r.length c3) (.string (tx j.fd)) (.bool j.cb)).old (.cells #[.int .i64 k,.int .i64 n,.string s,.int .i64 x,.int .i64 y] 28)).old (.cells #[.int .i64 k',.int .i64 n',.string s',.int .i64 x',.int .i64 y'] 28))
 have H1:=qq ((made5' w (.cells #[.string (tx j.nm),.int .i64 j.t,.int .i64 j.p,.int .i64 j.k,.int .i64 j.n,.int .i64 j.f,.slice A1 j.m.length c1,.slice A2 j.b.length c2,.slice A3 j.r.length c3,.string (tx j.fd),.bool j.cb] 24) 28 (.int .i64 k) (.int .i64 n) (.string s) (.int .i64 x) (.int .i64 y)).old (.cells #[.int .i64 k',.int .i64 n',.string s',.int .i64 x',.int .i64 y'] 28))
 have H2:=qq (made5'' w (.cells #[.string (tx j.nm),.int .i64 j.t,.int .i64 j.p,.int .i64 j.k,.int .i64 j.n,.int .i64 j.f,.slice A1 j.m.length c1,.slice A2 j.b.length c2,.slice A3 j.r.length c3,.string (tx j.fd),.bool j.cb] 24) (.cells #[.int .i64 k,.int .i64 n,.string s,.int .i64 x,.int .i64 y] 28) 28 (.int .i64 k') (.int .i64 n') (.string s') (.int .i64 x') (.int .i64 y'))
 have HB:=qq (below_box (below_box (box1 w (.cells #[.string (tx j.nm),.int .i64 j.t,.int .i64 j.p,.int .i64 j.k,.int .i64 j.n,.int .i64 j.f,.slice A1 j.m.length c1,.slice A2 j.b.length c2,.slice A3 j.r.length c3,.string (tx j.fd),.bool j.cb] 24)) (.cells #[.int .i64 k,.int .i64 n,.string s,.int .i64 x,.int .i64 y] 28)) (.cells #[.int .i64 k',.int .i64 n',.string s',.int .i64 x',.int .i64 y'] 28))
 go_enter Tryz.func3,Tryz.ntmps3
 go_wp2_with fail
 generalize ((w.alloc (.cells #[.string (tx j.nm),.int .i64 j.t,.int .i64 j.p,.int .i64 j.k,.int .i64 j.n,.int .i64 j.f,.slice A1 j.m.length c1,.slice A2 j.b.length c2,.slice A3 j.r.length c3,.string (tx j.fd),.bool j.cb] 24)).alloc (.cells #[.int .i64 k,.int .i64 n,.string s,.int .i64 x,.int .i64 y] 28)).alloc (.cells #[.int .i64 k',.int .i64 n',.string s',.int .i64 x',.int .i64 y'] 28)=v0 at *
 refine (awake_any _).mono ?_
 rintro e a1 ⟨rfl,hb⟩
 replace HJ:=qq (HJ.out.next hb)
 replace H1:=qq (H1.out.next hb)
 replace H2:=qq (H2.out.next hb)
 replace HB:=qq (Below.next HB.out hb);clear hb
 obtain ⟨e0,e1,e2,e3,e4,e5,e6,e7,e8,e9,e10⟩:=elev HJ.out
 go_wp2_with fail
 clear e0 e1 e2 e3 e4 e5 e6 e7 e8 e9 e10
 refine (HS.out _ HB.out).mono ?_
 rintro e a2 ⟨q1,rfl,hb,hq⟩
 replace HJ:=qq (HJ.out.next hb)
 replace H1:=qq (H1.out.next hb)
 replace H2:=qq (H2.out.next hb)
 replace HB:=qq (Below.next HB.out hb);clear hb
 clear HS
 rcases hq with rfl | ⟨rfl,hsm⟩
 · go_wp2_with fail
   refine (awake_any _).mono ?_
   rintro e u1 ⟨rfl,hb⟩
   replace HB:=qq (Below.next HB.out hb);clear hb
   go_wp2_with fail
   go_ret
   exact ⟨rfl,HB.out⟩
 by_cases hlen:200<key.length
 · have hgt:decide (200<(key.length:Int))=true:=decide_eq_true (by omega)
   clear hlen
   go_wp2_with fail
   refine (awake_any _).mono ?_
   rintro e u2 ⟨rfl,hb⟩
   replace HB:=qq (Below.next HB.out hb);clear hb
   go_wp2_with fail
   go_ret
   exact ⟨rfl,HB.out⟩
 have hgt:decide (200<(key.length:Int))=false:=decide_eq_false (by omega)
 have HL:=qq hlen;clear hlen
 have e2:=H1.out.c 2 _ rfl
 by_cases h5:5000<s.size
 · have h5':decide (5000<(s.size:Int))=true:=decide_eq_true (by omega)
   clear h5
   go_wp2_with fail
   refine (awake_any _).mono ?_
   rintro e u3 ⟨rfl,hb⟩
   replace HB:=qq (Below.next HB.out hb);clear hb
   go_wp2_with fail
   go_ret
   exact ⟨rfl,HB.out⟩
 have h5':decide (5000<(s.size:Int))=false:=decide_eq_false (by omega)
 have f2:=H2.out.c 2 _ rfl
 by_cases h6:5000<s'.size
 · have h6':decide (5000<(s'.size:Int))=true:=decide_eq_true (by omega)
   clear h6
   go_wp2_with fail
   refine (awake_any _).mono ?_
   rintro e u4 ⟨rfl,hb⟩
   replace HB:=qq (Below.next HB.out hb);clear hb
   go_wp2_with fail
   go_ret
   exact ⟨rfl,HB.out⟩
 have h6':decide (5000<(s'.size:Int))=false:=decide_eq_false (by omega)
 have G1:=HF1 (by omega) (by omega);have G2:=HF2 (by omega) (by omega)
 clear HF1 HF2 h5 h6
 have e5:=HJ.out.c 5 _ rfl
 by_cases hf:2000<j.f∧j.f≤100000
 · obtain ⟨i1,i2⟩:=hf
   have g1:decide (2000<j.f)=true:=decide_eq_true i1
   have g2:decide (j.f≤100000)=true:=decide_eq_true i2
   clear i1 i2
   go_wp2_with fail
   refine (awake_any _).mono ?_
   rintro e u5 ⟨rfl,hb⟩
   replace HB:=qq (Below.next HB.out hb);clear hb
   go_wp2_with fail
   go_ret
   exact ⟨rfl,HB.out⟩
 have HM:=qq hsm
 have HO:=qq (fun w1 (h:Below w.heap.size w w1)=>jof_any j A1 c1 A2 c2 A3 c3 w1 (HJA.out.next h) hsm)
 have HRR:=qq (fun w1 (h:Below w.heap.size w w1)=>rright_any j A1 c1 A2 c2 A3 c3 w1 ((HJA.out.next h).small hsm) (by have:=hsm.nm;omega))
 clear hsm
 obtain ⟨y0,y1,y2,y3,y4⟩:=five H1.out;obtain ⟨z0,z1,z2,z3,z4⟩:=five H2.out
 rcases (show ¬ 2000<j.f∨(2000<j.f∧¬ j.f≤100000) by omega) with f1 | ⟨f1,f3⟩
 all_goals
  clear hf
  go_wp2_with fail
  clear f1 hgt h5' h6' e2 f2 e5 y0 y1 y2 y3 y4 z0 z1 z2 z3 z4
  first | clear f3 | skip
  refine (G1.out _).mono ?_
  rintro e a3 ⟨rfl,hb⟩
  replace HJ:=qq (HJ.out.next hb)
  replace H1:=qq (H1.out.next hb)
  replace H2:=qq (H2.out.next hb)
  replace HB:=qq (Below.next HB.out hb);clear hb
  have H3:=qq (made5 a3 28 (.int .i64 r0) (.int .i64 r1) (.string r2) (.int .i64 r3) (.int .i64 r4))
  have lJ3:=HJ.out.lt
  replace HJ:=qq (HJ.out.old (.cells #[.int .i64 r0,.int .i64 r1,.string r2,.int .i64 r3,.int .i64 r4] 28))
  have l13:=H1.out.lt
  replace H1:=qq (H1.out.old (.cells #[.int .i64 r0,.int .i64 r1,.string r2,.int .i64 r3,.int .i64 r4] 28))
  have l23:=H2.out.lt
  replace H2:=qq (H2.out.old (.cells #[.int .i64 r0,.int .i64 r1,.string r2,.int .i64 r3,.int .i64 r4] 28))
  replace HB:=qq (below_box HB.out (.cells #[.int .i64 r0,.int .i64 r1,.string r2,.int .i64 r3,.int .i64 r4] 28))
  obtain ⟨c1_0,c1_1,c1_2,c1_3,c1_4⟩:=five H1.out
  obtain ⟨c2_0,c2_1,c2_2,c2_3,c2_4⟩:=five H2.out
  go_wp2_with fail
  clear c1_0 c1_1 c1_2 c1_3 c1_4
  clear c2_0 c2_1 c2_2 c2_3 c2_4
  generalize a3.alloc (.cells #[.int .i64 r0,.int .i64 r1,.string r2,.int .i64 r3,.int .i64 r4] 28)=b3 at *
  refine (G2.out _).mono ?_
  rintro e a4 ⟨rfl,hb⟩
  replace HJ:=qq (HJ.out.next hb)
  replace H1:=qq (H1.out.next hb)
  replace H2:=qq (H2.out.next hb)
  replace H3:=qq (H3.out.next hb)
  replace HB:=qq (Below.next HB.out hb);clear hb
  have H4:=qq (made5 a4 28 (.int .i64 r0) (.int .i64 r1) (.string r2) (.int .i64 r3) (.int .i64 r4))
  have lJ4:=HJ.out.lt
  replace HJ:=qq (HJ.out.old (.cells #[.int .i64 r0,.int .i64 r1,.string r2,.int .i64 r3,.int .i64 r4] 28))
  have l14:=H1.out.lt
  replace H1:=qq (H1.out.old (.cells #[.int .i64 r0,.int .i64 r1,.string r2,.int .i64 r3,.int .i64 r4] 28))
  have l24:=H2.out.lt
  replace H2:=qq (H2.out.old (.cells #[.int .i64 r0,.int .i64 r1,.string r2,.int .i64 r3,.int .i64 r4] 28))
  have l34:=H3.out.lt
  replace H3:=qq (H3.out.old (.cells #[.int .i64 r0,.int .i64 r1,.string r2,.int .i64 r3,.int .i64 r4] 28))
  replace HB:=qq (below_box HB.out (.cells #[.int .i64 r0,.int .i64 r1,.string r2,.int .i64 r3,.int .i64 r4] 28))
  have hv:=eql_val r0 r1 r3 r4 r0 r1 r3 r4 r2 r2
  rw [show ve ⟨r0,r1,r2.data.toList,r3,r4⟩ ⟨r0,r1,r2.data.toList,r3,r4⟩=true from decide_eq_true rfl] at hv
  obtain ⟨c3_0,c3_1,c3_2,c3_3,c3_4⟩:=five H3.out
  obtain ⟨c4_0,c4_1,c4_2,c4_3,c4_4⟩:=five H4.out
  obtain ⟨e0,e1,e2,e3,e4,e5,e6,e7,e8,e9,e10⟩:=elev HJ.out
  clear H1 H2 G1 G2
  go_wp2_with fail
  clear c3_0 c3_1 c3_2 c3_3 c3_4
  clear c4_0 c4_1 c4_2 c4_3 c4_4
  clear e0 e1 e2 e3 e4 e5 e6 e7 e8 e9 e10
  clear H3 H4 hv
  generalize a4.alloc (.cells #[.int .i64 r0,.int .i64 r1,.string r2,.int .i64 r3,.int .i64 r4] 28)=b4 at *
  refine (HO.out _ HB.out).mono ?_
  rintro e a5 ⟨B1,d1,B2,d2,B3,d3,rfl,hb,⟨n1,n2,n3⟩,_,_,_⟩
  have HL2:=qq (show JL a5 j B1 B2 B3 from ⟨n1,n2,n3,(HJA.out.small HM.out).lm,(HJA.out.small HM.out).lb,(HJA.out.small HM.out).lr⟩)
  clear n1 n2 n3
  replace HJ:=qq (HJ.out.next hb)
  replace HB:=qq (Below.next HB.out hb);clear hb
  go_wp2_with fail
  refine (HPT.out _ _ _ _ _ _ _ HL2.out HM.out.nm HB.out).mono ?_
  rintro e a6 ⟨rfl,hb⟩
  replace HJ:=qq (HJ.out.next hb)
  replace HB:=qq (Below.next HB.out hb);clear hb
  clear HPT HL2 HO
  obtain ⟨e0,e1,e2,e3,e4,e5,e6,e7,e8,e9,e10⟩:=elev HJ.out
  go_wp2_with fail
  clear e0 e1 e2 e3 e4 e5 e6 e7 e8 e9 e10
  refine (HRR.out _ HB.out).mono ?_
  rintro e a7 ⟨rfl,hb⟩
  replace HJ:=qq (HJ.out.next hb)
  replace HB:=qq (Below.next HB.out hb);clear hb
  by_cases h0:jr j=0
  · have HRQ:=qq (fun w1 (h:Below w.heap.size w w1)=>HRP.out w1 ((HJA.out.next h).small HM.out) h0 h)
    rw [h0]
    clear HRP HRR hbad h0
    obtain ⟨e0,e1,e2,e3,e4,e5,e6,e7,e8,e9,e10⟩:=elev HJ.out
    go_wp2_with fail
    clear e0 e1 e2 e3 e4 e5 e6 e7 e8 e9 e10
    refine (HRQ.out _ HB.out).mono ?_
    rintro e a8 ⟨rfl,hb⟩
    replace HJ:=qq (HJ.out.next hb)
    replace HB:=qq (Below.next HB.out hb);clear hb
    go_wp2_with fail
    go_ret
    exact ⟨rfl,HB.out⟩
  · obtain ⟨rfl,rfl⟩:=hbad h0
    have hne:(jr j == 0)=false:=beq_eq_false_iff_ne.2 h0
    clear HRP h0
    obtain ⟨e0,e1,e2,e3,e4,e5,e6,e7,e8,e9,e10⟩:=elev HJ.out
    go_wp2_with fail
    clear e0 e1 e2 e3 e4 e5 e6 e7 e8 e9 e10
    refine (HRR.out _ HB.out).mono ?_
    rintro e a8 ⟨rfl,hb⟩
    replace HJ:=qq (HJ.out.next hb)
    replace HB:=qq (Below.next HB.out hb);clear hb
    go_wp2_with fail
    go_ret
    exact ⟨rfl,HB.out⟩
end Go.Proofs.YtgakcpcpfkoaiaaGreatDoor.Jo
namespace Go.Proofs.YtgakcpcpfkoaiaaGreatDoor.Jo
open Go.ChangeShapes Go.WideShapes Go.ChangeAt Go.RowKit Ov Ga Va
theorem text_gcd (c:ByteArray):(c.toList == [103,99,100])=decide (c.data.toList=wGcd):=by
 rw [ByteArray.toList_eq,Bool.eq_iff_iff,beq_iff_eq,decide_eq_true_iff];rfl
theorem rfold_any (c:ByteArray) (k n x y k' n' x' y':Int) (s s':ByteArray) (w:World) (z1:s.size≤6000) (z2:s'.size≤6000) :
 Calls Tryz.prog 7 #[.string c,.agg #[.int .i64 k,.int .i64 n,.string s,.int .i64 x,.int .i64 y],.agg #[.int .i64 k',.int .i64 n',.string s',.int .i64 x',.int .i64 y']] w (Gives (.tuple #[.agg #[.int .i64 (fo c.data.toList ⟨k,n,s.data.toList,x,y⟩ ⟨k',n',s'.data.toList,x',y'⟩).1.k,.int .i64 (fo c.data.toList ⟨k,n,s.data.toList,x,y⟩ ⟨k',n',s'.data.toList,x',y'⟩).1.n,.string (tx (fo c.data.toList ⟨k,n,s.data.toList,x,y⟩ ⟨k',n',s'.data.toList,x',y'⟩).1.s),.int .i64 (fo c.data.toList ⟨k,n,s.data.toList,x,y⟩ ⟨k',n',s'.data.toList,x',y'⟩).1.x,.int .i64 (fo c.data.toList ⟨k,n,s.data.toList,x,y⟩ ⟨k',n',s'.data.toList,x',y'⟩).1.y],.int .i64 (fo c.data.toList ⟨k,n,s.data.toList,x,y⟩ ⟨k',n',s'.data.toList,x',y'⟩).2]) w):=by
 have HF:=rfolds_any c
 have HA:=rright_val k n x y s
 have HQ:=rright_val k' n' x' y' s'
 by_cases h1:isF c.data.toList=true
 rotate_left
 · rw [fo_no (fun h=>h1 h.1)]
   rw [Bool.not_eq_true] at h1
   rw [h1] at HF
   exact rf_e1 c k k' n x y n' x' y' s s' w (qq HF)
 rw [h1] at HF
 by_cases h2:rt ⟨k,n,s.data.toList,x,y⟩=true
 rotate_left
 · rw [fo_no (fun h=>h2 h.2.1)]
   rw [Bool.not_eq_true] at h2
   rw [h2] at HA
   exact rf_e2 c k k' n x y n' x' y' s s' w (qq HF) (qq HA)
 rw [h2] at HA
 by_cases h3:rt ⟨k',n',s'.data.toList,x',y'⟩=true
 rotate_left
 · rw [fo_no (fun h=>h3 h.2.2)]
   rw [Bool.not_eq_true] at h3
   rw [h3] at HQ
   exact rf_e3 c k k' n x y n' x' y' s s' w (qq HF) (qq HA) (qq HQ)
 rw [h3] at HQ
 rw [fo_yes ⟨h1,h2,h3⟩]
 by_cases h4:k=k'
 rotate_left
 · rw [if_neg (fun h=>h4 h.1)]
   exact rf_k c k k' n x y n' x' y' s s' w (qq HF) (qq HA) (qq HQ) h4
 subst h4
 have qs:=sum_text c;have qm:=text_max c;have qi:=text_min c;have qg:=text_gcd c
 have HO:=fun w=>rorder_val k n x y k n' x' y' s s' w h2 h3 z1 z2
 have hc:(c.data.toList=wMax∨c.data.toList=wMin)→opf c.data.toList ⟨k,n,s.data.toList,x,y⟩ ⟨k,n',s'.data.toList,x',y'⟩=if decide (ord ⟨k,n,s.data.toList,x,y⟩ ⟨k,n',s'.data.toList,x',y'⟩<0)=decide (c.data.toList=wMax) then ⟨k,n',s'.data.toList,x',y'⟩ else ⟨k,n,s.data.toList,x,y⟩:=fun h=>by unfold opf;rw [if_pos h]
 by_cases h5:c.data.toList=wMax
 · rw [if_pos ⟨rfl,decide_eq_true (.inl h5)⟩,hc (.inl h5)]
   rw [h5] at qs qm qg ⊢
   rcases ord_rng ⟨k,n,s.data.toList,x,y⟩ ⟨k,n',s'.data.toList,x',y'⟩ with ho | ho | ho
   · simp only [ho] at HO ⊢
     rw [if_pos (by decide)]
     simp only [tx_self]
     exact rf_maxn c k n x y n' x' y' s s' w (qq HF) (qq HA) (qq HQ) qs qm qg (qq HO)
   · have he:=(ord_zero _ _).1 ho
     simp only [ho] at HO ⊢
     rw [if_neg (by decide),he]
     simp only [tx_self]
     exact rf_maxz c k n x y n' x' y' s s' w (qq HF) (qq HA) (qq HQ) qs qm qg (qq HO)
   · simp only [ho] at HO ⊢
     rw [if_neg (by decide)]
     simp only [tx_self]
     exact rf_maxp c k n x y n' x' y' s s' w (qq HF) (qq HA) (qq HQ) qs qm qg (qq HO)
 by_cases h6:c.data.toList=wMin
 · rw [if_pos ⟨rfl,decide_eq_true (.inr (.inl h6))⟩,hc (.inr h6)]
   rw [h6] at qs qm qi qg ⊢
   rcases ord_rng ⟨k,n,s.data.toList,x,y⟩ ⟨k,n',s'.data.toList,x',y'⟩ with ho | ho | ho
   · simp only [ho] at HO ⊢
     rw [if_neg (by decide)]
     simp only [tx_self]
     exact rf_minn c k n x y n' x' y' s s' w (qq HF) (qq HA) (qq HQ) qs qm qi qg (qq HO)
   · simp only [ho] at HO ⊢
     rw [if_pos (by decide)]
     simp only [tx_self]
     exact rf_minz c k n x y n' x' y' s s' w (qq HF) (qq HA) (qq HQ) qs qm qi qg (qq HO)
   · simp only [ho] at HO ⊢
     rw [if_pos (by decide)]
     simp only [tx_self]
     exact rf_minp c k n x y n' x' y' s s' w (qq HF) (qq HA) (qq HQ) qs qm qi qg (qq HO)
 have hno:¬ (c.data.toList=wMax∨c.data.toList=wMin):=fun h=>h.elim h5 h6
 rw [decide_eq_false h5] at qm
 rw [decide_eq_false h6] at qi
 have hsg:c.data.toList=wSum∨(c.data.toList ≠ wSum∧c.data.toList=wGcd):=by
  rcases of_decide_eq_true h1 with h | h | h | h
  · exact .inl h
  · exact absurd h h5
  · exact absurd h h6
  · exact .inr ⟨fun e=>by rw [e] at h;exact absurd h (by decide),h⟩
 rcases rt_yes h2 with hk | hk | hk
 · obtain ⟨hk,-⟩:=hk
   change k=0 at hk
   subst hk
   rw [if_pos ⟨rfl,decide_eq_true (.inr (.inr (.inl rfl)))⟩]
   have b1:-9007199254740992≤n∧n≤9007199254740992:=(rt_k0 h2 rfl).1
   have b2:-9007199254740992≤n'∧n'≤9007199254740992:=(rt_k0 h3 rfl).1
   rcases hsg with h7 | ⟨h8,h7⟩
   · have e:opf c.data.toList ⟨0,n,s.data.toList,x,y⟩ ⟨0,n',s'.data.toList,x',y'⟩=vn (rg (n+n') 9007199254740992):=by unfold opf;rw [if_neg hno,if_pos rfl,if_pos h7]
     rw [e]
     rw [h7] at qs
     exact rf_sn c n x y n' x' y' s s' w (qq HF) (qq HA) (qq HQ) qs qm qi _ _ (qq HO) (IntWalk.wrap64_in _ (by omega)) (qq fun w=>rwrap_any (n+n') 9007199254740992 (by decide) (by omega) w)
   · have e:opf c.data.toList ⟨0,n,s.data.toList,x,y⟩ ⟨0,n',s'.data.toList,x',y'⟩=vn (Int.gcd n n':Int):=by unfold opf;rw [if_neg hno,if_pos rfl,if_neg h8]
     rw [e]
     rw [decide_eq_false h8] at qs
     rw [h7] at qg
     have m1:max n (wrap64 (-n))=(n.natAbs:Int):=by rw [IntWalk.wrap64_in _ (by omega)];omega
     have m2:max n' (wrap64 (-n'))=(n'.natAbs:Int):=by rw [IntWalk.wrap64_in _ (by omega)];omega
     exact rf_gn c n x y n' x' y' s s' w (qq HF) (qq HA) (qq HQ) qs qm qi _ _ (qq HO) m1 m2 (qq fun w=>rgcd_any n'.natAbs n.natAbs w (by omega) (by omega))
 · obtain ⟨hk,-⟩:=hk
   change k=1 at hk
   subst hk
   rw [if_neg (fun h=>by rcases of_decide_eq_true h.2 with h | h | h | h <;> first | exact h5 h | exact h6 h | exact absurd (show (1:Int)=0 from h) (by decide) | exact absurd (show (1:Int)=2 from h) (by decide))]
   rcases hsg with h7 | ⟨h8,h7⟩
   · rw [h7] at qs
     exact rf_tsum c n x y n' x' y' s s' w (qq HF) (qq HA) (qq HQ) qs
   · rw [decide_eq_false h8] at qs
     rw [h7] at qg
     exact rf_tgcd c n x y n' x' y' s s' w (qq HF) (qq HA) (qq HQ) qs qg
 · obtain ⟨hk,-⟩:=hk
   change k=2 at hk
   subst hk
   rw [if_pos ⟨rfl,decide_eq_true (.inr (.inr (.inr rfl)))⟩]
   have g1:rb ⟨x,y⟩=true:=(rt_k2 h2 rfl).1
   have g2:rb ⟨x',y'⟩=true:=(rt_k2 h3 rfl).1
   rcases hsg with h7 | ⟨h8,h7⟩
   · have e:opf c.data.toList ⟨2,n,s.data.toList,x,y⟩ ⟨2,n',s'.data.toList,x',y'⟩=vp ⟨rg (x+x') 16777216,rg (y+y') 16777216⟩:=by unfold opf;rw [if_neg hno,if_neg (show ¬ (2:Int)=0 by decide),if_pos h7]
     rw [e]
     rw [h7] at qs
     have b1:=rb_xy g1;have b2:=rb_xy g2
     exact rf_sp c n x y n' x' y' s s' w (qq HF) (qq HA) (qq HQ) qs qm qi _ _ _ (qq HO) (IntWalk.wrap64_in _ (by omega)) (IntWalk.wrap64_in _ (by omega)) (qq fun w=>rwrap_any (x+x') 16777216 (by decide) (by omega) w) (qq fun w=>rwrap_any (y+y') 16777216 (by decide) (by omega) w)
   · have e:opf c.data.toList ⟨2,n,s.data.toList,x,y⟩ ⟨2,n',s'.data.toList,x',y'⟩=vp (Pt.cg ⟨x,y⟩ ⟨x',y'⟩):=by unfold opf;rw [if_neg hno,if_neg (show ¬ (2:Int)=0 by decide),if_neg h8];rfl
     rw [e]
     rw [decide_eq_false h8] at qs
     rw [h7] at qg
     exact rf_gp c n x y n' x' y' s s' w (qq HF) (qq HA) (qq HQ) qs qm qi _ _ _ (qq HO) (qq fun w=>rcommon_any g1 g2 w)
end Go.Proofs.YtgakcpcpfkoaiaaGreatDoor.Jo
namespace Go.Proofs.YtgakcpcpfkoaiaaGreatDoor.Jo
open Go.ChangeShapes Go.WideShapes Go.ChangeAt Go.RowKit Ov Va Ex Ev
theorem rpart_any (j:Jb) (A1:Option Addr) (c1:Nat) (A2:Option Addr) (c2:Nat) (A3:Option Addr) (c3:Nat) (key:List UInt8) (w:World) (hj:JL w j A1 A2 A3) (hk:KN w) (ht:Tab w) (h0:jr j=0) (hl:key.length≤9223372036854775807):Calls Tryz.prog 11 #[.agg #[.string (tx j.nm),.int .i64 j.t,.int .i64 j.p,.int .i64 j.k,.int .i64 j.n,.int .i64 j.f,.slice A1 j.m.length c1,.slice A2 j.b.length c2,.slice A3 j.r.length c3,.string (tx j.fd),.bool j.cb],.string (tx key)] w (Gives (.tuple #[.int .i64 (pt j key).1,.int .i64 (pt j key).2]) w):=by
 have hp:=(numOk_in (jr_zero h0).2.1).2.1
 have hs:(tx key).size=key.length:=tx_size key
 have hpt:pt j key=if 64<key.length then (0,3) else if j.b.isEmpty then (((Cr.sm key:Nat):Int) % j.p,0) else pm j.p (rnX j.b key vz vz j.f):=by unfold pt;rw [if_neg (by omega)]
 have HM:=qq (fun w1 (h:Below w.heap.size w w1)=>mrun_any j.b A2 c2 key vz vz j.f w1 (hj.b.next h) (hk.next h) (ht.next h) hj.lb)
 have HJ:=qq (made11 w 24 (.string (tx j.nm)) (.int .i64 j.t) (.int .i64 j.p) (.int .i64 j.k) (.int .i64 j.n) (.int .i64 j.f) (.slice A1 j.m.length c1) (.slice A2 j.b.length c2) (.slice A3 j.r.length c3) (.string (tx j.fd)) (.bool j.cb))
 have HB:=qq (box1 w (.cells #[.string (tx j.nm),.int .i64 j.t,.int .i64 j.p,.int .i64 j.k,.int .i64 j.n,.int .i64 j.f,.slice A1 j.m.length c1,.slice A2 j.b.length c2,.slice A3 j.r.length c3,.string (tx j.fd),.bool j.cb] 24))
 clear hj hk ht h0
 by_cases hlen:64<key.length
 · have g1:decide ((64:Int)<(key.length:Int))=true:=decide_eq_true (by omega)
   have g2:decide (64<key.length)=true:=decide_eq_true hlen
   rw [if_pos hlen] at hpt
   rw [hpt]
   clear hlen hpt hp
   go_enter Tryz.func11,Tryz.ntmps11
   go_wp2_with fail
   exact bodyPost_ret (v:=.tuple #[.int .i64 0,.int .i64 3]) (by simp [results,Tryz.results11,go_sem]) rfl ⟨rfl,HB.out⟩
 · have g1:decide ((64:Int)<(key.length:Int))=false:=decide_eq_false (by omega)
   have g2:decide (64<key.length)=false:=decide_eq_false hlen
   rw [if_neg hlen] at hpt
   by_cases hb0:j.b.length=0
   · have hbe:j.b.isEmpty=true:=List.isEmpty_iff.2 (List.eq_nil_of_length_eq_zero hb0)
     rw [hbe,if_pos rfl] at hpt
     have HSM:Hid (∀ w1,Calls Tryz.prog 30 #[.string (tx key)] w1 (Gives (.int .i64 (Cr.sm key:Nat)) w1)):=qq fun w1=>by
      have h:=Cr.rsum_any (tx key) w1 (by rw [tx_size];omega)
      rw [tx_list] at h
      exact h.mono fun e w' h=>⟨h.1,by rw [h.2];exact Below.refl _ _⟩
     generalize Cr.sm key=m at *
     have hm:(m:Int).tmod j.p=(m:Int) % j.p:=Int.tmod_eq_emod_of_nonneg (by omega)
     have h5:(j.p == 0)=false:=beq_eq_false_iff_ne.2 (by omega)
     have h6:¬ j.p=0:=by omega
     rw [hpt]
     rw [hb0] at HJ HB ⊢
     clear hpt hbe hlen HM hp hb0
     go_enter Tryz.func11,Tryz.ntmps11
     have e7:=HJ.out.c 7 _ rfl
     go_upto_region 4 with (fail)
     clear e7
     generalize w.alloc (.cells #[.string (tx j.nm),.int .i64 j.t,.int .i64 j.p,.int .i64 j.k,.int .i64 j.n,.int .i64 j.f,.slice A1 j.m.length c1,.slice A2 0 c2,.slice A3 j.r.length c3,.string (tx j.fd),.bool j.cb] 24)=v at *
     have k2:=fun r:Over v=>(HJ.out.over r).c 2 _ rfl
     refine wp_over (by kernel_rfl) (by kernel_rfl) ?_
     repeat (go_big_quiet_step (first | fail | with_reducible exact over_gives _ (HSM.out _)))
     refine wpQuiet_nil ?_
     rintro wq ⟨⟨w2,hb⟩,rfl⟩
     replace HB:=qq (Below.next HB.out hb);clear hb k2
     go_wp2_with fail
     exact bodyPost_ret (v:=.tuple #[.int .i64 ((m:Int) % j.p),.int .i64 0]) (by simp [results,Tryz.results11,go_sem]) rfl ⟨rfl,HB.out⟩
   · have k1:((j.b.length:Int) == 0)=false:=beq_eq_false_iff_ne.2 (by omega)
     have hbe:j.b.isEmpty=false:=by rw [Bool.eq_false_iff];intro e;exact hb0 (by rw [List.isEmpty_iff.1 e];rfl)
     rw [hbe,if_neg (by decide)] at hpt
     obtain ⟨X,hX⟩:∃ X,rnX j.b key vz vz j.f=X:=⟨_,rfl⟩
     rw [hX] at hpt HM
     have HPT:=qq hpt
     have h5:(j.p == 0)=false:=beq_eq_false_iff_ne.2 (by omega)
     have h6:¬ j.p=0:=by omega
     have HP:=qq hp
     clear hpt hX hbe hb0 hlen hp
     go_enter Tryz.func11,Tryz.ntmps11
     obtain ⟨e0,e1,e2,e3,e4,e5,e6,e7,e8,e9,e10⟩:=elev HJ.out
     go_wp2_with fail
     clear e0 e1 e2 e3 e4 e5 e6 e7 e8 e9 e10
     generalize w.alloc (.cells #[.string (tx j.nm),.int .i64 j.t,.int .i64 j.p,.int .i64 j.k,.int .i64 j.n,.int .i64 j.f,.slice A1 j.m.length c1,.slice A2 j.b.length c2,.slice A3 j.r.length c3,.string (tx j.fd),.bool j.cb] 24)=v at *
     refine (HM.out _ HB.out).mono ?_
     rintro e w2 ⟨hb,hx⟩
     replace HJ:=qq (HJ.out.next hb);replace HB:=qq (Below.next HB.out hb);clear hb
     cases X with
     | er x =>
       obtain ⟨hx0,rfl⟩:=hx
       have hne:(x == 0)=false:=beq_eq_false_iff_ne.2 hx0
       have HE:Hid (pt j key=(0,x)):=HPT
       clear hx0
       go_wp2_with fail
       exact bodyPost_ret (v:=.tuple #[.int .i64 0,.int .i64 x]) (by simp [results,Tryz.results11,go_sem]) rfl ⟨by rw [HE.out],below_box HB.out _⟩
     | ok z S q =>
       obtain ⟨Ao,co,-,rfl⟩:=hx
       have HE:Hid (pt j key=if z.k=0 then (z.n % j.p,0) else (0,13)):=HPT
       have D:=Blk.made w2 28 [.int .i64 z.k,.int .i64 z.n,.string (tx z.s),.int .i64 z.x,.int .i64 z.y] rfl
       change Blk (w2.alloc (.cells #[.int .i64 z.k,.int .i64 z.n,.string (tx z.s),.int .i64 z.x,.int .i64 z.y] 28)) _ _ at D
       have hbe:=box1 w2 (.cells #[.int .i64 z.k,.int .i64 z.n,.string (tx z.s),.int .i64 z.x,.int .i64 z.y] 28)
       have hb:=hbe
       have HD:=qq D
       replace HJ:=qq (HJ.out.next hb);replace HB:=qq (Below.next HB.out hb)
       clear D hbe hb
       go_upto_region 6 with (fail)
       generalize w2.alloc (.cells #[.int .i64 z.k,.int .i64 z.n,.string (tx z.s),.int .i64 z.x,.int .i64 z.y] 28)=w3 at *
       have d0:=HD.out.c 0 _ rfl
       have d1:=HD.out.c 1 _ rfl
       have e2:=HJ.out.c 2 _ rfl
       by_cases hz:z.k=0
       · have q1:(z.k == 0)=true:=beq_iff_eq.2 hz
         have HE2:Hid (pt j key=(z.n % j.p,0)):=qq (by rw [HE.out,if_pos hz])
         have b1:=Int.lt_tmod_of_pos z.n HP.out.1
         have b2:=Int.tmod_lt_of_pos z.n HP.out.1
         have b3:z.n % j.p=if z.n.tmod j.p<0 then z.n.tmod j.p+j.p else z.n.tmod j.p:=by
          have e:z.n % j.p=(z.n.tmod j.p) % j.p:=by
           conv=>lhs;rw [← Int.tmod_add_mul_tdiv z.n j.p,Int.add_mul_emod_self_left]
          rw [e]
          have:=HP.out
          generalize z.n.tmod j.p=r at *
          split
          · rw [← Int.add_emod_right,Int.emod_eq_of_lt (by omega) (by omega)]
          · rw [Int.emod_eq_of_lt (by omega) (by omega)]
         obtain ⟨r,hr⟩:∃ r,z.n.tmod j.p=r:=⟨_,rfl⟩
         rw [hr] at b1 b2 b3
         have hp:=HP.out
         have h3:wrap64 (r+j.p)=r+j.p:=IntWalk.wrap64_in _ (by omega)
         have HB3:=qq b3
         rw [hz] at d0
         clear hz b3 b1 b2 hp q1
         by_cases hr0:r<0
         · have q2:decide (r<0)=true:=decide_eq_true hr0
           have HE3:Hid (pt j key=(r+j.p,0)):=qq (by rw [HE2.out,HB3.out,if_pos hr0])
           clear hr0
           go_wp2_with fail
           exact bodyPost_ret (v:=.tuple #[.int .i64 (r+j.p),.int .i64 0]) (by simp [results,Tryz.results11,go_sem,h3]) rfl ⟨by rw [HE3.out],HB.out⟩
         · have q2:decide (r<0)=false:=decide_eq_false hr0
           have HE3:Hid (pt j key=(r,0)):=qq (by rw [HE2.out,HB3.out,if_neg hr0])
           clear hr0
           go_wp2_with fail
           exact bodyPost_ret (v:=.tuple #[.int .i64 r,.int .i64 0]) (by simp [results,Tryz.results11,go_sem]) rfl ⟨by rw [HE3.out],HB.out⟩
       · have q1:(z.k == 0)=false:=beq_eq_false_iff_ne.2 hz
         have HE2:Hid (pt j key=(0,13)):=qq (by rw [HE.out,if_neg hz])
         go_wp2_with fail
         exact bodyPost_ret (v:=.tuple #[.int .i64 0,.int .i64 13]) (by simp [results,Tryz.results11,go_sem]) rfl ⟨by rw [HE2.out],HB.out⟩
end Go.Proofs.YtgakcpcpfkoaiaaGreatDoor.Jo
namespace Go.Proofs.YtgakcpcpfkoaiaaGreatDoor.Jo
open Go.ChangeShapes Go.WideShapes Go.ChangeAt Go.RowKit Ov Ga Va Ex Ev
theorem parts_core (j:Jb) (A1:Option Addr) (c1:Nat) (A2:Option Addr) (c2:Nat) (A3:Option Addr) (c3:Nat) (key:List UInt8) (c:ByteArray) (k n x y k' n' x' y':Int) (s s':ByteArray) (w:World) (hj:JA w j A1 A2 A3) (hT:Tab w) (hK:KN w) (hk:key.length≤9223372036854775807) :
 Calls Tryz.prog 3 #[.agg #[.string (tx j.nm),.int .i64 j.t,.int .i64 j.p,.int .i64 j.k,.int .i64 j.n,.int .i64 j.f,.slice A1 j.m.length c1,.slice A2 j.b.length c2,.slice A3 j.r.length c3,.string (tx j.fd),.bool j.cb],.string (tx key),.string c,.agg #[.int .i64 k,.int .i64 n,.string s,.int .i64 x,.int .i64 y],.agg #[.int .i64 k',.int .i64 n',.string s',.int .i64 x',.int .i64 y']] w (Gives (.bool true) w):=by
 obtain ⟨⟨m,v⟩,hP⟩:∃ P,pt j key=P:=⟨_,rfl⟩
 refine parts_walk j A1 c1 A2 c2 A3 c3 key c k n x y k' n' x' y' _ _ _ _ _ s s' _ m v w hj hk (fun _ _=>qq fun w1=>fold_any c k n x y k' n' x' y' s s' w1) (fun i1 i2=>qq fun w1=>rfold_any c k n x y k' n' x' y' s s' w1 (by omega) (by omega)) (qq fun w1 B1 d1 B2 d2 B3 d3 hl hn hb=>?_) (qq fun w1 hl h0 hb=>?_) (fun h0=>?_)
 · have h:=part_any j B1 d1 B2 d2 B3 d3 key w1 hl (hK.next hb) (by omega) (hT.next hb) hk
   unfold PQ at h;rw [hP] at h
   exact h.mono fun _ _ h=>h.1
 · have h:=rpart_any j A1 c1 A2 c2 A3 c3 key w1 hl (hK.next hb) (hT.next hb) h0 hk
   rw [hP] at h
   exact h
 · unfold pt at hP;rw [if_pos h0] at hP
   exact ⟨(congrArg Prod.fst hP).symm,(congrArg Prod.snd hP).symm⟩
end Go.Proofs.YtgakcpcpfkoaiaaGreatDoor.Jo

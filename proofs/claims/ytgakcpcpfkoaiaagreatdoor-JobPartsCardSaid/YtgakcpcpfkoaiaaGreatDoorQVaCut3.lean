/-
  A text of this claim: VaCut3.
-/
import Derived.Test.YtgakcpcpfkoaiaaGreatDoorQ1
import Derived.Test.YtgakcpcpfkoaiaaGreatDoorQ3
set_option maxHeartbeats 2000000
namespace Go.Proofs.YtgakcpcpfkoaiaaGreatDoor.Va
open Go.ChangeShapes Go.WideShapes Go.ChangeAt Go.RowKit Ov Tp
def vv (v:Va):Value:=.agg #[.int .i64 v.k,.int .i64 v.n,.string (tx v.s),.int .i64 v.x,.int .i64 v.y]
def prv (r:Va × Nat × Nat):Value:=.tuple #[vv r.1,.int .i64 (r.2.1:Int),.int .i64 (r.2.2:Int)]
theorem nums_err (s:ByteArray) (w:World) (hs:s.size≤281474976710656) {k:Nat} (h:cw s.data.toList=(0,0,k)) (hk:0<k) :
 Calls Tryz.prog 163 #[.string s] w (Gives (prv (vz,0,k)) w):=by
 have HC:=qq (cutWhole_any s);rw [h] at HC;clear h
 have h0:((k:Int) != 0)=true:=by rw [bne_iff_ne];omega
 go_enter Tryz.func163,Tryz.ntmps163
 go_wp2_with fail
 refine (HC.out _ hs).mono ?_
 rintro e w' ⟨rfl,rfl⟩
 unfold cwv
 go_wp2_with fail
 refine bodyPost_ret (v:=prv (vz,0,k)) (by simp [results,Tryz.results163,go_sem];rfl) rfl ⟨rfl,?_⟩
 exact box1 w _
theorem nums_one_yes (s:ByteArray) (w:World) (hs:s.size≤281474976710656) {n:Int} {z:Nat} (h:cw s.data.toList=(n,z,0)) (hz:z≤s.size) (hc:(s.data.toList.drop z).head? ≠ some 58) (hq:rt ⟨0,n,[],0,0⟩=true) :
 Calls Tryz.prog 163 #[.string s] w (Gives (prv (⟨0,n,[],0,0⟩,z,0)) w):=by
 have HC:=qq (cutWhole_any s);rw [h] at HC;clear h
 have HP:=qq (prefix_any (s.extract z s.size) 58)
 rw [ext_list,decide_eq_false hc] at HP;clear hc
 have HN:=qq (number_any n)
 have HR:Hid (∀ w,Calls Tryz.prog 13 #[.agg #[.int .i64 0,.int .i64 n,.string ⟨#[]⟩,.int .i64 0,.int .i64 0]] w (Gives (.bool (rt ⟨0,n,[],0,0⟩)) w)):=right_val 0 n 0 0 ⟨#[]⟩
 rw [hq] at HR;clear hq
 go_enter Tryz.func163,Tryz.ntmps163
 go_wp2_with fail
 have kb:=box1 w (.cells #[.int .i64 0,.int .i64 0,.string ⟨#[]⟩,.int .i64 0,.int .i64 0] 28)
 have R:=Blk.made w 28 (vcs 0 0 ⟨#[]⟩ 0 0) rfl
 change Blk (w.alloc (.cells #[.int .i64 0,.int .i64 0,.string ⟨#[]⟩,.int .i64 0,.int .i64 0] 28)) w.heap.size _ at R
 generalize w.alloc (.cells #[.int .i64 0,.int .i64 0,.string ⟨#[]⟩,.int .i64 0,.int .i64 0] 28)=w0 at *
 refine (HC.out _ hs).mono ?_
 rintro e w' ⟨rfl,rfl⟩
 unfold cwv
 go_wp2_with fail
 refine (HN.out _).mono ?_
 rintro e w1 ⟨rfl,hb⟩
 have HB1:=qq ((Below.next kb hb).alloc (Below.next kb hb).size (.cells #[.int .i64 0,.int .i64 n,.string ⟨#[]⟩,.int .i64 0,.int .i64 0] 28))
 have R1:=qq ((R.next hb).old (.cells #[.int .i64 0,.int .i64 n,.string ⟨#[]⟩,.int .i64 0,.int .i64 0] 28))
 have D1:=Blk.made w1 28 (vcs 0 n ⟨#[]⟩ 0 0) rfl
 have hlo:w.heap.size<w1.heap.size:=Nat.lt_of_lt_of_le R.lt hb.size
 clear hb kb R
 go_wp2_with fail
 change Blk (w1.alloc (.cells #[.int .i64 0,.int .i64 n,.string ⟨#[]⟩,.int .i64 0,.int .i64 0] 28)) w1.heap.size _ at D1
 generalize w1.alloc (.cells #[.int .i64 0,.int .i64 n,.string ⟨#[]⟩,.int .i64 0,.int .i64 0] 28)=w2 at *
 generalize w1.heap.size=d at *
 refine (HP.out _).mono ?_
 rintro e w' ⟨rfl,rfl⟩
 have c0:=D1.v0;have c1:=D1.v1;have c2:=D1.v2;have c3:=D1.v3;have c4:=D1.v4
 go_wp2_with fail
 clear c0 c1 c2 c3 c4
 refine (HR.out _).mono ?_
 rintro e w5 ⟨rfl,hb⟩
 have HB5:=qq (Below.next HB1.out hb)
 have R5:=R1.out.next hb
 have D5:=D1.next hb
 clear hb
 have c0:=D5.v0;have c1:=D5.v1;have c2:=D5.v2;have c3:=D5.v3;have c4:=D5.v4
 have r0:=R5.v0;have r1:=R5.v1;have r2:=R5.v2;have r3:=R5.v3;have r4:=R5.v4
 have f0:=R5.g0;have f1:=R5.g1;have f2:=R5.g2;have f3:=R5.g3;have f4:=R5.g4
 have RR:=fun a0 a1 a2 a3 a4=>R5.all5 a0 a1 a2 a3 a4
 have RH:=qq RR
 clear RR R5 D5
 go_wp2_with fail
 have RF:=RH.out (.int .i64 0) (.int .i64 n) (.string ⟨#[]⟩) (.int .i64 0) (.int .i64 0)
 have c0:=RF.c 0 _ rfl;have c1:=RF.c 1 _ rfl;have c2:=RF.c 2 _ rfl;have c3:=RF.c 3 _ rfl;have c4:=RF.c 4 _ rfl
 clear RF
 refine bodyPost_ret (v:=prv (⟨0,n,[],0,0⟩,z,0)) (by simp [results,Tryz.results163,go_sem,c0,c1,c2,c3,c4];rfl) rfl ⟨rfl,?_⟩
 exact below_all5 HB5.out (Nat.le_refl _) _ _ _ _ _
theorem nums_one_no (s:ByteArray) (w:World) (hs:s.size≤281474976710656) {n:Int} {z:Nat} (h:cw s.data.toList=(n,z,0)) (hz:z≤s.size) (hc:(s.data.toList.drop z).head? ≠ some 58) (hq:rt ⟨0,n,[],0,0⟩=false) :
 Calls Tryz.prog 163 #[.string s] w (Gives (prv (vz,0,14)) w):=by
 have HC:=qq (cutWhole_any s);rw [h] at HC;clear h
 have HP:=qq (prefix_any (s.extract z s.size) 58)
 rw [ext_list,decide_eq_false hc] at HP;clear hc
 have HN:=qq (number_any n)
 have HR:Hid (∀ w,Calls Tryz.prog 13 #[.agg #[.int .i64 0,.int .i64 n,.string ⟨#[]⟩,.int .i64 0,.int .i64 0]] w (Gives (.bool (rt ⟨0,n,[],0,0⟩)) w)):=right_val 0 n 0 0 ⟨#[]⟩
 rw [hq] at HR;clear hq
 go_enter Tryz.func163,Tryz.ntmps163
 go_wp2_with fail
 have kb:=box1 w (.cells #[.int .i64 0,.int .i64 0,.string ⟨#[]⟩,.int .i64 0,.int .i64 0] 28)
 have R:=Blk.made w 28 (vcs 0 0 ⟨#[]⟩ 0 0) rfl
 change Blk (w.alloc (.cells #[.int .i64 0,.int .i64 0,.string ⟨#[]⟩,.int .i64 0,.int .i64 0] 28)) w.heap.size _ at R
 generalize w.alloc (.cells #[.int .i64 0,.int .i64 0,.string ⟨#[]⟩,.int .i64 0,.int .i64 0] 28)=w0 at *
 refine (HC.out _ hs).mono ?_
 rintro e w' ⟨rfl,rfl⟩
 unfold cwv
 go_wp2_with fail
 refine (HN.out _).mono ?_
 rintro e w1 ⟨rfl,hb⟩
 have HB1:=qq ((Below.next kb hb).alloc (Below.next kb hb).size (.cells #[.int .i64 0,.int .i64 n,.string ⟨#[]⟩,.int .i64 0,.int .i64 0] 28))
 have R1:=qq ((R.next hb).old (.cells #[.int .i64 0,.int .i64 n,.string ⟨#[]⟩,.int .i64 0,.int .i64 0] 28))
 have D1:=Blk.made w1 28 (vcs 0 n ⟨#[]⟩ 0 0) rfl
 have hlo:w.heap.size<w1.heap.size:=Nat.lt_of_lt_of_le R.lt hb.size
 clear hb kb R
 go_wp2_with fail
 change Blk (w1.alloc (.cells #[.int .i64 0,.int .i64 n,.string ⟨#[]⟩,.int .i64 0,.int .i64 0] 28)) w1.heap.size _ at D1
 generalize w1.alloc (.cells #[.int .i64 0,.int .i64 n,.string ⟨#[]⟩,.int .i64 0,.int .i64 0] 28)=w2 at *
 generalize w1.heap.size=d at *
 refine (HP.out _).mono ?_
 rintro e w' ⟨rfl,rfl⟩
 have c0:=D1.v0;have c1:=D1.v1;have c2:=D1.v2;have c3:=D1.v3;have c4:=D1.v4
 go_wp2_with fail
 clear c0 c1 c2 c3 c4
 refine (HR.out _).mono ?_
 rintro e w5 ⟨rfl,hb⟩
 have HB5:=qq (Below.next HB1.out hb)
 have R5:=R1.out.next hb
 have D5:=D1.next hb
 clear hb
 have c0:=D5.v0;have c1:=D5.v1;have c2:=D5.v2;have c3:=D5.v3;have c4:=D5.v4
 have r0:=R5.v0;have r1:=R5.v1;have r2:=R5.v2;have r3:=R5.v3;have r4:=R5.v4
 have f0:=R5.g0;have f1:=R5.g1;have f2:=R5.g2;have f3:=R5.g3;have f4:=R5.g4
 have RR:=fun a0 a1 a2 a3 a4=>R5.all5 a0 a1 a2 a3 a4
 have RH:=qq RR
 clear RR R5 D5
 go_wp2_with fail
 have RF:=RH.out (.int .i64 0) (.int .i64 0) (.string ⟨#[]⟩) (.int .i64 0) (.int .i64 0)
 have c0:=RF.c 0 _ rfl;have c1:=RF.c 1 _ rfl;have c2:=RF.c 2 _ rfl;have c3:=RF.c 3 _ rfl;have c4:=RF.c 4 _ rfl
 clear RF
 refine bodyPost_ret (v:=prv (vz,0,14)) (by simp [results,Tryz.results163,go_sem,c0,c1,c2,c3,c4];rfl) rfl ⟨rfl,?_⟩
 exact below_all5 HB5.out (Nat.le_refl _) _ _ _ _ _
theorem nums_two_err (s:ByteArray) (w:World) (hs:s.size≤281474976710656) {n:Int} {z:Nat} (h:cw s.data.toList=(n,z,0)) (hz:z<s.size) (hc:(s.data.toList.drop z).head? = some 58) {k:Nat} (h2:cw (s.data.toList.drop (z+1))=(0,0,k)) (hk:0<k) :
 Calls Tryz.prog 163 #[.string s] w (Gives (prv (vz,0,k)) w):=by
 have HC:=qq (cutWhole_any s);rw [h] at HC;clear h
 have HP:=qq (prefix_any (s.extract z s.size) 58)
 rw [ext_list,decide_eq_true hc] at HP;clear hc
 have HN:=qq (number_any n)
 have HC2:=qq (cutWhole_any (s.extract (z+1) s.size))
 rw [ext_list,h2] at HC2;clear h2
 have hz2:=ext_size s (z+1)
 have h0:((k:Int) != 0)=true:=by rw [bne_iff_ne];omega
 go_enter Tryz.func163,Tryz.ntmps163
 go_wp2_with fail
 have kb:=box1 w (.cells #[.int .i64 0,.int .i64 0,.string ⟨#[]⟩,.int .i64 0,.int .i64 0] 28)
 have R:=Blk.made w 28 (vcs 0 0 ⟨#[]⟩ 0 0) rfl
 change Blk (w.alloc (.cells #[.int .i64 0,.int .i64 0,.string ⟨#[]⟩,.int .i64 0,.int .i64 0] 28)) w.heap.size _ at R
 generalize w.alloc (.cells #[.int .i64 0,.int .i64 0,.string ⟨#[]⟩,.int .i64 0,.int .i64 0] 28)=w0 at *
 refine (HC.out _ hs).mono ?_
 rintro e w' ⟨rfl,rfl⟩
 unfold cwv
 go_wp2_with fail
 refine (HN.out _).mono ?_
 rintro e w1 ⟨rfl,hb⟩
 have HB1:=qq ((Below.next kb hb).alloc (Below.next kb hb).size (.cells #[.int .i64 0,.int .i64 n,.string ⟨#[]⟩,.int .i64 0,.int .i64 0] 28))
 have R1:=qq ((R.next hb).old (.cells #[.int .i64 0,.int .i64 n,.string ⟨#[]⟩,.int .i64 0,.int .i64 0] 28))
 have D1:=Blk.made w1 28 (vcs 0 n ⟨#[]⟩ 0 0) rfl
 have hlo:w.heap.size<w1.heap.size:=Nat.lt_of_lt_of_le R.lt hb.size
 clear hb kb R
 go_wp2_with fail
 change Blk (w1.alloc (.cells #[.int .i64 0,.int .i64 n,.string ⟨#[]⟩,.int .i64 0,.int .i64 0] 28)) w1.heap.size _ at D1
 generalize w1.alloc (.cells #[.int .i64 0,.int .i64 n,.string ⟨#[]⟩,.int .i64 0,.int .i64 0] 28)=w2 at *
 generalize w1.heap.size=d at *
 refine (HP.out _).mono ?_
 rintro e w' ⟨rfl,rfl⟩
 go_wp2_with fail
 refine (HC2.out _ (by omega)).mono ?_
 rintro e w' ⟨rfl,rfl⟩
 unfold cwv
 have r0:=R1.out.v0;have r1:=R1.out.v1;have r2:=R1.out.v2;have r3:=R1.out.v3;have r4:=R1.out.v4
 have f0:=R1.out.g0;have f1:=R1.out.g1;have f2:=R1.out.g2;have f3:=R1.out.g3;have f4:=R1.out.g4
 have HB5:=HB1
 have RR:=fun a0 a1 a2 a3 a4=>R1.out.all5 a0 a1 a2 a3 a4
 have RH:=qq RR
 clear RR D1 R1
 go_wp2_with fail
 have RF:=RH.out (.int .i64 0) (.int .i64 0) (.string ⟨#[]⟩) (.int .i64 0) (.int .i64 0)
 have c0:=RF.c 0 _ rfl;have c1:=RF.c 1 _ rfl;have c2:=RF.c 2 _ rfl;have c3:=RF.c 3 _ rfl;have c4:=RF.c 4 _ rfl
 clear RF
 refine bodyPost_ret (v:=prv (vz,0,k)) (by simp [results,Tryz.results163,go_sem,c0,c1,c2,c3,c4];rfl) rfl ⟨rfl,?_⟩
 exact below_all5 HB5.out (Nat.le_refl _) _ _ _ _ _
theorem nums_two_yes (s:ByteArray) (w:World) (hs:s.size≤281474976710656) {n:Int} {z:Nat} (h:cw s.data.toList=(n,z,0)) (hz:z<s.size) (hc:(s.data.toList.drop z).head? = some 58) {y:Int} {m:Nat} (h2:cw (s.data.toList.drop (z+1))=(y,m,0)) (hm:m≤s.size) (hq:rt ⟨2,0,[],n,y⟩=true) :
 Calls Tryz.prog 163 #[.string s] w (Gives (prv (⟨2,0,[],n,y⟩,z+1+m,0)) w):=by
 have HC:=qq (cutWhole_any s);rw [h] at HC;clear h
 have HP:=qq (prefix_any (s.extract z s.size) 58)
 rw [ext_list,decide_eq_true hc] at HP;clear hc
 have HN:=qq (number_any n)
 have HC2:=qq (cutWhole_any (s.extract (z+1) s.size))
 rw [ext_list,h2] at HC2;clear h2
 have hz2:=ext_size s (z+1)
 have HQ:=qq (point_any n y)
 have HR:Hid (∀ w,Calls Tryz.prog 13 #[.agg #[.int .i64 2,.int .i64 0,.string ⟨#[]⟩,.int .i64 n,.int .i64 y]] w (Gives (.bool (rt ⟨2,0,[],n,y⟩)) w)):=right_val 2 0 n y ⟨#[]⟩
 rw [hq] at HR;clear hq
 go_enter Tryz.func163,Tryz.ntmps163
 go_wp2_with fail
 have kb:=box1 w (.cells #[.int .i64 0,.int .i64 0,.string ⟨#[]⟩,.int .i64 0,.int .i64 0] 28)
 have R:=Blk.made w 28 (vcs 0 0 ⟨#[]⟩ 0 0) rfl
 change Blk (w.alloc (.cells #[.int .i64 0,.int .i64 0,.string ⟨#[]⟩,.int .i64 0,.int .i64 0] 28)) w.heap.size _ at R
 generalize w.alloc (.cells #[.int .i64 0,.int .i64 0,.string ⟨#[]⟩,.int .i64 0,.int .i64 0] 28)=w0 at *
 refine (HC.out _ hs).mono ?_
 rintro e w' ⟨rfl,rfl⟩
 unfold cwv
 go_wp2_with fail
 refine (HN.out _).mono ?_
 rintro e w1 ⟨rfl,hb⟩
 have HB1:=qq ((Below.next kb hb).alloc (Below.next kb hb).size (.cells #[.int .i64 0,.int .i64 n,.string ⟨#[]⟩,.int .i64 0,.int .i64 0] 28))
 have R1:=qq ((R.next hb).old (.cells #[.int .i64 0,.int .i64 n,.string ⟨#[]⟩,.int .i64 0,.int .i64 0] 28))
 have D1:=Blk.made w1 28 (vcs 0 n ⟨#[]⟩ 0 0) rfl
 have hlo:w.heap.size<w1.heap.size:=Nat.lt_of_lt_of_le R.lt hb.size
 clear hb kb R
 go_wp2_with fail
 change Blk (w1.alloc (.cells #[.int .i64 0,.int .i64 n,.string ⟨#[]⟩,.int .i64 0,.int .i64 0] 28)) w1.heap.size _ at D1
 generalize w1.alloc (.cells #[.int .i64 0,.int .i64 n,.string ⟨#[]⟩,.int .i64 0,.int .i64 0] 28)=w2 at *
 generalize w1.heap.size=d at *
 refine (HP.out _).mono ?_
 rintro e w' ⟨rfl,rfl⟩
 go_wp2_with fail
 refine (HC2.out _ (by omega)).mono ?_
 rintro e w' ⟨rfl,rfl⟩
 unfold cwv
 go_wp2_with fail
 refine (HQ.out _).mono ?_
 rintro e w3 ⟨rfl,hb⟩
 have HB3:=qq (Below.next HB1.out hb)
 have R3:=R1.out.next hb
 have D3:=D1.next hb
 clear hb D1 R1 HB1
 have c0:=D3.v0;have c1:=D3.v1;have c2:=D3.v2;have c3:=D3.v3;have c4:=D3.v4
 have f0:=D3.g0;have f1:=D3.g1;have f2:=D3.g2;have f3:=D3.g3;have f4:=D3.g4
 have HB4:=qq (below_all5 HB3.out (b:=d) (by omega) (.int .i64 2) (.int .i64 0) (.string ⟨#[]⟩) (.int .i64 n) (.int .i64 y))
 have D4:Blk _ d (vcs 2 0 ⟨#[]⟩ n y):=D3.all5 (.int .i64 2) (.int .i64 0) (.string ⟨#[]⟩) (.int .i64 n) (.int .i64 y)
 have R4:=((((R3.put (c:=d) (by omega) 0 (.int .i64 2)).put (c:=d) (by omega) 1 (.int .i64 0)).put (c:=d) (by omega) 2 (.string ⟨#[]⟩)).put (c:=d) (by omega) 3 (.int .i64 n)).put (c:=d) (by omega) 4 (.int .i64 y)
 have D4H:=qq D4
 have R4H:=qq R4
 clear D4 R4 R3 D3 HB3
 go_wp2_with fail
 clear f0 f1 f2 f3 f4 c0 c1 c2 c3 c4
 generalize ((((w3.setCell ⟨d,0,none⟩ (.int .i64 2)).setCell ⟨d,1,none⟩ (.int .i64 0)).setCell ⟨d,2,none⟩ (.string ⟨#[]⟩)).setCell ⟨d,3,none⟩ (.int .i64 n)).setCell ⟨d,4,none⟩ (.int .i64 y)=w4 at *
 refine (HR.out _).mono ?_
 rintro e w5 ⟨rfl,hb⟩
 have HB5:=qq (Below.next HB4.out hb)
 have R5:=R4H.out.next hb
 have D5:=D4H.out.next hb
 clear hb R4H D4H HB4
 have c0:=D5.v0;have c1:=D5.v1;have c2:=D5.v2;have c3:=D5.v3;have c4:=D5.v4
 have r0:=R5.v0;have r1:=R5.v1;have r2:=R5.v2;have r3:=R5.v3;have r4:=R5.v4
 have f0:=R5.g0;have f1:=R5.g1;have f2:=R5.g2;have f3:=R5.g3;have f4:=R5.g4
 have RR:=fun a0 a1 a2 a3 a4=>R5.all5 a0 a1 a2 a3 a4
 have RH:=qq RR
 clear RR R5 D5
 go_wp2_with fail
 have RF:=RH.out (.int .i64 2) (.int .i64 0) (.string ⟨#[]⟩) (.int .i64 n) (.int .i64 y)
 have c0:=RF.c 0 _ rfl;have c1:=RF.c 1 _ rfl;have c2:=RF.c 2 _ rfl;have c3:=RF.c 3 _ rfl;have c4:=RF.c 4 _ rfl
 clear RF
 refine bodyPost_ret (v:=prv (⟨2,0,[],n,y⟩,z+1+m,0)) (by simp [results,Tryz.results163,go_sem,c0,c1,c2,c3,c4];rfl) rfl ⟨rfl,?_⟩
 exact below_all5 HB5.out (Nat.le_refl _) _ _ _ _ _
theorem nums_two_no (s:ByteArray) (w:World) (hs:s.size≤281474976710656) {n:Int} {z:Nat} (h:cw s.data.toList=(n,z,0)) (hz:z<s.size) (hc:(s.data.toList.drop z).head? = some 58) {y:Int} {m:Nat} (h2:cw (s.data.toList.drop (z+1))=(y,m,0)) (hm:m≤s.size) (hq:rt ⟨2,0,[],n,y⟩=false) :
 Calls Tryz.prog 163 #[.string s] w (Gives (prv (vz,0,14)) w):=by
 have HC:=qq (cutWhole_any s);rw [h] at HC;clear h
 have HP:=qq (prefix_any (s.extract z s.size) 58)
 rw [ext_list,decide_eq_true hc] at HP;clear hc
 have HN:=qq (number_any n)
 have HC2:=qq (cutWhole_any (s.extract (z+1) s.size))
 rw [ext_list,h2] at HC2;clear h2
 have hz2:=ext_size s (z+1)
 have HQ:=qq (point_any n y)
 have HR:Hid (∀ w,Calls Tryz.prog 13 #[.agg #[.int .i64 2,.int .i64 0,.string ⟨#[]⟩,.int .i64 n,.int .i64 y]] w (Gives (.bool (rt ⟨2,0,[],n,y⟩)) w)):=right_val 2 0 n y ⟨#[]⟩
 rw [hq] at HR;clear hq
 go_enter Tryz.func163,Tryz.ntmps163
 go_wp2_with fail
 have kb:=box1 w (.cells #[.int .i64 0,.int .i64 0,.string ⟨#[]⟩,.int .i64 0,.int .i64 0] 28)
 have R:=Blk.made w 28 (vcs 0 0 ⟨#[]⟩ 0 0) rfl
 change Blk (w.alloc (.cells #[.int .i64 0,.int .i64 0,.string ⟨#[]⟩,.int .i64 0,.int .i64 0] 28)) w.heap.size _ at R
 generalize w.alloc (.cells #[.int .i64 0,.int .i64 0,.string ⟨#[]⟩,.int .i64 0,.int .i64 0] 28)=w0 at *
 refine (HC.out _ hs).mono ?_
 rintro e w' ⟨rfl,rfl⟩
 unfold cwv
 go_wp2_with fail
 refine (HN.out _).mono ?_
 rintro e w1 ⟨rfl,hb⟩
 have HB1:=qq ((Below.next kb hb).alloc (Below.next kb hb).size (.cells #[.int .i64 0,.int .i64 n,.string ⟨#[]⟩,.int .i64 0,.int .i64 0] 28))
 have R1:=qq ((R.next hb).old (.cells #[.int .i64 0,.int .i64 n,.string ⟨#[]⟩,.int .i64 0,.int .i64 0] 28))
 have D1:=Blk.made w1 28 (vcs 0 n ⟨#[]⟩ 0 0) rfl
 have hlo:w.heap.size<w1.heap.size:=Nat.lt_of_lt_of_le R.lt hb.size
 clear hb kb R
 go_wp2_with fail
 change Blk (w1.alloc (.cells #[.int .i64 0,.int .i64 n,.string ⟨#[]⟩,.int .i64 0,.int .i64 0] 28)) w1.heap.size _ at D1
 generalize w1.alloc (.cells #[.int .i64 0,.int .i64 n,.string ⟨#[]⟩,.int .i64 0,.int .i64 0] 28)=w2 at *
 generalize w1.heap.size=d at *
 refine (HP.out _).mono ?_
 rintro e w' ⟨rfl,rfl⟩
 go_wp2_with fail
 refine (HC2.out _ (by omega)).mono ?_
 rintro e w' ⟨rfl,rfl⟩
 unfold cwv
 go_wp2_with fail
 refine (HQ.out _).mono ?_
 rintro e w3 ⟨rfl,hb⟩
 have HB3:=qq (Below.next HB1.out hb)
 have R3:=R1.out.next hb
 have D3:=D1.next hb
 clear hb D1 R1 HB1
 have c0:=D3.v0;have c1:=D3.v1;have c2:=D3.v2;have c3:=D3.v3;have c4:=D3.v4
 have f0:=D3.g0;have f1:=D3.g1;have f2:=D3.g2;have f3:=D3.g3;have f4:=D3.g4
 have HB4:=qq (below_all5 HB3.out (b:=d) (by omega) (.int .i64 2) (.int .i64 0) (.string ⟨#[]⟩) (.int .i64 n) (.int .i64 y))
 have D4:Blk _ d (vcs 2 0 ⟨#[]⟩ n y):=D3.all5 (.int .i64 2) (.int .i64 0) (.string ⟨#[]⟩) (.int .i64 n) (.int .i64 y)
 have R4:=((((R3.put (c:=d) (by omega) 0 (.int .i64 2)).put (c:=d) (by omega) 1 (.int .i64 0)).put (c:=d) (by omega) 2 (.string ⟨#[]⟩)).put (c:=d) (by omega) 3 (.int .i64 n)).put (c:=d) (by omega) 4 (.int .i64 y)
 have D4H:=qq D4
 have R4H:=qq R4
 clear D4 R4 R3 D3 HB3
 go_wp2_with fail
 clear f0 f1 f2 f3 f4 c0 c1 c2 c3 c4
 generalize ((((w3.setCell ⟨d,0,none⟩ (.int .i64 2)).setCell ⟨d,1,none⟩ (.int .i64 0)).setCell ⟨d,2,none⟩ (.string ⟨#[]⟩)).setCell ⟨d,3,none⟩ (.int .i64 n)).setCell ⟨d,4,none⟩ (.int .i64 y)=w4 at *
 refine (HR.out _).mono ?_
 rintro e w5 ⟨rfl,hb⟩
 have HB5:=qq (Below.next HB4.out hb)
 have R5:=R4H.out.next hb
 have D5:=D4H.out.next hb
 clear hb R4H D4H HB4
 have c0:=D5.v0;have c1:=D5.v1;have c2:=D5.v2;have c3:=D5.v3;have c4:=D5.v4
 have r0:=R5.v0;have r1:=R5.v1;have r2:=R5.v2;have r3:=R5.v3;have r4:=R5.v4
 have f0:=R5.g0;have f1:=R5.g1;have f2:=R5.g2;have f3:=R5.g3;have f4:=R5.g4
 have RR:=fun a0 a1 a2 a3 a4=>R5.all5 a0 a1 a2 a3 a4
 have RH:=qq RR
 clear RR R5 D5
 go_wp2_with fail
 have RF:=RH.out (.int .i64 0) (.int .i64 0) (.string ⟨#[]⟩) (.int .i64 0) (.int .i64 0)
 have c0:=RF.c 0 _ rfl;have c1:=RF.c 1 _ rfl;have c2:=RF.c 2 _ rfl;have c3:=RF.c 3 _ rfl;have c4:=RF.c 4 _ rfl
 clear RF
 refine bodyPost_ret (v:=prv (vz,0,14)) (by simp [results,Tryz.results163,go_sem,c0,c1,c2,c3,c4];rfl) rfl ⟨rfl,?_⟩
 exact below_all5 HB5.out (Nat.le_refl _) _ _ _ _ _
theorem rt_2 (n y:Int):rt ⟨2,0,[],n,y⟩=true∨rt ⟨2,0,[],n,y⟩=false:=by cases rt ⟨2,0,[],n,y⟩ <;> simp
theorem rt_0 (n:Int):rt ⟨0,n,[],0,0⟩=true∨rt ⟨0,n,[],0,0⟩=false:=by cases rt ⟨0,n,[],0,0⟩ <;> simp
theorem cutNumbers_any (s:ByteArray) (w:World) (hs:s.size≤281474976710656):Calls Tryz.prog 163 #[.string s] w (Gives (prv (cnum s.data.toList)) w):=by
 have hl:s.data.toList.length=s.size:=by simp
 rcases cw_cases s.data.toList with ⟨n,z,e,_,hz⟩ | ⟨k,e,hk,_⟩
 · by_cases hc:(s.data.toList.drop z).head? = some 58
   · have hz2:z<s.size:=by
      rcases Nat.lt_or_ge z s.size with h | h
      · exact h
      · rw [List.drop_of_length_le (by omega)] at hc;simp at hc
     rcases cw_cases (s.data.toList.drop (z+1)) with ⟨y,m,e2,_,hm⟩ | ⟨k,e2,hk,_⟩
     · have hm2:m≤s.size:=by rw [List.length_drop] at hm;omega
       rcases rt_2 n y with hq | hq
       · have:=nums_two_yes s w hs e hz2 hc e2 hm2 hq
         unfold cnum;simpa [e,hc,e2,hq] using this
       · have:=nums_two_no s w hs e hz2 hc e2 hm2 hq
         unfold cnum;simpa [e,hc,e2,hq] using this
     · have:=nums_two_err s w hs e hz2 hc e2 hk
       unfold cnum;simpa [e,hc,e2,Nat.ne_of_gt hk] using this
   · rcases rt_0 n with hq | hq
     · have ec:cnum s.data.toList=(⟨0,n,[],0,0⟩,z,0):=by
        unfold cnum;rw [e];exact (if_neg (fun h=>h rfl)).trans ((if_neg hc).trans (if_pos hq))
       rw [ec];exact nums_one_yes s w hs e (by omega) hc hq
     · have ec:cnum s.data.toList=(vz,0,14):=by
        unfold cnum;rw [e];exact (if_neg (fun h=>h rfl)).trans ((if_neg hc).trans (if_neg (by show ¬ rt ⟨0,n,[],0,0⟩=true;rw [hq];decide)))
       rw [ec];exact nums_one_no s w hs e (by omega) hc hq
 · have:=nums_err s w hs e hk
   unfold cnum;simpa [e,Nat.ne_of_gt hk] using this
end Go.Proofs.YtgakcpcpfkoaiaaGreatDoor.Va

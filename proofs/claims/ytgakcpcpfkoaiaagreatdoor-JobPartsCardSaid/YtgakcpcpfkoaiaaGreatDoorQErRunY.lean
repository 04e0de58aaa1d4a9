/-
  A text of this claim: ErRunY.
-/
import Derived.Test.YtgakcpcpfkoaiaaGreatDoorQ1
import Derived.Test.YtgakcpcpfkoaiaaGreatDoorQ9
import Derived.Test.YtgakcpcpfkoaiaaGreatDoorQ6
import Derived.Test.YtgakcpcpfkoaiaaGreatDoorQEvRun
import Derived.Test.YtgakcpcpfkoaiaaGreatDoorQExRefW
import Derived.Deep.Cut
set_option maxHeartbeats 8000000
set_option maxRecDepth 100000
namespace Go.Proofs.YtgakcpcpfkoaiaaGreatDoor.Ev
open Go.ChangeShapes Go.WideShapes Go.ChangeAt Go.RowKit Ov Va Ga Ex
theorem mendM {P:World→Prop} {w0 w:World} {A:Option Addr} {c E b B n:Nat} {l:List No} {S:St} {xe:Int} {ov:Value} {x0 x1 x2 x3 x4:Value} (hd:Mac w0 A c E b l S n xe ov w) (hx:Box w0 b E ov B [x0,x1,x2,x3,x4] w) (a0 a1 a2 a3 a4:Value)
 (k:∀ w9,Mac w0 A c E b l S n xe ov w9→w9.cell? ⟨B,0,none⟩=some a0→w9.cell? ⟨B,1,none⟩=some a1→w9.cell? ⟨B,2,none⟩=some a2→w9.cell? ⟨B,3,none⟩=some a3→w9.cell? ⟨B,4,none⟩=some a4→P w9):P (((((w.setCell ⟨B,0,none⟩ a0).setCell ⟨B,1,none⟩ a1).setCell ⟨B,2,none⟩ a2).setCell ⟨B,3,none⟩ a3).setCell ⟨B,4,none⟩ a4) :=
 have hb:Blk _ B [a0,a1,a2,a3,a4]:=(((((hx.set 0 a0).set 1 a1).set 2 a2).set 3 a3).set 4 a4).blk
 k _ (hd.all5 hx a0 a1 a2 a3 a4) (hb.c 0 _ rfl) (hb.c 1 _ rfl) (hb.c 2 _ rfl) (hb.c 3 _ rfl) (hb.c 4 _ rfl)
theorem mrun_yes (l:List No) (A:Option Addr) (c:Nat) (k:List UInt8) (v a:Va) (n:Int) (w:World) (hn:Nds w A l) (hkn:KN w) (ht:Tab w) (hl:l.length≤4294967296) (hr:Rt l=true) (hv:rEnv k v a=true) (hn1:0≤n) (hn2:n≤100000) :
 Calls Tryz.prog 31 #[.slice A l.length c,.string (tx k),.agg v,.agg a,.int .i64 n] w (RQ (rnX l k v a n) w):=by
 obtain ⟨w1,hw1,hb1,hsz,hbV,hbA,hbX⟩:=rblk3 w 28 v a zz
 have HB1:=qq hb1;have HW1:=qq hw1;have HSZ:=qq hsz;have HV1:=qq hbV;have HA1:=qq hbA;have HX1:=qq hbX
 have HRI:=qq (fun w1 (h:Below w.heap.size w w1)=>xright_any l A c w1 (hn.next h) hl)
 have HRV:=qq (rright_va v);have HRA:=qq (rright_va a)
 have hks:=tx_size k
 obtain ⟨m,hm⟩:∃ m:Nat,n=(m:Int):=⟨n.toNat,by omega⟩
 have hm1:m≤100000:=by omega
 have HX:Hid (rnX l k v a n=ev 25 l (S0 k v a) m):=by
  show _=_
  unfold rnX
  rw [if_pos ⟨hr,hv,hn1,hn2⟩,hm];rfl
 subst hm
 have hv2:=hv
 unfold rEnv at hv2
 simp only [Bool.and_eq_true,decide_eq_true_eq] at hv2
 obtain ⟨⟨hk1,hv3⟩,ha3⟩:=hv2
 have h2:¬ 4096<k.length:=by omega
 have h5:¬ ((m:Int)<0):=by omega
 have h6:¬ (100000<(m:Int)):=by omega
 have HG:Hid (Gd (S0 k v a) m):=⟨hk1,hv3,ha3,(by show (-9007199254740992:Int)≤0∧(0:Int)≤9007199254740992;decide),rt_vz,Nat.zero_le _,hm1⟩
 have hlen:=(Rt_in hr).1
 have HX25:=qq (Rt_in hr).2
 have hpos:0<l.length:=by
  rcases Nat.eq_zero_or_pos l.length with h | h
  · have:=(Rt_in hr).2;rw [List.length_eq_zero_iff.1 h,ex_nil] at this;cases this
  · exact h
 have HRT:=qq hr;have HNN:=qq hn
 have HCX:Hid (Cx w A l):=⟨hn,hkn,ht,hlen⟩
 have hmk:=run_make_row' (P:=Tryz.prog) 87 3 (.int .i64 0) 8 Tryz.underlying87 infoI rfl .i64 .i64 l.length (by omega) (by omega)
 have HPT:=qq rparts_any
 clear hn hkn ht hl hb1 hw1 hsz hbV hbA hbX hv hn1 hn2 hk1
 go_enter Tryz.func31,Tryz.ntmps31
 go_wp2_with fail
 rw [HW1.out]
 refine (HRI.out _ HB1.out).mono ?_
 rintro e w2 ⟨rfl,hb⟩
 have HB2:=qq (Below.next HB1.out hb);have HV2:=qq (HV1.out.next hb);have HA2:=qq (HA1.out.next hb);have HX2:=qq (HX1.out.next hb)
 clear hb HB1 HV1 HA1 HX1 
 rw [hr]
 clear hr
 obtain ⟨qV0,qV1,qV2,qV3,qV4⟩:=ck5 HV2.out
 go_wp2_with fail
 refine (HRV.out _).mono ?_
 rintro e w3 ⟨rfl,hb⟩
 have HB3:=qq (Below.next HB2.out hb);have HV3:=qq (HV2.out.next hb);have HA3:=qq (HA2.out.next hb);have HX3:=qq (HX2.out.next hb)
 clear hb HB2 HV2 HA2 HX2 qV0 qV1 qV2 qV3 qV4
 rw [hv3]
 clear hv3
 obtain ⟨qA0,qA1,qA2,qA3,qA4⟩:=ck5 HA3.out
 go_wp2_with fail
 refine (HRA.out _).mono ?_
 rintro e w4 ⟨rfl,hb⟩
 have HB4:=qq (Below.next HB3.out hb);have HV4:=qq (HV3.out.next hb);have HA4:=qq (HA3.out.next hb);have HX4:=qq (HX3.out.next hb)
 clear hb HB3 HV3 HA3 HX3 qA0 qA1 qA2 qA3 qA4
 rw [ha3]
 clear ha3
 go_wp2_with fail
 clear hmk
 go_loopw [15] (fun i wr=>∃ k:Nat,k≤l.length∧i=.int .i64 ((k:Int) - 1)∧BehL w4 l wr k) (fun i _=>(intOf i+1).toNat)
 case atStart=>exact ⟨l.length,Nat.le_refl _,rfl,behL_start w4 l _⟩
 case round =>
  obtain ⟨q,hkl,rfl,hb⟩:=hrel
  have HB:=qq hb;clear hb
  by_cases h0:q=0
  · subst h0
    obtain ⟨xs,x1,x2,x3,x4⟩:=HB.out
    have hBV:=HV4.out.lt;have hBX:=HX4.out.lt;have hBA:=HA4.out.lt;have hsz2:w.heap.size+2<w4.heap.size:=hBX
    have HB5:=qq (Below.next HB4.out x4);have HV5:=qq (HV4.out.next x4);have HA5:=qq (HA4.out.next x4);have HX5:=qq (HX4.out.next x4)
    have hE5:=x2.lt
    have HE5:Hid (∀ i,i<l.length→wr.cell? ⟨w4.heap.size,i,none⟩=some (.int .i64 ((l.length - (nx (l.drop i)).length:Nat):Int))):=fun i hi=>x2.c i _ (x3 i (Nat.zero_le _) hi)
    clear x1 x2 x3 x4 HB HB4 HV4 HA4 HX4
    obtain ⟨w5,hw5⟩:∃ w,w=wr:=⟨_,rfl⟩
    subst hw5
    obtain ⟨qV0,qV1,qV2,qV3,qV4⟩:=ck5 HV5.out
    have qA0:=HA5.out.c 0 _ rfl
    have qA1:=HA5.out.c 1 _ rfl
    have qA2:=HA5.out.c 2 _ rfl
    have qA3:=HA5.out.c 3 _ rfl
    have qA4:=HA5.out.c 4 _ rfl
    go_upto_region 13 with fail
    have hbM:=Blk.made w5 102 [.slice A l.length c,.slice (some ⟨w4.heap.size,0,none⟩) l.length l.length,.string (tx k),.int .i64 v.k,.int .i64 v.n,.string (tx v.s),.int .i64 v.x,.int .i64 v.y,.int .i64 a.k,.int .i64 a.n,.string (tx a.s),.int .i64 a.x,.int .i64 a.y,.int .i64 0,.int .i64 0,.int .i64 0,.string ⟨#[]⟩,.int .i64 0,.int .i64 0,.slice none 0 0,.int .i64 (m:Int),.int .i64 0] rfl
    have hb6:=box1 w5 (.cells #[.slice A l.length c,.slice (some ⟨w4.heap.size,0,none⟩) l.length l.length,.string (tx k),.int .i64 v.k,.int .i64 v.n,.string (tx v.s),.int .i64 v.x,.int .i64 v.y,.int .i64 a.k,.int .i64 a.n,.string (tx a.s),.int .i64 a.x,.int .i64 a.y,.int .i64 0,.int .i64 0,.int .i64 0,.string ⟨#[]⟩,.int .i64 0,.int .i64 0,.slice none 0 0,.int .i64 (m:Int),.int .i64 0] 102)
    have hs6:(w5.alloc (.cells #[.slice A l.length c,.slice (some ⟨w4.heap.size,0,none⟩) l.length l.length,.string (tx k),.int .i64 v.k,.int .i64 v.n,.string (tx v.s),.int .i64 v.x,.int .i64 v.y,.int .i64 a.k,.int .i64 a.n,.string (tx a.s),.int .i64 a.x,.int .i64 a.y,.int .i64 0,.int .i64 0,.int .i64 0,.string ⟨#[]⟩,.int .i64 0,.int .i64 0,.slice none 0 0,.int .i64 (m:Int),.int .i64 0] 102)).heap.size=w5.heap.size+1:=World.size_alloc _ _
    obtain ⟨w6,hw6⟩:∃ w6,w5.alloc (.cells #[.slice A l.length c,.slice (some ⟨w4.heap.size,0,none⟩) l.length l.length,.string (tx k),.int .i64 v.k,.int .i64 v.n,.string (tx v.s),.int .i64 v.x,.int .i64 v.y,.int .i64 a.k,.int .i64 a.n,.string (tx a.s),.int .i64 a.x,.int .i64 a.y,.int .i64 0,.int .i64 0,.int .i64 0,.string ⟨#[]⟩,.int .i64 0,.int .i64 0,.slice none 0 0,.int .i64 (m:Int),.int .i64 0] 102)=w6:=⟨_,rfl⟩
    rw [show w5.alloc (.cells [.slice A l.length c,.slice (some ⟨w4.heap.size,0,none⟩) l.length l.length,.string (tx k),.int .i64 v.k,.int .i64 v.n,.string (tx v.s),.int .i64 v.x,.int .i64 v.y,.int .i64 a.k,.int .i64 a.n,.string (tx a.s),.int .i64 a.x,.int .i64 a.y,.int .i64 0,.int .i64 0,.int .i64 0,.string ⟨#[]⟩,.int .i64 0,.int .i64 0,.slice none 0 0,.int .i64 (m:Int),.int .i64 0].toArray 102)=w6 from hw6] at hbM
    rw [hw6] at hb6 hs6 ⊢
    have hE6:w4.heap.size<w5.heap.size:=hE5
    have HD6:Hid (Mac w A c w4.heap.size w5.heap.size l (S0 k v a) m 0 (.slice none 0 0) w6) :=
     ⟨Below.next HB5.out hb6,Nat.le_of_lt (Nat.lt_of_le_of_lt (by omega) hE6),by omega,by omega,hbM,fun i hi=>(hb6.cell (p:=⟨w4.heap.size,i,none⟩) hE6).trans (HE5.out i hi),World.ownsRow_nil _ _ _ _,by simp [Value.ownBlock],by simp [Value.ownBlock]⟩
    have HX6:Hid (Box w w5.heap.size w4.heap.size (.slice none 0 0) (w.heap.size+2) zz w6):=⟨HX5.out.next hb6,by omega,by omega,by simp [Value.ownBlock],by omega⟩
    have HB6:=qq (Below.next HB5.out hb6)
    have HCC:=qq (mdo_any 25 w A c w4.heap.size w5.heap.size l (S0 k v a) m (.slice none 0 0) w6 0 [] HCX.out HD6.out HG.out HX25.out (Nat.le_refl _))
    rw [List.drop_zero] at HCC
    clear hw6 hbM hb6 HB5 HV5 HA5 HX5 HE5 HD6 qV0 qV1 qV2 qV3 qV4 qA0 qA1 qA2 qA3 qA4
    go_wp2_with fail
    refine (HCC.out).mono ?_
    rintro e w7 ⟨u,x,S1,n1,ov1,rfl,hans,hz,hd,hmv⟩
    have HAN:=qq hans;have HD7:=qq hd;have HX7:=qq (HX6.out.mv hmv)
    clear hans hz hd hmv HCC HX6 HB6
    have hbR:=Box.makeM HD7.out hpos 28 u
    have hb8:=box1 w7 (.cells u 28)
    obtain ⟨w8,hw8⟩:∃ w8,w7.alloc (.cells u 28)=w8:=⟨_,rfl⟩
    rw [show w7.alloc (.cells u 28)=w8 from hw8] at hbR
    rw [hw8] at hb8
    have HW8:=qq hw8;have HR8:=qq hbR;have HD8:=qq (HD7.out.old hb8);have HX8:=qq (HX7.out.old hb8)
    clear hw8 hbR hb8 HD7 HX7
    go_upto_region 14 with fail
    rw [HW8.out]
    clear HW8
    have hltb:=HD8.out.lt
    have m21:w8.cell? ⟨w5.heap.size,21,none⟩=some (.int .i64 x):=HD8.out.blk.c 21 _ rfl
    obtain ⟨cX0,cX1,cX2,cX3,cX4,zX0,zX1,zX2,zX3,zX4,hltX⟩:=HX8.out.five
    rcases HAN.out.cases with ⟨hx0,hX⟩ | ⟨rfl,a2,rfl,hX⟩
    · have HX0:=qq hx0
      have hx1:(x != 0)=true:=by simpa using hx0
      have HRE:Hid (rnX l k v a (m:Int)=.er x):=by show _=_;rw [HX.out,hX]
      clear hx0 hX HAN
      go_wp2_with fail
      go_region
      refine mendM (P:=fun W=>Exit.then _ _ Exit.normal _ W.drew) HD8.out HX8.out _ _ _ _ _ ?_
      clear HD8 HX8 HR8 cX0 cX1 cX2 cX3 cX4 zX0 zX1 zX2 zX3 zX4
      intro w9 hd9 k0 k1 k2 k3 k4
      have c0:w9.drew.cell? ⟨w.heap.size+2,0,none⟩=some (.int .i64 0):=k0
      have c1:w9.drew.cell? ⟨w.heap.size+2,1,none⟩=some (.int .i64 0):=k1
      have c2:w9.drew.cell? ⟨w.heap.size+2,2,none⟩=some (.string ⟨#[]⟩):=k2
      have c3:w9.drew.cell? ⟨w.heap.size+2,3,none⟩=some (.int .i64 0):=k3
      have c4:w9.drew.cell? ⟨w.heap.size+2,4,none⟩=some (.int .i64 0):=k4
      go_wp2_with fail
      refine bodyPost_ret (v:=.tuple #[.agg zz,.slice none 0 0,.int .i64 0,.int .i64 x]) (by simp [results,Tryz.results31,go_sem,c0,c1,c2,c3,c4]) rfl ⟨hd9.fro.drew,by rw [HRE.out];exact ⟨HX0.out,rfl⟩⟩
    · have HRE:Hid (rnX l k v a (m:Int)=.ok u S1 n1):=by show _=_;rw [HX.out,hX]
      clear hX HAN
      obtain ⟨Bp,cp,hov⟩:=own_slice HD8.out.out
      have m19:w8.cell? ⟨w5.heap.size,19,none⟩=some ov1:=HD8.out.blk.c 19 _ rfl
      rw [hov] at m19
      have m20:w8.cell? ⟨w5.heap.size,20,none⟩=some (.int .i64 (n1:Int)):=HD8.out.blk.c 20 _ rfl
      have HOV:=qq hov;clear hov
      obtain ⟨qR0,qR1,qR2,qR3,qR4⟩:=ck5 HR8.out.blk
      go_wp2_with fail
      go_region
      refine mendM (P:=fun W=>Exit.then _ _ Exit.normal _ W.drew) HD8.out HX8.out _ _ _ _ _ ?_
      clear HD8 HX8 HR8 cX0 cX1 cX2 cX3 cX4 zX0 zX1 zX2 zX3 zX4
      intro w9 hd9 k0 k1 k2 k3 k4
      have c0:w9.drew.cell? ⟨w.heap.size+2,0,none⟩=some (.int .i64 u.k):=k0
      have c1:w9.drew.cell? ⟨w.heap.size+2,1,none⟩=some (.int .i64 u.n):=k1
      have c2:w9.drew.cell? ⟨w.heap.size+2,2,none⟩=some (.string (tx u.s)):=k2
      have c3:w9.drew.cell? ⟨w.heap.size+2,3,none⟩=some (.int .i64 u.x):=k3
      have c4:w9.drew.cell? ⟨w.heap.size+2,4,none⟩=some (.int .i64 u.y):=k4
      go_wp2_with fail
      refine bodyPost_ret (v:=.tuple #[.agg u,.slice Bp S1.out.length cp,.int .i64 (n1:Int),.int .i64 0]) (by simp [results,Tryz.results31,go_sem,c0,c1,c2,c3,c4]) rfl ⟨hd9.fro.drew,by rw [HRE.out];exact ⟨Bp,cp,by rw [← HOV.out];exact hd9.drew.out,rfl⟩⟩
  · obtain ⟨j,rfl⟩:∃ j,q=j+1:=⟨q - 1,by omega⟩
    have hjl:j<l.length:=by omega
    rw [show ((j+1:Nat):Int) - 1=(j:Int) by omega]
    obtain ⟨r,hx⟩:=ex_at HRT.out hjl
    rw [drop_nd hjl,ex_cons] at hx
    have hrn:rn (nd l j)=true:=by
     rcases Bool.eq_false_or_eq_true (rn (nd l j)) with h | h
     · exact h
     · rw [if_neg (by rw [h];decide)] at hx;cases hx
    rw [if_pos hrn] at hx
    obtain ⟨xs,x1,x2,x3,x4⟩:=HB.out
    obtain ⟨B,O,rfl⟩:=HNN.out.shape (by omega)
    have c1:=x2.c j _ (List.getElem?_eq_getElem (by omega))
    have f1:=x2.f j _ (List.getElem?_eq_getElem (by omega))
    have hBl:=HNN.out.lt (by omega)
    have hs4:=HB4.out.size
    have hBne:B ≠ w4.heap.size:=by omega
    have HEX:=qq hx
    have HPO:=qq (HPT.out (nd l j).o)
    have hp3:=pa_le (nd l j).o
    have HXN:Hid (nx (l.drop j)=r):=by
     show _=_
     refine nx_of (d:=25) ?_ (Nat.le_refl _)
     rw [drop_nd hjl,ex_cons,if_pos hrn];exact hx
    have X2:=qq x2;have X3:=qq x3;have X4:=qq x4
    have HCE:Hid (∀ W,Below w4.heap.size w4 W→W.cell? ⟨B,O+j * 6,none⟩=some (.int .i64 (nd l j).o)):=fun W h=>by
     have h9:=(HNN.out.next (Below.next HB4.out h)).cell hjl 0 _ rfl
     rw [Nat.add_zero] at h9;exact h9
    generalize (nd l j).o=o at *
    clear hx hrn x2 x3 x4 HB
    have x2:=X2.out.set j (.int .i64 ((j:Int)+1))
    have x4:Below w4.heap.size w4 (wr.setCell ⟨w4.heap.size,j,none⟩ (.int .i64 ((j:Int)+1))):=X4.out.setCell (Nat.le_refl _) _
    have HXS:Hid (∀ i,j+1≤i→i<l.length→(xs.set j (.int .i64 ((j:Int)+1)))[i]? = some (bhv l i)):=fun i h1 h2=>by
     rw [List.getElem?_set_ne (by omega)];exact X3.out i h1 h2
    have HXJ:Hid ((xs.set j (.int .i64 ((j:Int)+1)))[j]? = some (.int .i64 ((j:Int)+1))):=List.getElem?_set_self (by omega)
    have hxl:(xs.set j (.int .i64 ((j:Int)+1))).length=l.length:=by rw [List.length_set];exact x1
    have X22:=qq x2;have X42:=qq x4;have HXL:=qq hxl
    clear x2 x4 X2 X3 X4 hxl
    generalize xs.set j (.int .i64 ((j:Int)+1))=xs2 at *
    go_wp2_with fail
    clear c1 f1
    go_loopw [16] (fun i wr=>∃ (p:Nat) (rp:List No) (xs:List Value),p≤pa o∧i=.int .i64 (p:Int)∧it (ex 24) (pa o - p) rp=some r∧rp.length≤l.length∧rp=l.drop (l.length - rp.length)∧j<l.length - rp.length∧xs.length=l.length∧Blk wr w4.heap.size xs∧(∀ i,j+1≤i→i<l.length→xs[i]? = some (bhv l i))∧xs[j]? = some (.int .i64 ((l.length - rp.length:Nat):Int))∧Below w4.heap.size w4 wr) (fun i _=>pa o - (intOf i).toNat)
    case atStart =>
     have hdl:(l.drop (j+1)).length=l.length - (j+1):=List.length_drop
     refine ⟨0,l.drop (j+1),xs2,Nat.zero_le _,rfl,HEX.out,by omega,by rw [hdl,show l.length - (l.length - (j+1))=j+1 by omega],by omega,HXL.out,X22.out,HXS.out,?_,X42.out⟩
     rw [hdl,show l.length - (l.length - (j+1))=j+1 by omega];exact HXJ.out
    case round =>
     clear HXS HXJ X22 X42 HXL HEX
     obtain ⟨p,rp,xs3,hp,rfl,hi,hr1,hr2,hr3,y1,y2,y3,y4,y5⟩:=hrel
     have e0:=HCE.out _ y5
     have Y2:=qq y2;have Y5:=qq y5
     clear y2 y5
     go_wp2_with fail
     refine (HPO.out _).mono ?_
     rintro e wq ⟨rfl,hb⟩
     have y2:=Y2.out.next hb
     have y5:=Below.next Y5.out hb
     clear hb e0 Y2 Y5
     by_cases hlt:p<pa o
     · rw [show pa o - p=(pa o - (p+1))+1 by omega,it_succ] at hi
       obtain ⟨r1,e1,e2⟩:=Option.bind_eq_some_iff.1 hi
       obtain ⟨y,hy⟩:∃ y,l.length - rp.length=y:=⟨_,rfl⟩
       rw [hy] at hr2 hr3 y4
       rw [hr2] at e1
       obtain ⟨g1,g2,g3⟩:=ex_drop_len e1 (by omega)
       have c1:=y2.c j _ y4
       have f1:=y2.f j _ y4
       have c2:=y2.c y _ (y3 y (by omega) (by omega))
       unfold bhv at c2
       rw [nx_of e1 (by omega)] at c2
       obtain ⟨z,hz⟩:∃ z,l.length - r1.length=z:=⟨_,rfl⟩
       rw [hz] at c2 g1 g2
       have hyl:y<l.length:=by omega
       have E2:=qq e2;have Y2:=qq y2;have Y3:=qq y3;have Y5:=qq y5;have HG1:=qq g1;have HZ:=qq hz
       clear hi e1 e2 hr2 y2 y3 y4 y5 g1 hy hz hr1
       go_wp2_with fail
       go_roundw
       case rel =>
        refine ⟨p+1,r1,xs3.set j (.int .i64 (z:Int)),by omega,by go_num,E2.out,g3,by rw [HZ.out];exact HG1.out,by rw [HZ.out];omega,by rw [List.length_set];exact y1,Y2.out.set j _,fun i h1 h2=>?_,?_,Y5.out.setCell (Nat.le_refl _) _⟩
        · rw [List.getElem?_set_ne (by omega)];exact Y3.out i h1 h2
        · rw [HZ.out];exact List.getElem?_set_self (by omega)
       case measure=>simp [intOf];omega
     · obtain rfl:p=pa o:=by omega
       rw [Nat.sub_self,it_zero] at hi
       obtain rfl:=Option.some.inj hi
       have Y2:=qq y2;have Y3:=qq y3;have Y5:=qq y5;have Y4:=qq y4
       clear hi hr1 hr2 y2 y3 y5 y4
       go_wp2_with fail
       go_roundw
       case rel =>
        refine ⟨j,by omega,by go_num,xs3,y1,Y2.out,fun i h1 h2=>?_,Y5.out⟩
        by_cases h:i=j
        · subst h
          unfold bhv
          rw [HXN.out];exact Y4.out
        · exact Y3.out i (by omega) h2
       case measure=>simp [intOf]
theorem mrun_any (l:List No) (A:Option Addr) (c:Nat) (k:List UInt8) (v a:Va) (n:Int) (w:World) (hn:Nds w A l) (hkn:KN w) (ht:Tab w) (hl:l.length≤4294967296) :
 Calls Tryz.prog 31 #[.slice A l.length c,.string (tx k),.agg v,.agg a,.int .i64 n] w (RQ (rnX l k v a n) w):=by
 by_cases h:Rt l=true∧rEnv k v a=true∧0≤n∧n≤100000
 · obtain ⟨h1,h2,h3,h4⟩:=h
   exact mrun_yes l A c k v a n w hn hkn ht hl h1 h2 h3 h4
 · exact mrun_no l A c k v a n w hn hl h
end Go.Proofs.YtgakcpcpfkoaiaaGreatDoor.Ev

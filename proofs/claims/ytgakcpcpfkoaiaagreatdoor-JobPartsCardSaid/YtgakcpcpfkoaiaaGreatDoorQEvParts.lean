/-
  A text of this claim: EvParts.
-/
import Derived.Test.YtgakcpcpfkoaiaaGreatDoorQ1
import Derived.Test.YtgakcpcpfkoaiaaGreatDoorQ6
set_option maxHeartbeats 8000000
set_option maxRecDepth 100000
namespace Go.Proofs.YtgakcpcpfkoaiaaGreatDoor.Ev
open Go.ChangeShapes Go.WideShapes Go.ChangeAt Go.RowKit Ov Va Ex
def kcl (ks:List Int):List Value:=ks.map fun k=>.int .i64 k
def fin (ks:List Int) (l:List Va):M (List Va):=if fits ks l=true then ret l else fail 13
def prt (f:List No→M Va) (ks:List Int) (r:List No):M (List Va):=bnd (va f ks.length r []) (fin ks)
theorem fits_drop {ks:List Int} {l:List Va} {j:Nat} (hk:j<ks.length) (hl:ks.length≤l.length):fits (ks.drop j) (l.drop j)=((ks[j] == -1 || (l.getD j vz).k == ks[j]) && fits (ks.drop (j+1)) (l.drop (j+1))):=by
 rw [List.drop_eq_getElem_cons hk,List.drop_eq_getElem_cons (show j<l.length by omega)]
 rw [List.getD_eq_getElem?_getD,List.getElem?_eq_getElem (show j<l.length by omega)];rfl
def pz0:List Value:=pcs []
theorem parts_any {d:Nat} {f:List No→M Va} (HD:DoC f d) (HG:∀ l r,ex d l=some r→GdM (f l) (fun a=>rt a=true)) (ks:List Int) (hk1:1≤ks.length) (hk3:ks.length≤3) (hks:∀ k ∈ ks,-1≤k∧k≤2)
 (w0:World) (A:Option Addr) (c E b q:Nat) (l:List No) (S:St) (n:Nat) (ov:Value) (w:World) (k:Nat) (r:List No)
 (hcx:Cx w0 A l) (hd:Doer w0 A c E b l S n ov w) (hq:Box w0 b E ov q (kcl ks) w) (hg:Gd S n) (hkl:k<l.length) (hx:it (ex d) ks.length (l.drop (k+1))=some r) (hd25:d≤25) :
 Calls Tryz.prog 138 #[.pointer (some ⟨b,0,none⟩),.int .i64 (k:Int),.slice (some ⟨q,0,none⟩) ks.length ks.length] w (Pn (prt f ks (l.drop (k+1)) S n) w0 A c E b l ov w):=by
 have hl:=hcx.len
 have HC:=qq hcx;have HX:=qq hx;have HGG:=qq hg;have HKS:=qq hks
 have HH:=qq HD;have HP:=qq HG
 generalize hXX:prt f ks (l.drop (k+1)) S n=X
 have HXX:=qq hXX
 have hx6:=Box.made hd (by omega) 137 pz0
 have hd6:=hd.old (box1 w (.cells pz0.toArray 137))
 have hq6:=hq.old (box1 w (.cells pz0.toArray 137))
 have hm6:Mv b ov w ov _:=Mv.of (box1 w (.cells pz0.toArray 137))
 have hs6:(w.alloc (.cells pz0.toArray 137)).heap.size=w.heap.size+1:=by simp
 have hw6:∃ w1,w.alloc (.cells pz0.toArray 137)=w1:=⟨_,rfl⟩
 obtain ⟨w1,hw1⟩:=hw6
 rw [hw1] at hx6 hd6 hq6 hm6 hs6
 have hx8:=Box.made hd6 (by omega) 137 pz0
 have hd8:=hd6.old (box1 w1 (.cells pz0.toArray 137))
 have hq8:=hq6.old (box1 w1 (.cells pz0.toArray 137))
 have hm8:=hm6.old (box1 w1 (.cells pz0.toArray 137))
 have hx68:=hx6.old (box1 w1 (.cells pz0.toArray 137))
 rw [hs6] at hx8
 have H6:=qq hx68;have H8:=qq hx8;have HD8:=qq hd8;have HM8:=qq hm8;have HQ8:=qq hq8
 have hqm:ks.length≤maxLen:=by unfold maxLen;omega
 have HW1:=qq hw1
 have HQZ:Hid (q<w.heap.size):=hq.blk.lt
 clear hcx hd hq hg hx hks HD HG hXX hx6 hd6 hq6 hm6 hs6 hx8 hd8 hq8 hm8 hx68 hw1
 go_enter Tryz.func138,Tryz.ntmps138
 go_wp2_with fail
 change Code.wp _ _ _ _ ((w.alloc (.cells pz0.toArray 137)).alloc (.cells pz0.toArray 137))
 rw [HW1.out]
 generalize hw2:w1.alloc (.cells pz0.toArray 137)=w2 at *
 clear hw2 HW1 w1
 generalize hZ:w.heap.size=Z at *
 have HZ:=qq hZ;clear hZ
 go_loopw [9,19] (fun p i wr=>∃ (j y n1:Nat) (acc:List Va) (S1:St) (ov1:Value),j≤ks.length∧acc.length=j∧p=.int .i64 (y:Int)∧i=.int .i64 (j:Int)∧y≤l.length∧X=bnd (va f (ks.length - j) (l.drop y) acc) (fin ks) S1 n1∧it (ex d) (ks.length - j) (l.drop y)=some r∧Gd S1 n1∧Doer w0 A c E b l S1 n1 ov1 wr∧Mv b ov w ov1 wr∧Box w0 b E ov1 q (kcl ks) wr∧Box w0 b E ov1 Z pz0 wr∧Box w0 b E ov1 (Z+1) (pcs acc) wr) (fun _ i _=>ks.length - (intOf i).toNat)
 case atStart=>exact ⟨0,k+1,n,[],S,ov,Nat.zero_le _,rfl,rfl,rfl,hkl,HXX.out.symm,HX.out,HGG.out,HD8.out,HM8.out,HQ8.out,H6.out,H8.out⟩
 case round =>
  clear HX HGG HXX HD8 HM8 HQ8 H6 H8
  obtain ⟨j,y,n1,acc,S1,ov1,hj,ha,rfl,rfl,hy,hxx,hit,hg,hd,hm,hq,h6,h8⟩:=hrel
  by_cases hlt:j<ks.length
  · have hit2:=hit
    rw [show ks.length - j=(ks.length - (j+1))+1 by omega,it_succ] at hit2
    obtain ⟨r1,e1,e2⟩:=Option.bind_eq_some_iff.1 hit2
    obtain ⟨g1,g2,g3⟩:=ex_drop_len e1 hy
    obtain ⟨y1,hy1⟩:∃ y1,l.length - r1.length=y1:=⟨_,rfl⟩
    rw [hy1] at g1 g2
    have hy2:y1≤l.length:=by omega
    have hyl:y<l.length:=by omega
    rw [show ks.length - j=(ks.length - (j+1))+1 by omega,va_succ,bnd_assoc,nx_of e1 hd25] at hxx
    have hbe:=hd.beh y hyl
    rw [nx_of e1 hd25,hy1] at hbe
    rw [g1] at e2 hxx
    have HYY:=qq hy1
    have HE1:=qq e1;have HE2:=qq e2;have HXX:=qq hxx
    have HC1:=qq (HH.out w0 A c E b l S1 n1 ov1 wr y _ HC.out hd hg e1 hd25)
    have HG1:=qq (fun v S2 n2 h=>HP.out _ _ e1 S1 n1 v S2 n2 hg h)
    have HM:=qq hm;have HQ:=qq hq;have H6:=qq h6;have H8:=qq h8;have HA:=qq ha
    clear hit hit2 e1 e2 g1 g3 hy1 hxx hg hd hm hq h6 h8 ha hbe
    go_wp2_with fail
    refine HC1.out.mono ?_
    rintro e w3 ⟨v,x,S2,n2,ov2,rfl,ha,hd,hm⟩
    have HAA:=qq ha;have HD2:=qq hd
    have HQ2:=qq (HQ.out.mv hm);have H62:=qq (H6.out.mv hm);have H82:=qq (H8.out.mv hm);have HM2:=qq (HM.out.trans hm)
    clear ha hd hm HC1 HM HQ H6 H8
    have hlZ:=H62.out.blk.lt
    rcases HAA.out.cases with ⟨hx0,hX⟩ | ⟨rfl,u,rfl,hX⟩
    · have HRX:Hid (X=.er x):=by show _=_;rw [HXX.out,bnd_er hX]
      have HX0:=qq hx0
      have hx1:(x == 0)=false:=by simpa using hx0
      have hx2:(x != 0)=true:=by simpa using hx0
      clear HXX HG1 hX HAA hx0
      obtain ⟨c0,c1,c2,c3,c4,c5,c6,c7,c8,c9,c10,c11,c12,c13,c14⟩:=pcs_cells H62.out.blk
      obtain ⟨z0,z1,z2,z3,z4,z5,z6,z7,z8,z9,z10,z11,z12,z13,z14⟩:=pcs_frozen H62.out.blk
      go_wp2_with fail
      have hd4:=(HD2.out.puts H62.out 0 pz0).old (box1 _ (.cells (vcl v).toArray 28))
      have hm4:=(HM2.out.puts (Nat.le_of_eq HZ.out) 0 pz0).old (box1 _ (.cells (vcl v).toArray 28))
      have hx4:=(H62.out.puts pz0 rfl).old (box1 _ (.cells (vcl v).toArray 28))
      clear c0 c1 c2 c3 c4 c5 c6 c7 c8 c9 c10 c11 c12 c13 c14 z0 z1 z2 z3 z4 z5 z6 z7 z8 z9 z10 z11 z12 z13 z14 HD2 HM2 H62 H82 HQ2
      change bodyPost _ _ _ _ _ ((putL w3 Z 0 pz0).alloc (.cells (vcl v).toArray 28))
      generalize (putL w3 Z 0 pz0).alloc (.cells (vcl v).toArray 28)=w4 at *
      obtain ⟨c0,c1,c2,c3,c4,c5,c6,c7,c8,c9,c10,c11,c12,c13,c14⟩:=pcs_cells hx4.blk
      refine bodyPost_ret (v:=.tuple #[.agg #[.int .i64 0,.int .i64 0,.string ⟨#[]⟩,.int .i64 0,.int .i64 0,.int .i64 0,.int .i64 0,.string ⟨#[]⟩,.int .i64 0,.int .i64 0,.int .i64 0,.int .i64 0,.string ⟨#[]⟩,.int .i64 0,.int .i64 0],.int .i64 x]) (by simp [results,Tryz.results138,go_sem,c0,c1,c2,c3,c4,c5,c6,c7,c8,c9,c10,c11,c12,c13,c14];repeat (first | rfl | refine ⟨rfl,?_⟩)) rfl ⟨vz,vz,vz,x,S2,n2,ov2,rfl,Ans.er HRX.out rfl HX0.out,fun _=>⟨rfl,rfl,rfl⟩,hd4,hm4⟩
    · have hgd:=qq (HG1.out v S2 n2 hX)
      have HXX2:Hid (X=bnd (va f (ks.length - (j+1)) (l.drop y1) (acc++[v])) (fin ks) S2 n2):=by show _=_;rw [HXX.out,bnd_ok hX]
      have hlb:=HD2.out.blk.lt
      have hlE:=HD2.out.ltE (by omega)
      have hl8:=H82.out.blk.lt
      have hnb:=H82.out.nb
      have hnb':b ≠ Z+1:=fun e=>hnb e.symm
      have hnE:=H82.out.nE
      have hnE':E ≠ Z+1:=fun e=>hnE e.symm
      have hj3:j<3:=by omega
      obtain ⟨⟨_,d0⟩,⟨_,d1⟩,⟨_,d2⟩,⟨_,d3⟩,⟨_,d4⟩,g0,g1,g2,g3,g4⟩:=pcs_five H82.out.blk hj3
      have b1:=HD2.out.blk.c 1 _ rfl
      have b2:=HD2.out.beh y hyl
      rw [nx_of HE1.out hd25,HYY.out] at b2
      clear HXX HG1 hX HAA
      have hd4:=(HD2.out.puts H82.out (j * 5) (vcl v)).old (box1 _ (.cells (vcl v).toArray 28))
      have hm4:=(HM2.out.puts (by have:=HZ.out;omega:w.heap.size≤Z+1) (j * 5) (vcl v)).old (box1 _ (.cells (vcl v).toArray 28))
      have hq4:=(HQ2.out.puts_other (show Z+1 ≠ q by have:=HQZ.out;omega) (j * 5) (vcl v)).old (box1 _ (.cells (vcl v).toArray 28))
      have h64:=(H62.out.puts_other (show Z+1 ≠ Z by omega) (j * 5) (vcl v)).old (box1 _ (.cells (vcl v).toArray 28))
      have h84:=(H82.out.puts_at (j * 5) (vcl v) (by show j * 5+5≤15;omega)).old (box1 _ (.cells (vcl v).toArray 28))
      change Box w0 b E ov2 (Z+1) ((pcs acc).take (j * 5)++vcl v++(pcs acc).drop (j * 5+5)) _ at h84
      have hps:=pcs_snoc acc v (by have:=HA.out;omega)
      rw [HA.out] at hps
      rw [hps] at h84
      have H4:=qq hd4;have H5:=qq hm4;have H6:=qq hq4;have H7:=qq h64;have H9:=qq h84
      clear hd4 hm4 hq4 h64 h84 hps HD2 HM2 HQ2 H62 H82
      go_wp2_with fail
      go_roundw
      case rel=>exact ⟨j+1,y1,n2,acc++[v],S2,ov2,by omega,by rw [List.length_append,HA.out];rfl,rfl,by go_num,hy2,HXX2.out,HE2.out,hgd.out.2,H4.out,H5.out,H6.out,H7.out,H9.out⟩
      case measure=>simp [intOf];omega
  · obtain rfl:j=ks.length:=by omega
    have HXX:Hid (X=fin ks acc S1 n1):=by
     show _=_
     rw [hxx,show ks.length - ks.length=0 by omega];rfl
    have HQ:=qq hq;have H6:=qq h6;have H8:=qq h8;have HM:=qq hm;have HDD:=qq hd
    have HA:=qq ha
    clear hxx hit hq h6 h8 hg hd hm ha hlt
    go_wp2_with fail
    go_loop [45] (fun i=>∃ j:Nat,j≤ks.length∧i=.int .i64 (j:Int)∧fits (ks.drop j) (acc.drop j)=fits ks acc) (fun i=>ks.length - (intOf i).toNat)
    case atStart=>exact ⟨0,Nat.zero_le _,rfl,rfl⟩
    case round =>
     obtain ⟨j,hj2,rfl,hf⟩:=hrel
     by_cases hlt:j<ks.length
     · have hff:=fits_drop (l:=acc) hlt (by have:=HA.out;omega)
       have q1:=HQ.out.blk.c j (.int .i64 ks[j]) (by unfold kcl;rw [List.getElem?_map,List.getElem?_eq_getElem hlt];rfl)
       have a1:=H8.out.blk.c (j * 5) _ (pcs_kind acc j (by omega))
       have hkb:=HKS.out _ (List.getElem_mem hlt)
       generalize ks[j]=kj at *
       generalize (acc.getD j vz).k=ka at *
       rw [hf] at hff
       have HFF:=qq hff
       clear hf hff
       by_cases h1:kj=-1
       · subst h1
         have HF2:Hid (fits (ks.drop (j+1)) (acc.drop (j+1))=fits ks acc):=by show _=_;rw [HFF.out];simp
         clear HFF
         go_wp2_with fail
         go_round
         case rel=>exact ⟨j+1,by omega,by go_num,HF2.out⟩
         case measure=>simp [intOf];omega
       · have h2:(kj != -1)=true:=by simpa using h1
         by_cases h3:ka=kj
         · subst h3
           have HF2:Hid (fits (ks.drop (j+1)) (acc.drop (j+1))=fits ks acc):=by show _=_;rw [HFF.out];simp
           clear HFF
           go_wp2_with fail
           go_round
           case rel=>exact ⟨j+1,by omega,by go_num,HF2.out⟩
           case measure=>simp [intOf];omega
         · have h4:(ka != kj)=true:=by simpa using h3
           have HF2:Hid (X=.er 13):=by
            show _=_
            rw [HXX.out]
            unfold fin
            rw [HFF.out,show (kj == -1)=false by simpa using h1,show (ka == kj)=false by simpa using h3];rfl
           clear HFF HXX
           obtain ⟨c0,c1,c2,c3,c4,c5,c6,c7,c8,c9,c10,c11,c12,c13,c14⟩:=pcs_cells H6.out.blk
           obtain ⟨z0,z1,z2,z3,z4,z5,z6,z7,z8,z9,z10,z11,z12,z13,z14⟩:=pcs_frozen H6.out.blk
           go_wp2_with fail
           have hd4:=HDD.out.puts H6.out 0 pz0
           have hm4:=HM.out.puts (Nat.le_of_eq HZ.out) 0 pz0
           have hx4:=H6.out.puts pz0 rfl
           clear c0 c1 c2 c3 c4 c5 c6 c7 c8 c9 c10 c11 c12 c13 c14 z0 z1 z2 z3 z4 z5 z6 z7 z8 z9 z10 z11 z12 z13 z14 HDD HM H6 H8 HQ q1 a1
           change bodyPost _ _ _ _ _ (putL wr Z 0 pz0)
           generalize putL wr Z 0 pz0=w4 at *
           obtain ⟨c0,c1,c2,c3,c4,c5,c6,c7,c8,c9,c10,c11,c12,c13,c14⟩:=pcs_cells hx4.blk
           refine bodyPost_ret (v:=.tuple #[.agg #[.int .i64 0,.int .i64 0,.string ⟨#[]⟩,.int .i64 0,.int .i64 0,.int .i64 0,.int .i64 0,.string ⟨#[]⟩,.int .i64 0,.int .i64 0,.int .i64 0,.int .i64 0,.string ⟨#[]⟩,.int .i64 0,.int .i64 0],.int .i64 13]) (by simp [results,Tryz.results138,go_sem,c0,c1,c2,c3,c4,c5,c6,c7,c8,c9,c10,c11,c12,c13,c14];repeat (first | rfl | refine ⟨rfl,?_⟩)) rfl ⟨vz,vz,vz,13,S1,n1,ov1,rfl,Ans.er HF2.out rfl (by decide),fun _=>⟨rfl,rfl,rfl⟩,hd4,hm4⟩
     · obtain rfl:j=ks.length:=by omega
       have HF2:Hid (X=.ok acc S1 n1):=by
        show _=_
        rw [HXX.out]
        unfold fin
        rw [← hf,List.drop_of_length_le (Nat.le_refl _)];rfl
       clear hf HXX
       obtain ⟨c0,c1,c2,c3,c4,c5,c6,c7,c8,c9,c10,c11,c12,c13,c14⟩:=pcs_cells H6.out.blk
       obtain ⟨z0,z1,z2,z3,z4,z5,z6,z7,z8,z9,z10,z11,z12,z13,z14⟩:=pcs_frozen H6.out.blk
       obtain ⟨e0,e1,e2,e3,e4,e5,e6,e7,e8,e9,e10,e11,e12,e13,e14⟩:=pcs_cells H8.out.blk
       go_wp2_with fail
       have hd4:=HDD.out.puts H6.out 0 (pcs acc)
       have hm4:=HM.out.puts (Nat.le_of_eq HZ.out) 0 (pcs acc)
       have hx4:=H6.out.puts (pcs acc) rfl
       clear c0 c1 c2 c3 c4 c5 c6 c7 c8 c9 c10 c11 c12 c13 c14 z0 z1 z2 z3 z4 z5 z6 z7 z8 z9 z10 z11 z12 z13 z14 e0 e1 e2 e3 e4 e5 e6 e7 e8 e9 e10 e11 e12 e13 e14 HDD HM H6 H8 HQ
       change bodyPost _ _ _ _ _ (putL wr Z 0 (pcs acc))
       generalize putL wr Z 0 (pcs acc)=w4 at *
       obtain ⟨c0,c1,c2,c3,c4,c5,c6,c7,c8,c9,c10,c11,c12,c13,c14⟩:=pcs_cells hx4.blk
       refine bodyPost_ret (v:=.tuple #[.agg #[.int .i64 (at0 acc).k,.int .i64 (at0 acc).n,.string (tx (at0 acc).s),.int .i64 (at0 acc).x,.int .i64 (at0 acc).y,.int .i64 (at1 acc).k,.int .i64 (at1 acc).n,.string (tx (at1 acc).s),.int .i64 (at1 acc).x,.int .i64 (at1 acc).y,.int .i64 (at2 acc).k,.int .i64 (at2 acc).n,.string (tx (at2 acc).s),.int .i64 (at2 acc).x,.int .i64 (at2 acc).y],.int .i64 0]) (by simp [results,Tryz.results138,go_sem,c0,c1,c2,c3,c4,c5,c6,c7,c8,c9,c10,c11,c12,c13,c14]) rfl ⟨at0 acc,at1 acc,at2 acc,0,S1,n1,ov1,rfl,Ans.ok HF2.out ⟨rfl,rfl,rfl⟩,fun h=>absurd rfl h,hd4,hm4⟩
end Go.Proofs.YtgakcpcpfkoaiaaGreatDoor.Ev

/-
  Small texts of this claim, together: VaText, VaParse, ExWord, ExFind, ExBox, ExCut, ExPart, ExMem, ExArg, ExEnd, ExNames, ExOf, ExEq, VaRef2, VaRef3, JoAwake.
-/
import Derived.Test.YtgakcpcpfkoaiaaGreatDoorQ1
import Derived.Test.YtgakcpcpfkoaiaaGreatDoorQVaCut3
import Derived.Test.YtgakcpcpfkoaiaaGreatDoorQ2
import Derived.Test.YtgakcpcpfkoaiaaGreatDoorQ3
import Derived.Laws.RangeAny
import Derived.Lib.OthersKept
import Derived.Laws.OwnMore
import Derived.Deep.AppendLies
import Derived.Deep.Slices
import Derived.DataReads
import Derived.ChangeKeysEq
import Derived.Deep.RegionLaw
import Derived.Test.YtgakcpcpfkoaiaaGreatDoorQVaRef
import Derived.Test.YtgakcpcpfkoaiaaGreatDoorQJoFold2
set_option maxHeartbeats 4000000
set_option maxRecDepth 100000
namespace Go.Proofs.YtgakcpcpfkoaiaaGreatDoor.Va
open Go.ChangeShapes Go.WideShapes Go.ChangeAt Go.RowKit Ov Tp
theorem own_shape {w:World} {B m:Nat} {v:Value} {xs:List Value} (h:w.ownsRow B 5 1 v m xs):∃ a c,v=.slice a m c:=by
 rcases h.2 with ⟨e1,e2⟩ | ⟨g,cap,cur,rfl,_⟩
 · subst e1
   have hm:m=0:=by subst e2;simp
   subst hm;exact ⟨none,0,rfl⟩
 · exact ⟨_,_,rfl⟩
def RelX (s:ByteArray) (w0:World) (L:Value) (at_:Value) (wr:World):Prop :=
 ∃ (k:Nat) (A:List UInt8),1≤k∧k≤s.size∧at_=.int .i64 (k:Int)∧ct s.data.toList.tail=pre A (k - 1) (ct (s.data.toList.drop k)) ∧
  wr.ownsRow w0.heap.size 5 1 L (A.take 4097).length (vals (A.take 4097))∧Below w0.heap.size w0 wr
theorem ctx_of {l A:List UInt8} {k:Nat} {r:List UInt8 × Nat × Nat} (h:ct l.tail=pre A k r):ctx l=if r.2.2 ≠ 0 then (vz,0,r.2.2) else if 4096<(A++r.1).length then (vz,0,3) else (⟨1,0,A++r.1,0,0⟩,k+r.2.1+1,0):=by
 unfold ctx;rw [h];unfold pre
 by_cases h1:r.2.2 ≠ 0
 · rw [if_pos h1,if_pos h1,if_pos h1]
 · rw [if_neg h1,if_neg h1,if_neg (fun h=>h rfl)]
theorem take_add {A:List UInt8} (c:UInt8) (h:A.length≤4096):A.take 4097++[c]=(A++[c]).take 4097:=by
 rw [List.take_of_length_le (by omega),List.take_of_length_le (by simp;omega)]
theorem take_full {A:List UInt8} (c:UInt8) (h:¬ A.length≤4096):A.take 4097=(A++[c]).take 4097:=by
 rw [List.take_append_of_le_length (by omega)]
theorem cutText_any (s:ByteArray) (w:World) (h0:0<s.size) (hs:s.size≤281474976710656) :
 Calls Tryz.prog 161 #[.string s] w (Gives (prv (ctx s.data.toList)) w):=by
 obtain ⟨i0,hi0,hz0,hz1,hz2⟩:=info_parts info8
 have HI:=qq hi0;have HZ0:=qq hz0;have HZ1:=qq hz1;have HZ2:=qq hz2
 clear hi0 hz0 hz1 hz2
 go_enter Tryz.func161,Tryz.ntmps161
 go_wp2_with fail
 have KB:=qq (box1 w (.cells #[.int .i64 0,.int .i64 0,.string ⟨#[]⟩,.int .i64 0,.int .i64 0] 28))
 have R:=Blk.made w 28 (vcs 0 0 ⟨#[]⟩ 0 0) rfl
 change Blk (w.alloc (.cells #[.int .i64 0,.int .i64 0,.string ⟨#[]⟩,.int .i64 0,.int .i64 0] 28)) w.heap.size _ at R
 have HR:=qq R;clear R
 generalize w.alloc (.cells #[.int .i64 0,.int .i64 0,.string ⟨#[]⟩,.int .i64 0,.int .i64 0] 28)=w0 at *
 go_loopw [5,6] (fun L at_ wr=>RelX s w0 L at_ wr) (fun _ at_ _=>s.size - (intOf at_).toNat)
 case atStart=>exact ⟨1,[],Nat.le_refl _,h0,rfl,by rw [List.drop_one];exact (pre_nil (ct_norm _)).symm,World.ownsRow_nil _ _ _ _,Below.refl _ _⟩
 case round =>
  obtain ⟨k,A,hk1,hk,rfl,hct,ho,hb⟩:=hrel
  obtain ⟨a,c,rfl⟩:=own_shape ho
  have HC:=qq hct;have HO:=qq ho;have HB:=qq hb
  have R1:=HR.out.next hb
  clear hct ho hb
  have hB0:w0.heap.size≤wr.heap.size:=HB.out.size
  by_cases hlt:k<s.size
  · have HD:=qq (drop_at hlt)
    obtain ⟨q,hq⟩:∃ q:UInt8,s[k]=q:=⟨_,rfl⟩
    rw [hq] at HD
    by_cases h34:q=34
    · subst h34
      have HE1:Hid (ctx s.data.toList=if 4096<A.length then (vz,0,3) else (⟨1,0,A,0,0⟩,k+1,0)):=by
       show _=_
       rw [ctx_of HC.out,HD.out,ct_quote,if_neg (fun h=>h rfl)]
       dsimp only
       rw [List.append_nil,show k - 1+1+1=k+1 by omega]
      have hlen:(A.take 4097).length=min 4097 A.length:=List.length_take
      rw [hlen] at HO ⊢
      clear hlen
      by_cases hA:4096<A.length
      · have HE:=qq (HE1.out.trans (if_pos hA))
        have hm:min 4097 A.length=4097:=by omega
        rw [hm] at HO ⊢
        clear hm hA HE1
        have r0:=R1.v0;have r1:=R1.v1;have r2:=R1.v2;have r3:=R1.v3;have r4:=R1.v4
        have f0:=R1.g0;have f1:=R1.g1;have f2:=R1.g2;have f3:=R1.g3;have f4:=R1.g4
        have RH:=qq (fun a0 a1 a2 a3 a4=>R1.all5 a0 a1 a2 a3 a4)
        clear R1
        go_wp2_with fail
        have RF:=RH.out (.int .i64 0) (.int .i64 0) (.string ⟨#[]⟩) (.int .i64 0) (.int .i64 0)
        have c0:=RF.c 0 _ rfl;have c1:=RF.c 1 _ rfl;have c2:=RF.c 2 _ rfl;have c3:=RF.c 3 _ rfl;have c4:=RF.c 4 _ rfl
        clear RF
        rw [HE.out]
        refine bodyPost_ret (v:=prv (vz,0,3)) (by simp [results,Tryz.results161,go_sem,c0,c1,c2,c3,c4];rfl) rfl ⟨rfl,?_⟩
        exact below_all5 (Below.next KB.out HB.out) (Nat.le_refl _) _ _ _ _ _
      · have HE:=qq (HE1.out.trans (if_neg hA))
        have hm:min 4097 A.length=A.length:=by omega
        have ht:A.take 4097=A:=List.take_of_length_le (by omega)
        rw [hm] at HO ⊢
        rw [ht] at HO
        have hcv:=run_own_text rfl HO.out ⟨wr,Below.refl _ _⟩
        have hn:¬ (4096:Int)<(A.length:Int):=by omega
        have hn2:¬ 4096<A.length:=hA
        clear hm hA ht HE1
        go_wp2_with fail
        refine (text_any (tx A) _).mono ?_
        rintro e w1 ⟨rfl,hb⟩
        have HB1:=qq (Below.next KB.out (Below.next HB.out hb))
        have R2:=R1.next hb
        clear hb R1 hcv
        have r0:=R2.v0;have r1:=R2.v1;have r2:=R2.v2;have r3:=R2.v3;have r4:=R2.v4
        have f0:=R2.g0;have f1:=R2.g1;have f2:=R2.g2;have f3:=R2.g3;have f4:=R2.g4
        have RH:=qq (fun a0 a1 a2 a3 a4=>R2.all5 a0 a1 a2 a3 a4)
        clear R2
        go_wp2_with fail
        have RF:=RH.out (.int .i64 1) (.int .i64 0) (.string (tx A)) (.int .i64 0) (.int .i64 0)
        have c0:=RF.c 0 _ rfl;have c1:=RF.c 1 _ rfl;have c2:=RF.c 2 _ rfl;have c3:=RF.c 3 _ rfl;have c4:=RF.c 4 _ rfl
        clear RF
        rw [HE.out]
        refine bodyPost_ret (v:=prv (⟨1,0,A,0,0⟩,k+1,0)) (by simp [results,Tryz.results161,go_sem,c0,c1,c2,c3,c4];rfl) rfl ⟨rfl,?_⟩
        exact below_all5 (HB1.out) (Nat.le_refl _) _ _ _ _ _
    · have g34:((q.toNat:Int) == 34)=false:=by
       rw [beq_eq_false_iff_ne]
       intro e
       exact h34 (UInt8.toNat_inj.1 (show q.toNat=34 by omega))
      have hh:(s.data.toList.drop k).head? ≠ some 34:=by rw [HD.out];exact fun e=>h34 (Option.some.inj e)
      have hne:s.data.toList.drop k ≠ []:=by rw [HD.out];simp
      have HY:=qq (cutByte_any (s.extract k s.size))
      have hz2:=ext_size s k
      rw [ext_list] at HY
      clear HD h34
      rcases cb_cases (s.data.toList.drop k) with ⟨d,z,e,hz,hz3⟩ | ⟨m,e,hm,_⟩
      · rw [e] at HY
        have HC1:Hid (ct s.data.toList.tail=pre (A++[d]) (k+z - 1) (ct (s.data.toList.drop (k+z)))):=by
         show _=_
         rw [HC.out,ct_step hh e hz,pre_pre,List.drop_drop,show k - 1+z=k+z - 1 by omega]
        have hkz:k+z≤s.size:=by
         rw [List.length_drop] at hz3
         have:s.data.toList.length=s.size:=by simp
         omega
        clear e hh hne hz3 HC
        by_cases hA:A.length≤4096
        · have ht:A.take 4097=A:=List.take_of_length_le (by omega)
          rw [ht] at HO ⊢
          have hn:(A.length:Int)≤4096:=by omega
          clear ht
          go_wp2_with fail
          refine (HY.out _ (by omega) (by omega)).mono ?_
          rintro e w' ⟨rfl,rfl⟩
          unfold cbv
          go_wp2_with (at_builtin;refine wpList_append_own _ rfl _ _ 123 rfl w0.heap.size 5 i0 (.int .u8 0) 1 1 Tryz.underlying123 HI.out HZ0.out HZ1.out HZ2.out rfl (by decide) _ _ _ rfl (HO.out.alloc _) ⟨wr.heap.size,0,none⟩ 1 1 [.int .u8 (d.toNat:Int)] rfl rfl (one_news wr _ _) (one_one rfl) ?c3 ?c4 ?c5 ?_)
          case c3=>unfold maxLen;omega
          case c4=>omega
          case c5=>exact Nat.le_trans hB0 (by simp)
          intro v' w1 hown' hgrow _
          have HN:Hid (w1.ownsRow w0.heap.size 5 1 v' ((A++[d]).take 4097).length (vals ((A++[d]).take 4097))):=by
           show World.ownsRow _ _ _ _ _ _ _
           rw [← take_add d hA,List.take_of_length_le (show A.length≤4097 by omega),vals_snoc,List.length_append];exact hown'
          have HB1:Hid (Below w0.heap.size w0 w1):=(HB.out.alloc HB.out.size _).grown hgrow (Nat.le_trans hB0 (by simp)) (fun g e=>(HO.out.lt g e).1)
          clear hown' hgrow
          go_wp2
          go_roundw
          case rel=>exact ⟨k+z,A++[d],by omega,hkz,by go_num,HC1.out,HN.out,HB1.out⟩
          case measure=>simp [intOf];omega
        · have hlen:(A.take 4097).length=4097:=by rw [List.length_take];omega
          have HO2:Hid (wr.ownsRow w0.heap.size 5 1 (.slice a 4097 c) ((A++[d]).take 4097).length (vals ((A++[d]).take 4097))):=by
           show World.ownsRow _ _ _ _ _ _ _
           have:=HO.out
           rw [take_full d hA] at this
           rw [take_full d hA] at hlen
           rw [hlen] at this ⊢;exact this
          rw [hlen] at HO ⊢
          clear hlen
          go_wp2_with fail
          refine (HY.out _ (by omega) (by omega)).mono ?_
          rintro e w' ⟨rfl,rfl⟩
          unfold cbv
          go_wp2_with fail
          go_roundw
          case rel=>exact ⟨k+z,A++[d],by omega,hkz,by go_num,HC1.out,HO2.out,HB.out⟩
          case measure=>simp [intOf];omega
      · rw [e] at HY
        have HE:Hid (ctx s.data.toList=(vz,0,m)):=by
         show _=_
         rw [ctx_of HC.out,ct_bad hne hh e hm]
         exact if_pos (by show m ≠ 0;omega)
        have g0:((m:Int) != 0)=true:=by rw [bne_iff_ne];omega
        clear e hh hne HC
        have r0:=R1.v0;have r1:=R1.v1;have r2:=R1.v2;have r3:=R1.v3;have r4:=R1.v4
        have f0:=R1.g0;have f1:=R1.g1;have f2:=R1.g2;have f3:=R1.g3;have f4:=R1.g4
        have RH:=qq (fun a0 a1 a2 a3 a4=>R1.all5 a0 a1 a2 a3 a4)
        clear R1
        go_wp2_with fail
        refine (HY.out _ (by omega) (by omega)).mono ?_
        rintro e w' ⟨rfl,rfl⟩
        unfold cbv
        go_wp2_with fail
        have RF:=RH.out (.int .i64 0) (.int .i64 0) (.string ⟨#[]⟩) (.int .i64 0) (.int .i64 0)
        have c0:=RF.c 0 _ rfl;have c1:=RF.c 1 _ rfl;have c2:=RF.c 2 _ rfl;have c3:=RF.c 3 _ rfl;have c4:=RF.c 4 _ rfl
        clear RF
        rw [HE.out]
        refine bodyPost_ret (v:=prv (vz,0,m)) (by simp [results,Tryz.results161,go_sem,c0,c1,c2,c3,c4];rfl) rfl ⟨rfl,?_⟩
        exact below_all5 (Below.next KB.out HB.out) (Nat.le_refl _) _ _ _ _ _
  · have HE:Hid (ctx s.data.toList=(vz,0,2)):=by
     show _=_
     rw [ctx_of HC.out,List.drop_of_length_le (by simp;omega),ct_nil]
     exact if_pos (by decide)
    clear HC
    have r0:=R1.v0;have r1:=R1.v1;have r2:=R1.v2;have r3:=R1.v3;have r4:=R1.v4
    have f0:=R1.g0;have f1:=R1.g1;have f2:=R1.g2;have f3:=R1.g3;have f4:=R1.g4
    have RH:=qq (fun a0 a1 a2 a3 a4=>R1.all5 a0 a1 a2 a3 a4)
    clear R1
    go_wp2_with fail
    have RF:=RH.out (.int .i64 0) (.int .i64 0) (.string ⟨#[]⟩) (.int .i64 0) (.int .i64 0)
    have c0:=RF.c 0 _ rfl;have c1:=RF.c 1 _ rfl;have c2:=RF.c 2 _ rfl;have c3:=RF.c 3 _ rfl;have c4:=RF.c 4 _ rfl
    clear RF
    rw [HE.out]
    refine bodyPost_ret (v:=prv (vz,0,2)) (by simp [results,Tryz.results161,go_sem,c0,c1,c2,c3,c4];rfl) rfl ⟨rfl,?_⟩
    exact below_all5 (Below.next KB.out HB.out) (Nat.le_refl _) _ _ _ _ _
theorem prv_box {w:World} {b:Nat} (h:Blk w b (vcs 0 0 ⟨#[]⟩ 0 0)) (v:Va):Blk (((((w.setCell ⟨b,0,none⟩ (.int .i64 v.k)).setCell ⟨b,1,none⟩ (.int .i64 v.n)).setCell ⟨b,2,none⟩ (.string (tx v.s))).setCell ⟨b,3,none⟩ (.int .i64 v.x)).setCell ⟨b,4,none⟩ (.int .i64 v.y)) b [.int .i64 v.k,.int .i64 v.n,.string (tx v.s),.int .i64 v.x,.int .i64 v.y]:=h.all5 _ _ _ _ _
theorem parse_any (s:ByteArray) (w:World) (hs:s.size≤281474976710656) :
 Calls Tryz.prog 145 #[.string s] w (Gives (prv (pz s.data.toList)) w):=by
 by_cases hz:s.size=0
 · have h1:=empty_of hz
   have h1':s.toList.isEmpty=true:=by rw [h1];rfl
   have HE:Hid (pz s.data.toList=(vz,0,10)):=by
    show _=_
    rw [← ByteArray.toList_eq,h1];unfold pz;simp
   go_enter Tryz.func145,Tryz.ntmps145
   go_wp2_with fail
   rw [HE.out]
   refine bodyPost_ret (v:=prv (vz,0,10)) (by simp [results,Tryz.results145,go_sem];rfl) rfl ⟨rfl,?_⟩
   exact box1 w _
 · have h1:=full_of hz
   have h1':s.toList.isEmpty=false:=by simpa using h1
   have h3:0<s.size:=by omega
   have HH:=qq (head_at h3)
   obtain ⟨c,hc⟩:∃ c:UInt8,s[0]'h3=c:=⟨_,rfl⟩
   rw [hc] at HH
   have HP:Hid (pz s.data.toList=if c=34 then ctx s.data.toList else if c=45∨dg c=true then cnum s.data.toList else (vz,0,10)):=by
    show _=_
    unfold pz;rw [HH.out];simp
   by_cases h34:c=34
   · subst h34
     have HE:=qq (HP.out.trans (if_pos rfl))
     have HC:=qq (cutText_any s)
     clear HP HH hz
     rw [HE.out]
     generalize ctx s.data.toList=r at *
     obtain ⟨v,z,k⟩:=r
     go_enter Tryz.func145,Tryz.ntmps145
     go_wp2_with fail
     have KB:=qq (box1 w (.cells #[.int .i64 0,.int .i64 0,.string ⟨#[]⟩,.int .i64 0,.int .i64 0] 28))
     have R:=Blk.made w 28 (vcs 0 0 ⟨#[]⟩ 0 0) rfl
     change Blk (w.alloc (.cells #[.int .i64 0,.int .i64 0,.string ⟨#[]⟩,.int .i64 0,.int .i64 0] 28)) w.heap.size _ at R
     generalize w.alloc (.cells #[.int .i64 0,.int .i64 0,.string ⟨#[]⟩,.int .i64 0,.int .i64 0] 28)=w0 at *
     refine (HC.out _ h3 hs).mono ?_
     rintro e w1 ⟨rfl,hb⟩
     have HB1:=qq (Below.next KB.out hb)
     have R1:=R.next hb
     clear hb R KB
     unfold prv vv
     have r0:=R1.v0;have r1:=R1.v1;have r2:=R1.v2;have r3:=R1.v3;have r4:=R1.v4
     have f0:=R1.g0;have f1:=R1.g1;have f2:=R1.g2;have f3:=R1.g3;have f4:=R1.g4
     have RH:=qq (prv_box R1 v)
     clear R1
     go_wp2_with fail
     have RF:=RH.out
     have c0:=RF.c 0 _ rfl;have c1:=RF.c 1 _ rfl;have c2:=RF.c 2 _ rfl;have c3:=RF.c 3 _ rfl;have c4:=RF.c 4 _ rfl
     clear RF
     refine bodyPost_ret (v:=.tuple #[.agg #[.int .i64 v.k,.int .i64 v.n,.string (tx v.s),.int .i64 v.x,.int .i64 v.y],.int .i64 (z:Int),.int .i64 (k:Int)]) (by simp [results,Tryz.results145,go_sem,c0,c1,c2,c3,c4]) rfl ⟨rfl,?_⟩
     exact below_all5 HB1.out (Nat.le_refl _) _ _ _ _ _
   · have g34:((c.toNat:Int) == 34)=false:=by
      rw [beq_eq_false_iff_ne]
      intro e
      exact h34 (UInt8.toNat_inj.1 (show c.toNat=34 by omega))
     have HE1:=qq (HP.out.trans (if_neg h34))
     have HC:=qq (cutNumbers_any s)
     have HG:=qq (isDigit_any c)
     clear HP HH hz h34
     by_cases h45:c=45
     · subst h45
       have HE:=qq (HE1.out.trans (if_pos (.inl rfl)))
       clear HE1 HG
       rw [HE.out]
       generalize cnum s.data.toList=r at *
       obtain ⟨v,z,k⟩:=r
       go_enter Tryz.func145,Tryz.ntmps145
       go_wp2_with fail
       have KB:=qq (box1 w (.cells #[.int .i64 0,.int .i64 0,.string ⟨#[]⟩,.int .i64 0,.int .i64 0] 28))
       have R:=Blk.made w 28 (vcs 0 0 ⟨#[]⟩ 0 0) rfl
       change Blk (w.alloc (.cells #[.int .i64 0,.int .i64 0,.string ⟨#[]⟩,.int .i64 0,.int .i64 0] 28)) w.heap.size _ at R
       generalize w.alloc (.cells #[.int .i64 0,.int .i64 0,.string ⟨#[]⟩,.int .i64 0,.int .i64 0] 28)=w0 at *
       refine (HC.out _ hs).mono ?_
       rintro e w1 ⟨rfl,hb⟩
       have HB1:=qq (Below.next KB.out hb)
       have R1:=R.next hb
       clear hb R KB
       unfold prv vv
       have r0:=R1.v0;have r1:=R1.v1;have r2:=R1.v2;have r3:=R1.v3;have r4:=R1.v4
       have f0:=R1.g0;have f1:=R1.g1;have f2:=R1.g2;have f3:=R1.g3;have f4:=R1.g4
       have RH:=qq (prv_box R1 v)
       clear R1
       go_wp2_with fail
       have RF:=RH.out
       have c0:=RF.c 0 _ rfl;have c1:=RF.c 1 _ rfl;have c2:=RF.c 2 _ rfl;have c3:=RF.c 3 _ rfl;have c4:=RF.c 4 _ rfl
       clear RF
       refine bodyPost_ret (v:=.tuple #[.agg #[.int .i64 v.k,.int .i64 v.n,.string (tx v.s),.int .i64 v.x,.int .i64 v.y],.int .i64 (z:Int),.int .i64 (k:Int)]) (by simp [results,Tryz.results145,go_sem,c0,c1,c2,c3,c4]) rfl ⟨rfl,?_⟩
       exact below_all5 HB1.out (Nat.le_refl _) _ _ _ _ _
     · have g45:((c.toNat:Int) == 45)=false:=by
        rw [beq_eq_false_iff_ne]
        intro e
        exact h45 (UInt8.toNat_inj.1 (show c.toNat=45 by omega))
       rcases Bool.eq_false_or_eq_true (dg c) with hd | hd
       · have HE:=qq (HE1.out.trans (if_pos (.inr hd)))
         rw [hd] at HG
         clear HE1 h45 hd
         rw [HE.out]
         generalize cnum s.data.toList=r at *
         obtain ⟨v,z,k⟩:=r
         go_enter Tryz.func145,Tryz.ntmps145
         go_wp2_with fail
         have KB:=qq (box1 w (.cells #[.int .i64 0,.int .i64 0,.string ⟨#[]⟩,.int .i64 0,.int .i64 0] 28))
         have R:=Blk.made w 28 (vcs 0 0 ⟨#[]⟩ 0 0) rfl
         change Blk (w.alloc (.cells #[.int .i64 0,.int .i64 0,.string ⟨#[]⟩,.int .i64 0,.int .i64 0] 28)) w.heap.size _ at R
         generalize w.alloc (.cells #[.int .i64 0,.int .i64 0,.string ⟨#[]⟩,.int .i64 0,.int .i64 0] 28)=w0 at *
         refine (HG.out _).mono ?_
         rintro e w' ⟨rfl,rfl⟩
         go_wp2_with fail
         refine (HC.out _ hs).mono ?_
         rintro e w1 ⟨rfl,hb⟩
         have HB1:=qq (Below.next KB.out hb)
         have R1:=R.next hb
         clear hb R KB
         unfold prv vv
         have r0:=R1.v0;have r1:=R1.v1;have r2:=R1.v2;have r3:=R1.v3;have r4:=R1.v4
         have f0:=R1.g0;have f1:=R1.g1;have f2:=R1.g2;have f3:=R1.g3;have f4:=R1.g4
         have RH:=qq (prv_box R1 v)
         clear R1
         go_wp2_with fail
         have RF:=RH.out
         have c0:=RF.c 0 _ rfl;have c1:=RF.c 1 _ rfl;have c2:=RF.c 2 _ rfl;have c3:=RF.c 3 _ rfl;have c4:=RF.c 4 _ rfl
         clear RF
         refine bodyPost_ret (v:=.tuple #[.agg #[.int .i64 v.k,.int .i64 v.n,.string (tx v.s),.int .i64 v.x,.int .i64 v.y],.int .i64 (z:Int),.int .i64 (k:Int)]) (by simp [results,Tryz.results145,go_sem,c0,c1,c2,c3,c4]) rfl ⟨rfl,?_⟩
         exact below_all5 HB1.out (Nat.le_refl _) _ _ _ _ _
       · have HE:=qq (HE1.out.trans (if_neg (by rintro (h | h);exact h45 h;rw [hd] at h;cases h)))
         rw [hd] at HG
         clear HE1 h45 hd
         rw [HE.out]
         go_enter Tryz.func145,Tryz.ntmps145
         go_wp2_with fail
         refine (HG.out _).mono ?_
         rintro e w' ⟨rfl,rfl⟩
         go_wp2_with fail
         refine bodyPost_ret (v:=prv (vz,0,10)) (by simp [results,Tryz.results145,go_sem];rfl) rfl ⟨rfl,?_⟩
         exact box1 w _
end Go.Proofs.YtgakcpcpfkoaiaaGreatDoor.Va
namespace Go.Proofs.YtgakcpcpfkoaiaaGreatDoor.Ex
open Go.ChangeShapes Go.WideShapes Go.ChangeAt Go.RowKit Ov Va
end Go.Proofs.YtgakcpcpfkoaiaaGreatDoor.Ex
namespace Go.Proofs.YtgakcpcpfkoaiaaGreatDoor.Ov
open Go.ChangeShapes Go.WideShapes Go.ChangeAt Go.RowKit
section
variable {w:World} {b:Nat} {vs:List Value}
end
end Go.Proofs.YtgakcpcpfkoaiaaGreatDoor.Ov
namespace Go.Proofs.YtgakcpcpfkoaiaaGreatDoor.Ex
open Go.ChangeShapes Go.WideShapes Go.ChangeAt Go.RowKit Ov Va
def nov (n:No):Value:=.agg #[.int .i64 n.o,.int .i64 n.v.k,.int .i64 n.v.n,.string (tx n.v.s),.int .i64 n.v.x,.int .i64 n.v.y]
def ncl (n:No):List Value:=[.int .i64 n.o,.int .i64 n.v.k,.int .i64 n.v.n,.string (tx n.v.s),.int .i64 n.v.x,.int .i64 n.v.y]
end Go.Proofs.YtgakcpcpfkoaiaaGreatDoor.Ex
namespace Go.Proofs.YtgakcpcpfkoaiaaGreatDoor.Ex
open Go.ChangeShapes Go.WideShapes Go.ChangeAt Go.RowKit Ov Va
end Go.Proofs.YtgakcpcpfkoaiaaGreatDoor.Ex
namespace Go.Proofs.YtgakcpcpfkoaiaaGreatDoor.Ov
open Go.ChangeShapes Go.WideShapes Go.ChangeAt Go.RowKit
section
variable {w w':World} {base base' size size' n n':Nat} {e e':TypeId} {v v':Value} {xs xs':List Value}
theorem own_old (h:w.ownsRow base e size v n xs) (k:Below w.heap.size w w'):w'.ownsRow base e size v n xs :=
 h.kept (row:=none) ⟨k.os,k.tape,k.output,k.size,fun i hi _=>k.block i hi⟩ (by cases v.ownBlock <;> simp)
end
end Go.Proofs.YtgakcpcpfkoaiaaGreatDoor.Ov
namespace Go.Proofs.YtgakcpcpfkoaiaaGreatDoor.Ex
open Go.ChangeShapes Go.WideShapes Go.ChangeAt Go.RowKit Ov Va
def cells (l:List No):List Value:=l.flatMap ncl
def nd (l:List No) (i:Nat):No:=(l[i]?).getD nz
theorem cells_snoc (l:List No) (n:No):cells (l++[n])=cells l++ncl n:=by
 unfold cells
 rw [List.flatMap_append];simp
theorem nd_cons (n:No) (t:List No) (i:Nat):nd (n :: t) (i+1)=nd t i:=rfl
theorem nd_at {l:List No} {i:Nat} (h:i<l.length):nd l i=l[i]:=by unfold nd;rw [List.getElem?_eq_getElem h];rfl
theorem cells_at (l:List No) (i j:Nat) (hi:i<l.length) (hj:j<6):(cells l)[i * 6+j]? = (ncl (nd l i))[j]?:=by
 induction l generalizing i with
 | nil=>simp at hi
 | cons n t ih =>
   show (ncl n++cells t)[i * 6+j]? = _
   cases i with
   | zero =>
     rw [Nat.zero_mul,Nat.zero_add,List.getElem?_append_left (by show j<6;exact hj)];rfl
   | succ i =>
     rw [List.getElem?_append_right (by show 6≤_;omega),nd_cons]
     show (cells t)[(i+1) * 6+j - 6]? = _
     rw [show (i+1) * 6+j - 6=i * 6+j by omega]
     exact ih i (by simpa using hi)
theorem drop_nd {l:List No} {k:Nat} (h:k<l.length):l.drop k=nd l k :: l.drop (k+1):=by rw [nd_at h];exact List.drop_eq_getElem_cons h
def Nds (w:World) (p:Option Addr) (l:List No):Prop :=
 0<l.length→∃ B O,p=some ⟨B,O,none⟩∧∀ i j v,i<l.length→(ncl (nd l i))[j]? = some v→w.cell? ⟨B,O+i * 6+j,none⟩=some v
section
variable {w w':World} {p:Option Addr} {l:List No}
theorem Nds.next (h:Nds w p l) (k:Below w.heap.size w w'):Nds w' p l:=fun hn=>by
 obtain ⟨B,O,e,hc⟩:=h hn
 exact ⟨B,O,e,fun i j v hi hv=>(k.cell (p:=⟨B,O+i * 6+j,none⟩) (block_lt_of_cell (hc i j v hi hv))).trans (hc i j v hi hv)⟩
theorem Nds.cell {B O:Nat} (h:Nds w (some ⟨B,O,none⟩) l) {i:Nat} (hi:i<l.length) (j:Nat) (v:Value) (hv:(ncl (nd l i))[j]? = some v):w.cell? ⟨B,O+i * 6+j,none⟩=some v:=by
 obtain ⟨B',O',e,hc⟩:=h (by omega)
 simp only [Option.some.injEq,Addr.mk.injEq,and_true] at e
 obtain ⟨rfl,rfl⟩:=e
 exact hc i j v hi hv
theorem Nds.lt {B O:Nat} (h:Nds w (some ⟨B,O,none⟩) l) (hl:0<l.length):B<w.heap.size:=block_lt_of_cell (h.cell hl 0 _ rfl)
theorem Nds.shape (h:Nds w p l) (hl:0<l.length):∃ B O,p=some ⟨B,O,none⟩:=by
 obtain ⟨B,O,e,_⟩:=h hl
 exact ⟨B,O,e⟩
theorem Nds.nil (w:World) (p:Option Addr):Nds w p []:=fun h=>absurd h (Nat.lt_irrefl 0)
theorem Nds.of_own {base:Nat} {e:TypeId} {A:Option Addr} {c:Nat} (h:w.ownsRow base e 6 (.slice A l.length c) l.length (cells l)):Nds w A l:=fun hn=>by
 obtain ⟨g,cap,hv,_⟩:=h.form hn
 injection hv with h1 h2 h3
 subst h1
 refine ⟨g,0,rfl,fun i j v hi hv=>?_⟩
 have hj:j<6:=by
  rcases Nat.lt_or_ge j 6 with h | h
  · exact h
  · rw [List.getElem?_eq_none (by show 6≤j;exact h)] at hv;cases hv
 rw [Nat.zero_add,h.cellAt _ (by omega),cells_at l i j hi hj];exact hv
end
theorem own_slice {w:World} {base size n:Nat} {e:TypeId} {v:Value} {xs:List Value} (h:w.ownsRow base e size v n xs):∃ A c,v=.slice A n c:=by
 rcases h.2 with ⟨rfl,rfl⟩ | ⟨g,cap,cur,rfl,_⟩
 · exact ⟨none,0,rfl⟩
 · exact ⟨_,_,rfl⟩
theorem own_cap {w:World} {base size n c:Nat} {e:TypeId} {A:Option Addr} {xs:List Value} (h:w.ownsRow base e size (.slice A n c) n xs):n≤c∧c≤maxLen:=by
 rcases h.2 with ⟨h1,rfl⟩ | ⟨g,cap,cur,h1,_,_,hn,hc,_⟩
 · injection h1 with _ _ h3;subst h3;exact ⟨Nat.le_refl _,Nat.zero_le _⟩
 · injection h1 with _ _ h3;subst h3;exact ⟨hn,hc⟩
theorem ncl_one (n:No):∀ u ∈ ncl n,u.oneCell'=true:=by
 intro u hu
 unfold ncl at hu
 simp only [List.mem_cons,List.not_mem_nil,or_false] at hu
 rcases hu with rfl | rfl | rfl | rfl | rfl | rfl <;> rfl
theorem infoN:(Tryz.prog.info? 97).map (fun i=>(i.zero,i.size,i.bytes))=some (some (nov nz),6,56):=by kernel_rfl
end Go.Proofs.YtgakcpcpfkoaiaaGreatDoor.Ex
namespace Go.Proofs.YtgakcpcpfkoaiaaGreatDoor.Ex
open Go.ChangeShapes Go.WideShapes Go.ChangeAt Go.RowKit Ov Va
instance:Inhabited No:=⟨nz⟩
section
variable {H:Type} {enc:TypeId × Value→H} {w:World} {base:Nat} {spare:Nat→Bool} {held:Bool}
theorem node_cells {fuel:Nat} {cs:List Value} {x:DataW H × List MemPlace} (h:DataW.trod enc Tryz.prog w base spare held fuel 46 cs=some x):∃ n:No,cs=ncl n:=by
 have c1:Tryz.prog.cellsOf 3=1:=by kernel_rfl
 have c2:Tryz.prog.cellsOf 9=1:=by kernel_rfl
 have c3:Tryz.prog.cellsOf 26=2:=by kernel_rfl
 have c4:Tryz.prog.cellsOf 28=5:=by kernel_rfl
 have c5:Tryz.prog.cellsOf 46=6:=by kernel_rfl
 obtain ⟨y0,y1,m,_,hl,g0,g1⟩:=trod_struct2 Tryz.underlying46 h
 rw [c5] at hl
 match cs,hl with
 | [a0,a1,a2,a3,a4,a5],_ =>
   simp only [c1,c4] at g0 g1
   obtain ⟨o,e0,_,_⟩:=DataW.trod_int Tryz.underlying3 g0
   obtain ⟨z0,z1,z2,z3,m',_,_,h0,h1,h2,h3⟩:=Joins.trod_struct4 Tryz.underlying28 g1
   simp only [c1,c2,c3] at h0 h1 h2 h3
   obtain ⟨k,e1,_,_⟩:=DataW.trod_int Tryz.underlying3 h0
   obtain ⟨n,e2,_,_⟩:=DataW.trod_int Tryz.underlying3 h1
   obtain ⟨s,e3,_,_⟩:=DataW.trod_string Tryz.underlying9 h2
   obtain ⟨x0,x1,m'',_,_,f0,f1⟩:=trod_struct2 Tryz.underlying26 h3
   simp only [c1] at f0 f1
   obtain ⟨x,e4,_,_⟩:=DataW.trod_int Tryz.underlying3 f0
   obtain ⟨y,e5,_,_⟩:=DataW.trod_int Tryz.underlying3 f1
   have q0:[a0]=[Value.int .i64 o]:=e0
   have q1:[a1]=[Value.int .i64 k]:=e1
   have q2:[a2]=[Value.int .i64 n]:=e2
   have q3:[a3]=[Value.string s]:=e3
   have q4:[a4]=[Value.int .i64 x]:=e4
   have q5:[a5]=[Value.int .i64 y]:=e5
   obtain rfl:a0=.int .i64 o:=by simpa using q0
   obtain rfl:a1=.int .i64 k:=by simpa using q1
   obtain rfl:a2=.int .i64 n:=by simpa using q2
   obtain rfl:a3=.string s:=by simpa using q3
   obtain rfl:a4=.int .i64 x:=by simpa using q4
   obtain rfl:a5=.int .i64 y:=by simpa using q5
   exact ⟨⟨o,⟨k,n,s.data.toList,x,y⟩⟩,by unfold ncl;dsimp only;rw [tx_of]⟩
end
theorem ncl_lt {n:No} {j:Nat} {v:Value} (h:(ncl n)[j]? = some v):j<6:=by
 rcases Nat.lt_or_ge j 6 with h1 | h1
 · exact h1
 · rw [List.getElem?_eq_none (by show 6≤j;exact h1)] at h;cases h
theorem plain_addr {w:World} {a:Addr} {v:Value} (h:w.cell? a=some v):a=⟨a.block,a.off,none⟩:=by
 obtain ⟨b,off,spot⟩:=a
 have hspot:spot=none:=World.cell?_spot h
 subst hspot;rfl
def NdIn (w:World) (p:Option Addr) (n:Nat) (l:List No):Prop:=l.length=n∧Nds w p l∧n≤maxLen
theorem nodes_of {H:Type} {enc:TypeId × Value→H} {W:World} {p:Option Addr} {n c:Nat} {d:DataW H} {ps:List MemPlace} (h:DataW.Trod enc Tryz.prog W 0 (fun _=>true) true 22 (.slice p n c) d ps):∃ l:List No,NdIn W p n l:=by
 have c5:Tryz.prog.cellsOf 46=6:=by kernel_rfl
 obtain ⟨fuel,hf⟩:=h
 rcases Go.Deep.open_slice Tryz.underlying22 hf with ⟨hcs,_⟩ | ⟨a,len,cap,m,f,D,Pl,hcs,_,hlc,hcm,hm,_,hall⟩
 · simp [Value.cells] at hcs
   obtain ⟨rfl,rfl,rfl⟩:=hcs
   exact ⟨[],rfl,Nds.nil _ _,Nat.zero_le _⟩
 · simp [Value.cells] at hcs
   obtain ⟨rfl,rfl,rfl⟩:=hcs
   simp at hm
   subst hm
   have hz:∀ i,i<m→∃ q:No,∀ j v,(ncl q)[j]? = some v→W.cell? ((a.add (i * 6)).add j)=some v:=fun i hi=>by
    obtain ⟨cs',hc,ht⟩:=hall i hi
    rw [c5] at hc
    obtain ⟨q,rfl⟩:=node_cells ht
    obtain ⟨_,_,hat⟩:=World.cells?_some hc
    exact ⟨q,fun j v hv=>by rw [hat j (ncl_lt hv)];exact hv⟩
   obtain ⟨q,hq⟩:=Go.Deep.choose_lt hz
   have hget:∀ i,i<n→nd ((List.range n).map q) i=q i:=fun i hi=>by unfold nd;simp [hi]
   refine ⟨(List.range n).map q,by simp,fun hn=>?_,Nat.le_trans hlc hcm⟩
   have hn':0<n:=by simpa using hn
   have h0:=hq 0 (by omega) 0 _ rfl
   have ha:=plain_addr (show W.cell? a=_ by simpa [Addr.add] using h0)
   refine ⟨a.block,a.off,congrArg some ha,fun i j v hi hv=>?_⟩
   have hi':i<n:=by simpa using hi
   rw [hget i hi'] at hv
   have:=hq i (by omega) j v hv
   rw [ha,Go.WideShapes.add_plain,Go.WideShapes.add_plain] at this
   exact this
def enx (n:Nat):Option (List No)→Value
 | some r=>.tuple #[.int .i64 ((n - r.length:Nat):Int),.bool true]
 | none=>.tuple #[.int .i64 0,.bool false]
theorem rnv_nd (n:No):rnv n.o n.v.k n.v.n (tx n.v.s) n.v.x n.v.y=rn n:=by unfold rnv;rw [tx_list]
theorem rn_range {n:No} (h:rn n=true):0≤n.o∧n.o≤29:=by
 rcases rn_cases h with ⟨h,_⟩ | ⟨h,_⟩ | ⟨h,_⟩ <;> omega
theorem ex_drop_len {d k:Nat} {l r:List No} (h:ex d (l.drop k)=some r) (hk:k≤l.length):r=l.drop (l.length - r.length)∧k<l.length - r.length∧r.length≤l.length:=by
 obtain ⟨h1,h2⟩:=ex_len h
 rw [List.length_drop] at h1 h2
 rw [List.drop_drop] at h2
 refine ⟨?_,by omega,by omega⟩
 rw [show k+(l.length - k - r.length)=l.length - r.length by omega] at h2
 exact h2
theorem end_out {l:List No} {A:Option Addr} {c k wi:Nat} {w:World} (d:Nat) (hk:¬ k<l.length):Calls Tryz.prog 78 #[.slice A l.length c,.int .i64 (k:Int),.int .i64 (wi:Int)] w (Gives (enx l.length (ex d (l.drop k))) w):=by
 have HE:Hid (enx l.length (ex d (l.drop k))=.tuple #[.int .i64 0,.bool false]):=by
  show _=_
  rw [List.drop_of_length_le (by omega),ex_nil];rfl
 go_enter Tryz.func78,Tryz.ntmps78
 go_wp2_with fail
 go_ret2
 exact ⟨by rw [HE.out];rfl,Below.refl _ _⟩
theorem end_deep {l:List No} {A:Option Addr} {c k:Nat} {w:World} (hk:k<l.length):Calls Tryz.prog 78 #[.slice A l.length c,.int .i64 (k:Int),.int .i64 25] w (Gives (enx l.length (ex 0 (l.drop k))) w):=by
 have HE:Hid (enx l.length (ex 0 (l.drop k))=.tuple #[.int .i64 0,.bool false]):=rfl
 go_enter Tryz.func78,Tryz.ntmps78
 go_wp2_with fail
 go_ret2
 exact ⟨by rw [HE.out];rfl,Below.refl _ _⟩
theorem end_any:∀ (d:Nat) (l:List No) (A:Option Addr) (c k wi:Nat) (w:World),Nds w A l→KN w→wi+d=25→l.length≤4294967296→Calls Tryz.prog 78 #[.slice A l.length c,.int .i64 (k:Int),.int .i64 (wi:Int)] w (Gives (enx l.length (ex d (l.drop k))) w)
 | d,l,A,c,k,wi,w,hn,hkn,hwi,hl=>by
   by_cases hk:k<l.length
   · cases d with
     | zero =>
       obtain rfl:wi=25:=by omega
       exact end_deep hk
     | succ d =>
       have ih:=end_any d
       obtain ⟨B,O,rfl⟩:=hn.shape (by omega)
       have HI:Hid (∀ (k wi:Nat) (w:World),Nds w (some ⟨B,O,none⟩) l→KN w→wi+d=25→Calls Tryz.prog 78 #[.slice (some ⟨B,O,none⟩) l.length c,.int .i64 (k:Int),.int .i64 (wi:Int)] w (Gives (enx l.length (ex d (l.drop k))) w)) :=
        fun k wi w h1 h2 h3=>ih l (some ⟨B,O,none⟩) c k wi w h1 h2 h3 hl
       clear ih
       have hw:wi≤24:=by omega
       have HE1:Hid (ex (d+1) (l.drop k)=if rn (nd l k)=true then it (ex d) (pa (nd l k).o) (l.drop (k+1)) else none):=by
        show _=_
        rw [drop_nd hk,ex_cons]
       have HW:Hid (wi+1+d=25):=by show _=_;omega
       have HN:=qq hn
       have HK:=qq hkn
       clear hn hkn hwi
       have e0:=HN.out.cell hk 0 _ rfl
       have e1:=HN.out.cell hk 1 _ rfl
       have e2:=HN.out.cell hk 2 _ rfl
       have e3:=HN.out.cell hk 3 _ rfl
       have e4:=HN.out.cell hk 4 _ rfl
       have e5:=HN.out.cell hk 5 _ rfl
       rw [Nat.add_zero] at e0
       have HR:Hid (∀ w,KN w→Calls Tryz.prog 126 #[.agg #[.int .i64 (nd l k).o,.int .i64 (nd l k).v.k,.int .i64 (nd l k).v.n,.string (tx (nd l k).v.s),.int .i64 (nd l k).v.x,.int .i64 (nd l k).v.y]] w (Gives (.bool (rn (nd l k))) w)):=fun w h=>by
        rw [← rnv_nd];exact rightNode_any _ _ _ _ _ _ w h
       rcases Bool.eq_false_or_eq_true (rn (nd l k)) with hr | hr
       · obtain ⟨i,hi⟩:∃ i:Nat,(nd l k).o=(i:Int):=⟨(nd l k).o.toNat,by have:=rn_range hr;omega⟩
         have hi30:i<30:=by have:=rn_range hr;omega
         have HE:Hid (ex (d+1) (l.drop k)=it (ex d) ptl[i]! (l.drop (k+1))):=by
          show _=_
          rw [HE1.out,if_pos hr,hi,pa_at hi30]
         have hp3:ptl[i]!≤3:=by rw [← pa_at hi30];exact pa_le _
         rw [hr,hi] at HR
         rw [hi] at e0
         clear HE1 hr hi
         generalize ex (d+1) (l.drop k)=Z at *
         generalize hpp:ptl[i]! = p at *
         have HPP:=qq hpp
         clear hpp
         have HW0:Hid (B<w.heap.size):=HN.out.lt (by omega)
         have hd1:decide (l.length≤k)=false:=decide_eq_false (by omega)
         have hd2:decide ((24:Int)<(wi:Int))=false:=decide_eq_false (by omega)
         go_enter Tryz.func78,Tryz.ntmps78
         go_wp2_with fail
         refine (HR.out _ HK.out).mono ?_
         rintro e w1 ⟨rfl,hb⟩
         have HN1:=qq (HN.out.next hb)
         have HK1:=qq (HK.out.next hb)
         have HB:=qq hb
         have f0:w1.cell? ⟨B,O+k * 6,none⟩=some (.int .i64 (i:Int)):=(hb.cell (p:=⟨B,O+k * 6,none⟩) HW0.out).trans e0
         clear hb e0 e1 e2 e3 e4 e5 HR HN HK HW0
         have cK:=HK1.out.parts i hi30
         rw [HPP.out,Nat.mul_comm] at cK
         go_wp2_with fail
         clear f0 cK
         go_loopw [8,37] (fun bh j wr=>∃ y q:Nat,q≤p∧y≤l.length∧j=.int .i64 (q:Int)∧bh=.int .i64 (y:Int)∧Z=it (ex d) (p - q) (l.drop y)∧Below w1.heap.size w1 wr) (fun _ j _=>p - (intOf j).toNat)
         case atStart=>exact ⟨k+1,0,Nat.zero_le _,by omega,rfl,rfl,HE.out,Below.refl _ _⟩
         case round =>
          obtain ⟨y,q,hq,hy,rfl,rfl,hz,hb⟩:=hrel
          have HB1:=qq hb
          have HZ:=qq hz
          clear hb hz
          by_cases hlt:q<p
          · have HC:=qq (HI.out y (wi+1) wr (HN1.out.next HB1.out) (HK1.out.next HB1.out) HW.out)
            have HZ1:Hid (Z=(ex d (l.drop y)).bind (it (ex d) (p - (q+1)))):=by
             show _=_
             rw [HZ.out,show p - q=(p - (q+1))+1 by omega,it_succ]
            clear HZ
            obtain ⟨x,hx⟩:∃ x,ex d (l.drop y)=x:=⟨_,rfl⟩
            rw [hx] at HC HZ1
            have HX:=qq hx
            clear hx
            cases x with
            | none =>
              have HEE:Hid (enx l.length Z=.tuple #[.int .i64 0,.bool false]):=by show _=_;rw [HZ1.out];rfl
              clear HZ1
              unfold enx at HC
              go_wp2_with fail
              refine HC.out.mono ?_
              rintro e w2 ⟨rfl,hb⟩
              have HB2:=qq (Below.next HB.out (Below.next HB1.out hb))
              clear hb
              go_wp2_with fail
              go_ret2
              exact ⟨by rw [HEE.out];rfl,HB2.out⟩
            | some r =>
              obtain ⟨g1,g2,g3⟩:=ex_drop_len HX.out hy
              obtain ⟨v,hv⟩:∃ v,l.length - r.length=v:=⟨_,rfl⟩
              rw [hv] at g1 g2
              have HZ2:Hid (Z=it (ex d) (p - (q+1)) (l.drop v)):=by show _=_;rw [HZ1.out,← g1];rfl
              unfold enx at HC
              dsimp only at HC
              rw [hv] at HC
              have hv2:v≤l.length:=by omega
              clear HZ1 g1 hv HX
              go_wp2_with fail
              refine HC.out.mono ?_
              rintro e w2 ⟨rfl,hb⟩
              have HB2:=qq (Below.next HB1.out hb)
              clear hb
              go_wp2_with fail
              go_roundw
              case rel=>exact ⟨v,q+1,by omega,hv2,by go_num,rfl,HZ2.out,HB2.out⟩
              case measure=>simp [intOf];omega
          · have HEE:Hid (enx l.length Z=.tuple #[.int .i64 (y:Int),.bool true]):=by
             show _=_
             rw [HZ.out,show p - q=0 by omega,it_zero]
             show Value.tuple #[.int .i64 ((l.length - (l.drop y).length:Nat):Int),.bool true]=_
             rw [List.length_drop,show l.length - (l.length - y)=y by omega]
            have HB2:=qq (Below.next HB.out HB1.out)
            clear HZ
            go_wp2_with fail
            go_ret2
            exact ⟨by rw [HEE.out];rfl,HB2.out⟩
       · have HE:Hid (enx l.length (ex (d+1) (l.drop k))=.tuple #[.int .i64 0,.bool false]):=by
          show _=_
          rw [HE1.out,if_neg (by rw [hr];decide)];rfl
         rw [hr] at HR
         clear HE1 hr
         go_enter Tryz.func78,Tryz.ntmps78
         go_wp2_with fail
         refine (HR.out _ HK.out).mono ?_
         rintro e w1 ⟨rfl,hb⟩
         have HB:=qq hb
         clear hb
         go_wp2_with fail
         go_ret2
         exact ⟨by rw [HE.out];rfl,HB.out⟩
   · exact end_out d hk
theorem Rt_val (l:List No):Rt l=(decide (l.length≤400) && decide (ex 25 l=some [])):=by
 unfold Rt
 rw [Bool.eq_iff_iff];simp
theorem eright_any (l:List No) (A:Option Addr) (c:Nat) (w:World) (hn:Nds w A l) (hk:KN w) (hl:l.length≤4294967296):Calls Tryz.prog 51 #[.slice A l.length c] w (Gives (.bool (Rt l)) w):=by
 rw [Rt_val]
 by_cases h4:l.length≤400
 · rw [decide_eq_true h4,Bool.true_and]
   have HC:=qq (end_any 25 l A c 0 0 w hn hk rfl hl)
   rw [List.drop_zero] at HC
   clear hn hk
   obtain ⟨x,hx⟩:∃ x,ex 25 l=x:=⟨_,rfl⟩
   rw [hx] at HC ⊢
   have HX:=qq hx;clear hx
   cases x with
   | none =>
     rw [decide_eq_false (show ¬ (none:Option (List No))=some [] by simp)]
     unfold enx at HC
     go_enter Tryz.func51,Tryz.ntmps51
     go_wp2_with fail
     refine HC.out.mono ?_
     rintro e w1 ⟨rfl,hb⟩
     have HB:=qq hb;clear hb
     go_wp2_with fail
     go_ret
     exact ⟨rfl,HB.out⟩
   | some r =>
     have hr:=(ex_len HX.out).1
     unfold enx at HC
     dsimp only at HC
     obtain ⟨v,hv⟩:∃ v,l.length - r.length=v:=⟨_,rfl⟩
     rw [hv] at HC
     have HE:decide (some r=some ([]:List No))=((v:Int) == (l.length:Int)):=by
      rw [Bool.eq_iff_iff]
      simp only [decide_eq_true_eq,beq_iff_eq,Option.some.injEq]
      constructor
      · rintro rfl;rw [List.length_nil] at hv;omega
      · intro h;exact List.eq_nil_of_length_eq_zero (by omega)
     rw [HE]
     clear HE hv HX hr
     go_enter Tryz.func51,Tryz.ntmps51
     go_wp2_with fail
     refine HC.out.mono ?_
     rintro e w1 ⟨rfl,hb⟩
     have HB:=qq hb;clear hb
     go_wp2_with fail
     go_ret
     exact ⟨rfl,HB.out⟩
 · rw [decide_eq_false h4,Bool.false_and]
   have h5:400<l.length:=by omega
   clear hn hk
   go_enter Tryz.func51,Tryz.ntmps51
   go_wp2_with fail
   go_ret
   exact ⟨rfl,Below.refl _ _⟩
def hasN (l:List No) (k i:Nat):Bool:=(l.take k).any fun n=>n.o == 1 && n.v.n == (i:Int)
def hasL (l:List No) (k:Nat):List Value:=(List.range 5).map fun i=>Value.bool (hasN l k i)
theorem hasN_succ {l:List No} {k:Nat} (h:k<l.length) (i:Nat):hasN l (k+1) i=(hasN l k i || ((nd l k).o == 1 && (nd l k).v.n == (i:Int))):=by
 unfold hasN
 rw [nd_at h,List.take_succ_eq_append_getElem h,List.any_append];simp
theorem hasL_zero (l:List No):hasL l 0=[.bool false,.bool false,.bool false,.bool false,.bool false]:=rfl
theorem hasL_other {l:List No} {k:Nat} (h:k<l.length) (ho:(nd l k).o ≠ 1):hasL l (k+1)=hasL l k:=by
 unfold hasL
 apply List.map_congr_left
 intro i _
 rw [hasN_succ h,show ((nd l k).o == 1)=false from beq_eq_false_iff_ne.2 ho];simp
theorem hasL_name {l:List No} {k j:Nat} (h:k<l.length) (ho:(nd l k).o=1) (hj:(nd l k).v.n=(j:Int)) (hj5:j<5):hasL l (k+1)=(hasL l k).set j (.bool true):=by
 apply List.ext_getElem?
 intro i
 unfold hasL
 rw [List.getElem?_set]
 by_cases hi:i<5
 · rw [List.getElem?_map,List.getElem?_range hi]
   simp only [Option.map_some]
   rw [hasN_succ h,ho,hj]
   by_cases e:j=i
   · subst e
     rw [if_pos rfl,if_pos (by simpa using hj5)];simp
   · rw [if_neg e,List.getElem?_map,List.getElem?_range hi]
     have e2:((j:Int) == (i:Int))=false:=by rw [beq_eq_false_iff_ne];omega
     rw [e2];simp
 · rw [List.getElem?_eq_none (by simp;omega)]
   by_cases e:j=i
   · omega
   · rw [if_neg e,List.getElem?_eq_none (by simp;omega)]
theorem hasL_get (l:List No) (k:Nat) {i:Nat} (hi:i<5):(hasL l k)[i]? = some (.bool (hasN l k i)):=by
 unfold hasL
 rw [List.getElem?_map,List.getElem?_range hi];rfl
def hnv (l:List No) (k:Nat):Value:=.agg #[.bool (hasN l k 0),.bool (hasN l k 1),.bool (hasN l k 2),.bool (hasN l k 3),.bool (hasN l k 4)]
def nmv (l:List No):Value:=if Rt l=true then hnv l l.length else .agg #[.bool false,.bool false,.bool false,.bool false,.bool false]
theorem Rt_names {l:List No} (h:Rt l=true):∀ k,k<l.length→rn (nd l k)=true:=by
 intro k hk
 obtain ⟨_,hex⟩:=Rt_in h
 obtain ⟨r',h'⟩:=ex_each 25 l [] hex k (by simpa using hk)
 rw [drop_nd hk,ex_cons] at h'
 rcases Bool.eq_false_or_eq_true (rn (nd l k)) with hr | hr
 · exact hr
 · rw [hr] at h';cases h'
theorem name_in {n:No} (h:rn n=true) (ho:n.o=1):∃ j:Nat,n.v.n=(j:Int)∧j<5:=by
 rcases rn_cases h with ⟨h1,_⟩ | ⟨_,_,h1⟩ | ⟨h1,_⟩
 · omega
 · exact ⟨n.v.n.toNat,by omega,by omega⟩
 · omega
theorem names_any (l:List No) (A:Option Addr) (c:Nat) (w:World) (hn:Nds w A l) (hk:KN w) (hl:l.length≤4294967296):Calls Tryz.prog 124 #[.slice A l.length c] w (Gives (nmv l) w):=by
 have HN:=qq hn;have HK:=qq hk
 clear hn hk
 obtain ⟨q,hq⟩:∃ q,Rt l=q:=⟨_,rfl⟩
 have HQ:=qq hq
 go_enter Tryz.func124,Tryz.ntmps124
 go_wp2_with fail
 have hb2:=box2 w (.cells #[.bool false,.bool false,.bool false,.bool false,.bool false] 111) (.cells #[.bool false,.bool false,.bool false,.bool false,.bool false] 111)
 have D2:Blk ((w.alloc (.cells #[.bool false,.bool false,.bool false,.bool false,.bool false] 111)).alloc (.cells #[.bool false,.bool false,.bool false,.bool false,.bool false] 111)) w.heap.size (hasL l 0):=(Blk.made w 111 (hasL l 0) rfl).old _
 have D3:Blk ((w.alloc (.cells #[.bool false,.bool false,.bool false,.bool false,.bool false] 111)).alloc (.cells #[.bool false,.bool false,.bool false,.bool false,.bool false] 111)) (w.heap.size+1) (hasL l 0):=Blk.made (w.alloc (.cells #[.bool false,.bool false,.bool false,.bool false,.bool false] 111)) 111 (hasL l 0) (World.size_alloc _ _)
 generalize (w.alloc (.cells #[.bool false,.bool false,.bool false,.bool false,.bool false] 111)).alloc (.cells #[.bool false,.bool false,.bool false,.bool false,.bool false] 111)=v at *
 have HC:=qq (eright_any l A c v (HN.out.next hb2) (HK.out.next hb2) hl)
 rw [hq] at HC
 refine HC.out.mono ?_
 rintro e w1 ⟨rfl,hb⟩
 have HB1:=qq (Below.next hb2 hb)
 have HD2:=qq (D2.next hb)
 have HD3:=qq (D3.next hb)
 clear hb hb2 D2 D3 HK HC hq
 cases q with
 | false =>
   have HE:Hid (nmv l=.agg #[.bool false,.bool false,.bool false,.bool false,.bool false]):=by show _=_;unfold nmv;rw [if_neg (by rw [HQ.out];decide)]
   have HZ2:=qq (HD2.out.cast (hasL_zero l))
   have HZ3:=qq (HD3.out.cast (hasL_zero l))
   obtain ⟨d0,d1,d2,d3,d4⟩:=ck5 HZ3.out
   have a0:=HZ2.out.c 0 _ rfl;have a1:=HZ2.out.c 1 _ rfl;have a2:=HZ2.out.c 2 _ rfl;have a3:=HZ2.out.c 3 _ rfl;have a4:=HZ2.out.c 4 _ rfl
   have f0:=HZ2.out.f 0 _ rfl;have f1:=HZ2.out.f 1 _ rfl;have f2:=HZ2.out.f 2 _ rfl;have f3:=HZ2.out.f 3 _ rfl;have f4:=HZ2.out.f 4 _ rfl
   clear HD2 HD3
   go_wp2_with fail
   have RF:=((((HZ2.out.set 0 (.bool false)).set 1 (.bool false)).set 2 (.bool false)).set 3 (.bool false)).set 4 (.bool false)
   have c0:=RF.c 0 _ rfl;have c1:=RF.c 1 _ rfl;have c2:=RF.c 2 _ rfl;have c3:=RF.c 3 _ rfl;have c4:=RF.c 4 _ rfl
   clear RF
   rw [HE.out]
   refine bodyPost_ret (v:=.agg #[.bool false,.bool false,.bool false,.bool false,.bool false]) (by simp [results,Tryz.results124,go_sem,c0,c1,c2,c3,c4]) rfl ⟨rfl,?_⟩
   exact below_all5 HB1.out (Nat.le_refl _) _ _ _ _ _
 | true =>
   have HE:Hid (nmv l=hnv l l.length):=by show _=_;unfold nmv;rw [if_pos HQ.out]
   have HRN:=qq (Rt_names HQ.out)
   have hsz:w.heap.size+1<w1.heap.size:=HD3.out.lt
   go_wp2_with fail
   go_loopw [12] (fun i wr=>∃ k:Nat,k≤l.length∧i=.int .i64 (k:Int)∧Below w.heap.size w wr∧Blk wr w.heap.size (hasL l 0)∧Blk wr (w.heap.size+1) (hasL l k)) (fun i _=>l.length - (intOf i).toNat)
   case atStart=>exact ⟨0,Nat.zero_le _,rfl,HB1.out,HD2.out,HD3.out⟩
   case round =>
    obtain ⟨k,hk,rfl,hb,hz2,hz3⟩:=hrel
    have HB:=qq hb;have HN1:=qq (HN.out.next hb);have HZ2:=qq hz2;have HZ3:=qq hz3
    clear hb hz2 hz3 HD2 HD3 HB1 hsz
    by_cases hlt:k<l.length
    · obtain ⟨G,O,rfl⟩:=HN1.out.shape (by omega)
      have e0:=HN1.out.cell hlt 0 _ rfl
      have e1:=HN1.out.cell hlt 1 _ rfl
      have e2:=HN1.out.cell hlt 2 _ rfl
      have e3:=HN1.out.cell hlt 3 _ rfl
      have e4:=HN1.out.cell hlt 4 _ rfl
      have e5:=HN1.out.cell hlt 5 _ rfl
      rw [Nat.add_zero] at e0
      have hgl:G<wr.heap.size:=HN1.out.lt (by omega)
      have hzl:=HZ3.out.lt
      have hlo:=HB.out.size
      by_cases ho:(nd l k).o=1
      · obtain ⟨j,hj,hj5⟩:=name_in (HRN.out k hlt) ho
        have HL:=qq (hasL_name hlt ho hj hj5)
        rw [ho] at e0
        rw [hj] at e2
        clear ho hj
        generalize nd l k=n at *
        have hb1:=box1 wr (.cells #[.int .i64 1,.int .i64 n.v.k,.int .i64 (j:Int),.string (tx n.v.s),.int .i64 n.v.x,.int .i64 n.v.y] 97)
        have HZ4:=qq (HZ3.out.next hb1)
        have HY4:=qq (HZ2.out.next hb1)
        have HB4:=qq (Below.next HB.out hb1)
        have b3:=HZ4.out.c j _ (hasL_get l k hj5)
        have f3:=HZ4.out.f j _ (hasL_get l k hj5)
        clear hb1
        go_wp2_with fail
        go_roundw
        case rel=>exact ⟨k+1,by omega,by go_num,(HB.out.setCell (p:=⟨w.heap.size+1,j,none⟩) (Nat.le_succ _) _).alloc (by simp;omega) _,(HZ2.out.put (c:=w.heap.size+1) (by omega) j (.bool true)).old _,((HZ3.out.set j (.bool true)).old _).cast HL.out.symm⟩
        case measure=>simp [intOf];omega
      · have HL:=qq (hasL_other hlt ho)
        have g1:((nd l k).o == 1)=false:=beq_eq_false_iff_ne.2 ho
        clear ho
        generalize nd l k=n at *
        have hb1:=box1 wr (.cells #[.int .i64 n.o,.int .i64 n.v.k,.int .i64 n.v.n,.string (tx n.v.s),.int .i64 n.v.x,.int .i64 n.v.y] 97)
        have HZ4:=qq (HZ3.out.next hb1)
        have HY4:=qq (HZ2.out.next hb1)
        have HB4:=qq (Below.next HB.out hb1)
        clear hb1
        go_wp2_with fail
        go_roundw
        case rel=>exact ⟨k+1,by omega,by go_num,HB4.out,HY4.out,HZ4.out.cast HL.out.symm⟩
        case measure=>simp [intOf];omega
    · obtain rfl:k=l.length:=by omega
      have HY:=qq (HZ2.out.cast (hasL_zero l))
      have d0:=HZ3.out.c 0 _ (hasL_get l _ (by omega));have d1:=HZ3.out.c 1 _ (hasL_get l _ (by omega));have d2:=HZ3.out.c 2 _ (hasL_get l _ (by omega));have d3:=HZ3.out.c 3 _ (hasL_get l _ (by omega));have d4:=HZ3.out.c 4 _ (hasL_get l _ (by omega))
      obtain ⟨a0,a1,a2,a3,a4⟩:=ck5 HY.out
      have f0:=HY.out.f 0 _ rfl;have f1:=HY.out.f 1 _ rfl;have f2:=HY.out.f 2 _ rfl;have f3:=HY.out.f 3 _ rfl;have f4:=HY.out.f 4 _ rfl
      have HRES:Hid (nmv l=.agg #[.bool (hasN l l.length 0),.bool (hasN l l.length 1),.bool (hasN l l.length 2),.bool (hasN l l.length 3),.bool (hasN l l.length 4)]):=HE.out
      clear HE HZ2 HZ3
      generalize hasN l l.length 0=p0 at *
      generalize hasN l l.length 1=p1 at *
      generalize hasN l l.length 2=p2 at *
      generalize hasN l l.length 3=p3 at *
      generalize hasN l l.length 4=p4 at *
      go_wp2_with fail
      have RF:=((((HY.out.set 0 (.bool p0)).set 1 (.bool p1)).set 2 (.bool p2)).set 3 (.bool p3)).set 4 (.bool p4)
      have c0:=RF.c 0 _ rfl;have c1:=RF.c 1 _ rfl;have c2:=RF.c 2 _ rfl;have c3:=RF.c 3 _ rfl;have c4:=RF.c 4 _ rfl
      clear RF
      rw [HRES.out]
      refine bodyPost_ret (v:=.agg #[.bool p0,.bool p1,.bool p2,.bool p3,.bool p4]) (by simp [results,Tryz.results124,go_sem,c0,c1,c2,c3,c4]) rfl ⟨rfl,?_⟩
      exact below_all5 HB.out (Nat.le_refl _) _ _ _ _ _
theorem take_nd {l:List No} {k:Nat} (h:k<l.length):l.take (k+1)=l.take k++[nd l k]:=by rw [nd_at h,List.take_succ_eq_append_getElem h]
def MadeN (ty:TypeId) (l:List No) (w:World) (e:Ending) (w':World):Prop :=
 ∃ A c,e=.returned (.slice A l.length c)∧w'.ownsRow w.heap.size ty 6 (.slice A l.length c) l.length (cells l)∧Below w.heap.size w w'
theorem six_at (W:World) (n:No) (ty:TypeId) (b:Nat) (hb:b=W.heap.size):∀ j u,(ncl n)[j]? = some u→(W.alloc (.cells #[.int .i64 n.o,.int .i64 n.v.k,.int .i64 n.v.n,.string (tx n.v.s),.int .i64 n.v.x,.int .i64 n.v.y] ty)).cell? ((⟨b,0,none⟩:Addr).add j)=some u:=by
 intro j u hu
 subst hb
 have e:(⟨W.heap.size,0,none⟩:Addr).add j=⟨W.heap.size,j,none⟩:=by
  unfold Addr.add
  split
  · rename_i h;subst h;rfl
  · simp
 rw [e]
 exact (Blk.made W ty (ncl n) rfl).c j u hu
theorem of_any (l:List No) (A:Option Addr) (c:Nat) (w:World) (hn:Nds w A l) (hl:l.length≤1000):Calls Tryz.prog 27 #[.slice A l.length c] w (MadeN 97 l w):=by
 obtain ⟨i0,hi0,hi1,hi2,hi3⟩:=info_parts infoN
 have HI0:=qq hi0;have HI1:=qq hi1;have HI2:=qq hi2;have HI3:=qq hi3
 clear hi0 hi1 hi2 hi3
 have HN:=qq hn;clear hn
 go_enter Tryz.func27,Tryz.ntmps27
 go_wp2_with fail
 go_loopw [3,4] (fun v i wr=>∃ (k:Nat) (B:Option Addr) (d:Nat),k≤l.length∧i=.int .i64 (k:Int)∧v=.slice B k d∧wr.ownsRow w.heap.size 97 6 (.slice B k d) k (cells (l.take k))∧Below w.heap.size w wr) (fun _ i _=>l.length - (intOf i).toNat)
 case atStart=>exact ⟨0,none,0,Nat.zero_le _,rfl,rfl,World.ownsRow_nil _ _ _ _,Below.refl _ _⟩
 case round =>
  obtain ⟨k,B,d,hk,rfl,rfl,ho,hb⟩:=hrel
  have HO:=qq ho;have HB:=qq hb
  clear ho hb
  by_cases hlt:k<l.length
  · obtain ⟨G,O,rfl⟩:=HN.out.shape (by omega)
    have HN1:=HN.out.next HB.out
    have e0:=HN1.cell hlt 0 _ rfl
    have e1:=HN1.cell hlt 1 _ rfl
    have e2:=HN1.cell hlt 2 _ rfl
    have e3:=HN1.cell hlt 3 _ rfl
    have e4:=HN1.cell hlt 4 _ rfl
    have e5:=HN1.cell hlt 5 _ rfl
    rw [Nat.add_zero] at e0
    have HT:=qq (take_nd hlt)
    generalize nd l k=n at *
    clear HN1
    have hws:=HB.out.size
    go_wp2_with fail
    go_region_law (refine step_own _ rfl (.tmp 11) (.tmp 23) 38 rfl w.heap.size 97 i0 (nov nz) 6 56 Tryz.underlying38 HI0.out HI1.out HI2.out HI3.out rfl (by decide) (.slice B k d) k (cells (l.take k)) (by simp [Act.eval]) (by exact HO.out.alloc _) ⟨wr.heap.size,0,none⟩ 1 1 (ncl n) (by simp [Act.eval]) rfl (by exact six_at _ _ _ _ (by simp)) (ncl_one _) (by unfold maxLen;omega) (by omega) (by simp;omega) ?_
                   intro v' w4 hown' hgrow _
                   have HB4:Hid (Below w.heap.size w w4):=((below_drewN HB.out 1).alloc (by simpa using hws) _).grown hgrow (by simp;omega) (fun g e=>(HO.out.lt g e).1)
                   have hN:w4.ownsRow w.heap.size 97 6 v' (k+1) (cells (l.take (k+1))):=by rw [HT.out,cells_snoc];exact hown'
                   have HN4:=qq hN
                   clear hown' hgrow hN)
    all_goals
     obtain ⟨B4,d4,rfl⟩:=own_slice HN4.out
     go_wp2_with fail
     go_roundw
     case rel=>exact ⟨k+1,B4,d4,by omega,by go_num,rfl,HN4.out,HB4.out⟩
     case measure=>simp [intOf];omega
  · obtain rfl:k=l.length:=by omega
    have hE:l.take l.length=l:=List.take_of_length_le (Nat.le_refl _)
    have HE:Hid (wr.ownsRow w.heap.size 97 6 (.slice B l.length d) l.length (cells l)):=by
     have:=HO.out
     rw [hE] at this;exact this
    clear HO hE
    go_wp2_with fail
    go_ret
    exact ⟨B,d,rfl,HE.out,HB.out⟩
theorem neq_val (k n x y k' n' x' y':Int) (s s':ByteArray) (w:World):(binOp .neq 28 (.agg #[.int .i64 k,.int .i64 n,.string s,.int .i64 x,.int .i64 y]) (.agg #[.int .i64 k',.int .i64 n',.string s',.int .i64 x',.int .i64 y'])).run Tryz.prog w =
 .ok (.bool (!ve ⟨k,n,s.data.toList,x,y⟩ ⟨k',n',s'.data.toList,x',y'⟩)) w:=by
 have e:ve ⟨k,n,s.data.toList,x,y⟩ ⟨k',n',s'.data.toList,x',y'⟩=((k == k') && ((n == n') && ((s.toList == s'.toList) && ((x == x') && (y == y'))))):=by
  rw [ByteArray.toList_eq,ByteArray.toList_eq];unfold ve
  rw [Bool.eq_iff_iff];simp
 rw [e];clear e
 have u:=Tryz.underlying3
 have hS:Tryz.prog.underlying 28=some (.struct (Tryz.prog.fieldsOf 28)):=by kernel_rfl
 have hS2:Tryz.prog.underlying 26=some (.struct (Tryz.prog.fieldsOf 26)):=by kernel_rfl
 have hp:Tryz.prog.stoodInHeld 28=false:=by kernel_rfl
 have hp2:Tryz.prog.stoodInHeld 26=false:=by kernel_rfl
 have hq:=fun d xs ys w=>run_equalIn_struct (P:=Tryz.prog) w d 26 xs ys hS2 hp2
 rw [run_neq_struct,show (10000:Nat)=9999+1 from rfl,run_equalIn_struct w 9999 28 _ _ hS hp]
 clear hS hS2 hp hp2
 simp only [Program.fieldsOf,Tryz.underlying28,Tryz.underlying26] at hq ⊢
 go_simp
 clear hq u
 by_cases h1:k=k' <;> by_cases h2:n=n' <;> by_cases h3:s.toList=s'.toList <;> by_cases h4:x=x' <;> by_cases h5:y=y' <;> simp [h1,h2,h3,h4,h5]
end Go.Proofs.YtgakcpcpfkoaiaaGreatDoor.Ex
namespace Go.Proofs.YtgakcpcpfkoaiaaGreatDoor.Va
open Go.ChangeShapes Go.WideShapes Go.ChangeAt Go.RowKit Ov Ga Tp
theorem rplain_any (c:UInt8) (w:World):Calls Tryz.prog 168 #[.int .u8 (c.toNat:Int)] w fun e w'=>e=.returned (.bool (pl c))∧w=w':=by
 obtain ⟨m,hm⟩:∃ m:Nat,m=c.toNat:=⟨_,rfl⟩
 have he:pl c=decide (32≤m∧m≤126∧m ≠ 34∧m ≠ 92):=by rw [hm];rfl
 have hlt:=c.toNat_lt
 rw [he,← hm]
 rw [← hm] at hlt
 clear he hm
 by_cases h1:32≤m
 · by_cases h2:m≤126
   · by_cases h3:m=34
     · subst h3
       go_enter Tryz.func168,Tryz.ntmps168
       go_wp2_with fail
       go_ret
       exact ⟨rfl,rfl⟩
     · have n3:((m:Int) != 34)=true:=by rw [bne_iff_ne];omega
       by_cases h4:m=92
       · subst h4
         go_enter Tryz.func168,Tryz.ntmps168
         go_wp2_with fail
         go_ret
         exact ⟨rfl,rfl⟩
       · have n4:((m:Int) != 92)=true:=by rw [bne_iff_ne];omega
         have he:decide (32≤m∧m≤126∧m ≠ 34∧m ≠ 92)=true:=decide_eq_true ⟨h1,h2,h3,h4⟩
         rw [he];clear he h3 h4
         go_enter Tryz.func168,Tryz.ntmps168
         go_wp2_with fail
         go_ret
         exact ⟨rfl,rfl⟩
   · have he:decide (32≤m∧m≤126∧m ≠ 34∧m ≠ 92)=false:=decide_eq_false (by omega)
     rw [he];clear he
     go_enter Tryz.func168,Tryz.ntmps168
     go_wp2_with fail
     go_ret
     exact ⟨rfl,rfl⟩
 · have he:decide (32≤m∧m≤126∧m ≠ 34∧m ≠ 92)=false:=decide_eq_false (by omega)
   rw [he];clear he
   go_enter Tryz.func168,Tryz.ntmps168
   go_wp2_with fail
   go_ret
   exact ⟨rfl,rfl⟩
theorem rhex_any (n:Nat) (w:World) (hn:n<16):Calls Tryz.prog 169 #[.int .i64 (n:Int)] w (Gives (.string (tx [hx n])) w):=by
 by_cases h:n<10
 · have HE:Hid (tx [UInt8.ofNat (48+n)]=tx [hx n]):=by show _=_;unfold hx;rw [if_pos h]
   have hcv:=one_text (w.alloc (.cells #[.int .u8 (48+(n:Int))] 5)) w.heap.size (48+n) (by omega) (by simp)
   obtain ⟨c,hc⟩:∃ c,UInt8.ofNat (48+n)=c:=⟨_,rfl⟩
   rw [hc] at hcv HE;clear hc
   go_enter Tryz.func169,Tryz.ntmps169
   go_wp2_with fail
   go_ret
   exact ⟨ret_str HE.out,box1 w _⟩
 · have HE:Hid (tx [UInt8.ofNat (87+n)]=tx [hx n]):=by show _=_;unfold hx;rw [if_neg h]
   have hcv:=one_text (w.alloc (.cells #[.int .u8 (97+(n:Int) - 10)] 5)) w.heap.size (87+n) (by omega) (by simp;omega)
   obtain ⟨c,hc⟩:∃ c,UInt8.ofNat (87+n)=c:=⟨_,rfl⟩
   rw [hc] at hcv HE;clear hc
   go_enter Tryz.func169,Tryz.ntmps169
   go_wp2_with fail
   go_ret
   exact ⟨ret_str HE.out,box1 w _⟩
theorem rdec_small (n:Nat) (w:World) (hn:n<10):Calls Tryz.prog 167 #[.int .i64 (n:Int)] w (Gives (.string (tx (Lib.decDigits n))) w):=by
 have HE:Hid (tx [UInt8.ofNat (48+n)]=tx (Lib.decDigits n)):=by show _=_;rw [dec_small hn]
 have hcv:=one_text (w.alloc (.cells #[.int .u8 (48+(n:Int))] 5)) w.heap.size (48+n) (by omega) (by simp)
 obtain ⟨c,hc⟩:∃ c,UInt8.ofNat (48+n)=c:=⟨_,rfl⟩
 rw [hc] at hcv HE;clear hc
 go_enter Tryz.func167,Tryz.ntmps167
 go_wp2_with fail
 go_ret
 exact ⟨ret_str HE.out,box1 w _⟩
theorem dec_le (n:Nat) (h:n≤9007199254740992):(tx (Lib.decDigits n)).size≤21:=by
 have h1:=Lib.itoa_length_le (n:Int) (by omega) (by omega)
 have e:Lib.itoa (n:Int)=Lib.decDigits n:=by unfold Lib.itoa;rw [if_neg (by omega)];rfl
 rw [tx_size,← e];exact h1
theorem rdec_nat (n:Nat):∀ (w:World),n≤9007199254740992→Calls Tryz.prog 167 #[.int .i64 (n:Int)] w (Gives (.string (tx (Lib.decDigits n))) w):=by
 induction n using Nat.strongRecOn with
 | _ n ih =>
   intro w hn
   by_cases hlt:n<10
   · exact rdec_small n w hlt
   have HA:Hid (∀ w,Calls Tryz.prog 167 #[.int .i64 ((n:Int) / 10)] w (Gives (.string (tx (Lib.decDigits (n / 10)))) w)):=fun w=>by
    have h:=ih (n / 10) (by omega) w (by omega)
    rwa [show ((n / 10:Nat):Int)=(n:Int) / 10 by omega] at h
   have HC:Hid (∀ w,Calls Tryz.prog 167 #[.int .i64 ((n:Int) % 10)] w (Gives (.string (tx (Lib.decDigits (n % 10)))) w)):=fun w=>by
    have h:=rdec_small (n % 10) w (by omega)
    rwa [show ((n % 10:Nat):Int)=(n:Int) % 10 by omega] at h
   have HE:Hid (tx (Lib.decDigits (n / 10))++tx (Lib.decDigits (n % 10))=tx (Lib.decDigits n)):=by
    show _=_
    rw [tx_append,dec_big hlt,dec_small (m:=n % 10) (by omega)]
   have z1:=dec_le (n / 10) (by omega)
   have z2:=dec_le (n % 10) (by omega)
   generalize tx (Lib.decDigits (n / 10))=a at *
   generalize tx (Lib.decDigits (n % 10))=b at *
   have g1:¬ a.size+b.size > 9223372036854775807:=by omega
   have l1:¬ (n:Int)<0:=by omega
   have l2:¬ (n:Int)<10:=by omega
   have l3:(0:Int)≤(n:Int):=by omega
   have l4:(n:Int)≤9007199254740992:=by omega
   clear z1 z2 ih hlt hn
   generalize (n:Int)=m at *
   go_enter Tryz.func167,Tryz.ntmps167
   go_wp2_with fail
   refine (HA.out _).mono ?_
   rintro e w1 ⟨rfl,hb⟩
   have HB:=qq hb;clear hb
   go_wp2_with fail
   refine (HC.out _).mono ?_
   rintro e w2 ⟨rfl,hb⟩
   have HB2:=qq (Below.next HB.out hb);clear hb
   go_wp2_with fail
   go_ret
   exact ⟨ret_str HE.out,HB2.out⟩
theorem rdec_any (n:Int) (w:World) (h:-9007199254740992≤n∧n≤9007199254740992):Calls Tryz.prog 167 #[.int .i64 n] w (Gives (.string (tx (Lib.itoa n))) w):=by
 obtain ⟨h1,h2⟩:=h
 by_cases h0:n<0
 · have HA:Hid (∀ w,Calls Tryz.prog 167 #[.int .i64 (-n)] w (Gives (.string (tx (Lib.decDigits n.natAbs))) w)):=fun w=>by
    have h:=rdec_nat n.natAbs w (by omega)
    rwa [show ((n.natAbs:Nat):Int)=-n by omega] at h
   have HE:Hid (⟨#[45]⟩++tx (Lib.decDigits n.natAbs)=tx (Lib.itoa n)):=by
    show _=_
    unfold Lib.itoa;rw [if_pos h0,show (⟨#[45]⟩:ByteArray)=tx [45] from rfl,tx_append];rfl
   have z:=dec_le n.natAbs (by omega)
   generalize tx (Lib.decDigits n.natAbs)=a at *
   have g1:¬ 1+a.size > 9223372036854775807:=by omega
   clear z
   go_enter Tryz.func167,Tryz.ntmps167
   go_wp2_with fail
   refine (HA.out _).mono ?_
   rintro e w1 ⟨rfl,hb⟩
   have HB:=qq hb;clear hb
   go_wp2_with fail
   go_ret
   exact ⟨ret_str HE.out,HB.out⟩
 · have h:=rdec_nat n.toNat w (by omega)
   rw [show ((n.toNat:Nat):Int)=n by omega] at h
   have e:Lib.itoa n=Lib.decDigits n.toNat:=by unfold Lib.itoa;rw [if_neg h0]
   rw [e];exact h
theorem rwrite_int {n x y:Int} {s:ByteArray} (h:rt ⟨0,n,s.data.toList,x,y⟩=true) (w:World):Calls Tryz.prog 156 #[.agg #[.int .i64 0,.int .i64 n,.string s,.int .i64 x,.int .i64 y]] w (Gives (.string (tx (wr ⟨0,n,s.data.toList,x,y⟩))) w):=by
 have hr:=(rt_int_in h).1
 clear h
 have HK:=qq (fun w=>rdec_any n w hr)
 rw [wr_int]
 generalize tx (Lib.itoa n)=t at *
 clear hr
 go_enter Tryz.func156,Tryz.ntmps156
 go_wp2_with fail
 have kb:=qq (box1 w (.cells #[.int .i64 0,.int .i64 n,.string s,.int .i64 x,.int .i64 y] 28))
 have D:=Blk.made w 28 (vcs 0 n s x y) rfl
 change Blk (w.alloc (.cells #[.int .i64 0,.int .i64 n,.string s,.int .i64 x,.int .i64 y] 28)) w.heap.size _ at D
 have DH:=qq D;clear D
 generalize w.alloc (.cells #[.int .i64 0,.int .i64 n,.string s,.int .i64 x,.int .i64 y] 28)=v at *
 refine (HK.out _).mono ?_
 rintro e w1 ⟨rfl,hb⟩
 have HB:=qq (Below.next kb.out hb)
 clear hb
 go_wp2_with fail
 go_ret
 exact ⟨rfl,HB.out⟩
theorem rwrite_point {n x y:Int} {s:ByteArray} (h:rt ⟨2,n,s.data.toList,x,y⟩=true) (w:World):Calls Tryz.prog 156 #[.agg #[.int .i64 2,.int .i64 n,.string s,.int .i64 x,.int .i64 y]] w (Gives (.string (tx (wr ⟨2,n,s.data.toList,x,y⟩))) w):=by
 have hr:=(rt_point_in h).1
 clear h
 have HA:=qq (fun w=>rdec_any x w (by omega))
 have HC:=qq (fun w=>rdec_any y w (by omega))
 have z2:=itoa_le x (by omega)
 have z3:=itoa_le y (by omega)
 have HE:Hid (tx (Lib.itoa x)++⟨#[58]⟩++tx (Lib.itoa y)=tx (wr ⟨2,n,s.data.toList,x,y⟩)):=by
  show _=_
  rw [wr_point,show (⟨#[58]⟩:ByteArray)=tx [58] from rfl,tx_append,tx_append]
 generalize tx (Lib.itoa x)=a at *
 generalize tx (Lib.itoa y)=b at *
 have g1:¬ a.size+1 > 9223372036854775807:=by omega
 have g2:¬ a.size+1+b.size > 9223372036854775807:=by omega
 clear z2 z3 hr
 go_enter Tryz.func156,Tryz.ntmps156
 go_wp2_with fail
 have kb:=qq (box1 w (.cells #[.int .i64 2,.int .i64 n,.string s,.int .i64 x,.int .i64 y] 28))
 have D:=Blk.made w 28 (vcs 2 n s x y) rfl
 change Blk (w.alloc (.cells #[.int .i64 2,.int .i64 n,.string s,.int .i64 x,.int .i64 y] 28)) w.heap.size _ at D
 have DH:=qq D;clear D
 generalize w.alloc (.cells #[.int .i64 2,.int .i64 n,.string s,.int .i64 x,.int .i64 y] 28)=v at *
 have k3:=fun r:Over v=>(DH.out.over r).v3
 have k4:=fun r:Over v=>(DH.out.over r).v4
 refine wp_over (by kernel_rfl) (by kernel_rfl) ?_
 repeat (go_big_quiet_step (first | fail | with_reducible exact over_gives _ (HA.out _) | with_reducible exact over_gives _ (HC.out _)))
 refine wpQuiet_nil ?_
 rintro w3 ⟨⟨w3,hb⟩,rfl⟩
 have HB3:=qq (Below.next kb.out hb)
 clear hb k3 k4
 go_wp2_with fail
 go_ret
 exact ⟨ret_str HE.out,HB3.out⟩
theorem ext_one {s:ByteArray} {k:Nat} (h:k<s.size):(s.extract k (k+1)).data.toList=[s[k]]:=by
 have hl:k<s.data.toList.length:=by simpa using h
 rw [Lib.extract_data,List.drop_eq_getElem_cons hl,show k+1 - k=1 by omega];rfl
theorem rwrite_text {n x y:Int} {s:ByteArray} (h:rt ⟨1,n,s.data.toList,x,y⟩=true) (w:World):Calls Tryz.prog 156 #[.agg #[.int .i64 1,.int .i64 n,.string s,.int .i64 x,.int .i64 y]] w (Gives (.string (tx (wr ⟨1,n,s.data.toList,x,y⟩))) w):=by
 have hs:s.size≤4096:=by
  have:=(rt_text_in h).1
  simpa using this
 clear h
 rw [wr_text]
 go_enter Tryz.func156,Tryz.ntmps156
 go_wp2_with fail
 have kb:=qq (box1 w (.cells #[.int .i64 1,.int .i64 n,.string s,.int .i64 x,.int .i64 y] 28))
 have D:=Blk.made w 28 (vcs 1 n s x y) rfl
 change Blk (w.alloc (.cells #[.int .i64 1,.int .i64 n,.string s,.int .i64 x,.int .i64 y] 28)) w.heap.size _ at D
 have DH:=qq D;clear D
 generalize w.alloc (.cells #[.int .i64 1,.int .i64 n,.string s,.int .i64 x,.int .i64 y] 28)=v at *
 go_wp2_with fail
 go_loopw [3,4] (fun u i wr=>∃ k:Nat,k≤s.size∧i=.int .i64 (k:Int)∧u=.string (tx (34 :: esc (s.data.toList.take k)))∧Below v.heap.size v wr) (fun _ i _=>s.size - (intOf i).toNat)
 case atStart=>exact ⟨0,Nat.zero_le _,rfl,rfl,Below.refl _ _⟩
 case round =>
  obtain ⟨k,hk,rfl,rfl,hb⟩:=hrel
  have HB:=qq hb
  have D1:=DH.out.next hb
  have d2:=D1.v2
  have D1H:=qq D1
  clear hb D1
  have zu:(tx (34 :: esc (s.data.toList.take k))).size≤12290:=by
   rw [tx_size,List.length_cons]
   have h1:=esc_le (s.data.toList.take k)
   have h2:(s.data.toList.take k).length≤k:=List.length_take_le _ _
   omega
  by_cases hlt:k<s.size
  · have HS:=qq (esc_take s k hlt)
    have HX:=qq (ext_one hlt)
    obtain ⟨c,hc⟩:∃ c:UInt8,s[k]=c:=⟨_,rfl⟩
    rw [hc] at HS HX
    have HP:=qq (rplain_any c)
    have hcl:=c.toNat_lt
    by_cases hp:pl c=true
    · have HE:Hid (tx (34 :: esc (s.data.toList.take k))++s.extract k (k+1)=tx (34 :: esc (s.data.toList.take (k+1)))):=by
       show _=_
       rw [HS.out,tx_ext HX.out,tx_append,show e1 c=[c] from if_pos hp];rfl
      have hz:(s.extract k (k+1)).size=1:=by
       rw [ByteArray.size_extract];omega
      have hsl:∀ w,(Instr.slice 9 (.string s) (some (.int .i64 (k:Int))) (some (.int .i64 ((k:Int)+1))) none).run Tryz.prog w=.ok (.string (s.extract k (k+1))) w:=fun w =>
       run_slice_string (P:=Tryz.prog) w 9 s .i64 .i64 (k:Int) ((k:Int)+1) Tryz.underlying9 (by omega) (by omega) (by omega)
      rw [hp] at HP;clear hp HS HX
      generalize tx (34 :: esc (s.data.toList.take k))=u at *
      generalize s.extract k (k+1)=t at *
      have g1:¬ u.size+t.size > 9223372036854775807:=by omega
      clear hz
      go_wp2_with fail
      refine (HP.out _).mono ?_
      rintro e w' ⟨rfl,rfl⟩
      go_wp2_with fail
      go_roundw
      case rel=>exact ⟨k+1,by omega,by go_num,by rw [← HE.out],HB.out⟩
      case measure=>simp [intOf];omega
    · have hp':pl c=false:=by simpa using hp
      have HE:Hid (tx (34 :: esc (s.data.toList.take k))++⟨#[92]⟩++tx [hx (c.toNat / 16)]++tx [hx (c.toNat % 16)]=tx (34 :: esc (s.data.toList.take (k+1)))):=by
       show _=_
       rw [HS.out,show (⟨#[92]⟩:ByteArray)=tx [92] from rfl,tx_append,tx_append,tx_append,show e1 c=[92,hx (c.toNat / 16),hx (c.toNat % 16)] from if_neg hp];simp
      have HA:Hid (∀ w,Calls Tryz.prog 169 #[.int .i64 ((c.toNat:Int) / 16)] w (Gives (.string (tx [hx (c.toNat / 16)])) w)):=fun w=>rhex_any (c.toNat / 16) w (by omega)
      have HC:Hid (∀ w,Calls Tryz.prog 169 #[.int .i64 ((c.toNat:Int) % 16)] w (Gives (.string (tx [hx (c.toNat % 16)])) w)):=fun w=>rhex_any (c.toNat % 16) w (by omega)
      have za:(tx [hx (c.toNat / 16)]).size=1:=tx_size _
      have zb:(tx [hx (c.toNat % 16)]).size=1:=tx_size _
      rw [hp'] at HP;clear hp hp' HS HX
      generalize tx (34 :: esc (s.data.toList.take k))=u at *
      generalize tx [hx (c.toNat / 16)]=a at *
      generalize tx [hx (c.toNat % 16)]=b at *
      have g1:¬ u.size+1 > 9223372036854775807:=by omega
      have g2:¬ u.size+1+a.size > 9223372036854775807:=by omega
      have g3:¬ u.size+1+a.size+b.size > 9223372036854775807:=by omega
      clear za zb zu
      go_wp2_with fail
      refine (HP.out _).mono ?_
      rintro e w' ⟨rfl,rfl⟩
      go_wp2_with fail
      have k2:=fun r:Over wr=>(D1H.out.over r).v2
      refine wp_over (by kernel_rfl) (by kernel_rfl) ?_
      repeat (go_big_quiet_step (first | fail | with_reducible exact over_gives _ (HA.out _) | with_reducible exact over_gives _ (HC.out _)))
      refine wpQuiet_nil ?_
      rintro w3 ⟨⟨w3,hb⟩,rfl⟩
      have HB3:=qq (Below.next HB.out hb)
      clear hb k2
      go_wp2_with fail
      go_roundw
      case rel=>exact ⟨k+1,by omega,by go_num,by rw [← HE.out],HB3.out⟩
      case measure=>simp [intOf];omega
  · have HE:Hid (tx (34 :: esc (s.data.toList.take k))++⟨#[34]⟩=tx (34 :: (esc s.data.toList++[34]))):=by
     show _=_
     rw [show (⟨#[34]⟩:ByteArray)=tx [34] from rfl,tx_append,List.take_of_length_le (by simp;omega)];rfl
    generalize tx (34 :: esc (s.data.toList.take k))=u at *
    have g1:¬ u.size+1 > 9223372036854775807:=by omega
    clear zu
    go_wp2_with fail
    go_ret
    exact ⟨ret_str HE.out,Below.next kb.out HB.out⟩
theorem rwrite_yes {k n x y:Int} {s:ByteArray} (h:rt ⟨k,n,s.data.toList,x,y⟩=true) (w:World):Calls Tryz.prog 156 #[.agg #[.int .i64 k,.int .i64 n,.string s,.int .i64 x,.int .i64 y]] w (Gives (.string (tx (wr ⟨k,n,s.data.toList,x,y⟩))) w):=by
 by_cases h0:k=0
 · subst h0;exact rwrite_int h w
 by_cases h1:k=1
 · subst h1;exact rwrite_text h w
 by_cases h2:k=2
 · subst h2;exact rwrite_point h w
 rw [rt_kind n x y _ h0 h1 h2] at h;cases h
end Go.Proofs.YtgakcpcpfkoaiaaGreatDoor.Va
namespace Go.Proofs.YtgakcpcpfkoaiaaGreatDoor.Jo
open Go.ChangeShapes Go.WideShapes Go.ChangeAt Go.RowKit Ov Ga Va
theorem made5 (w:World) (t:TypeId) (x0 x1 x2 x3 x4:Value):Blk (w.alloc (.cells #[x0,x1,x2,x3,x4] t)) w.heap.size [x0,x1,x2,x3,x4]:=Blk.made w t [x0,x1,x2,x3,x4] rfl
theorem made5' (w:World) (o:Obj) (t:TypeId) (x0 x1 x2 x3 x4:Value):Blk ((w.alloc o).alloc (.cells #[x0,x1,x2,x3,x4] t)) (w.heap.size+1) [x0,x1,x2,x3,x4]:=Blk.made _ t [x0,x1,x2,x3,x4] (World.size_alloc _ _)
theorem made5'' (w:World) (o o2:Obj) (t:TypeId) (x0 x1 x2 x3 x4:Value):Blk (((w.alloc o).alloc o2).alloc (.cells #[x0,x1,x2,x3,x4] t)) (w.heap.size+1+1) [x0,x1,x2,x3,x4]:=Blk.made _ t [x0,x1,x2,x3,x4] (by rw [World.size_alloc,World.size_alloc])
theorem sum_eg (w:World):Calls Tryz.prog 6 #[.string ⟨#[115,117,109]⟩,.agg #[.int .i64 0,.int .i64 9007199254740992,.string ⟨#[]⟩,.int .i64 0,.int .i64 0],.agg #[.int .i64 0,.int .i64 0,.string ⟨#[]⟩,.int .i64 0,.int .i64 0]] w
 (Gives (.tuple #[.agg #[.int .i64 0,.int .i64 (-9007199254740992),.string ⟨#[]⟩,.int .i64 0,.int .i64 0],.int .i64 0]) w):=by
 have e:fo wSum ⟨0,9007199254740992,[],0,0⟩ ⟨0,0,[],0,0⟩=(⟨0,-9007199254740992,[],0,0⟩,0):=by decide +kernel
 have h:=fold_any ⟨#[115,117,109]⟩ 0 9007199254740992 0 0 0 0 0 0 ⟨#[]⟩ ⟨#[]⟩ w
 change Calls _ _ _ _ (Gives (.tuple #[.agg #[.int .i64 (fo wSum ⟨0,9007199254740992,[],0,0⟩ ⟨0,0,[],0,0⟩).1.k,.int .i64 (fo wSum ⟨0,9007199254740992,[],0,0⟩ ⟨0,0,[],0,0⟩).1.n,.string (tx (fo wSum ⟨0,9007199254740992,[],0,0⟩ ⟨0,0,[],0,0⟩).1.s),.int .i64 (fo wSum ⟨0,9007199254740992,[],0,0⟩ ⟨0,0,[],0,0⟩).1.x,.int .i64 (fo wSum ⟨0,9007199254740992,[],0,0⟩ ⟨0,0,[],0,0⟩).1.y],.int .i64 (fo wSum ⟨0,9007199254740992,[],0,0⟩ ⟨0,0,[],0,0⟩).2]) w) at h
 rw [e] at h
 exact h
theorem gcd_eg (w:World):Calls Tryz.prog 6 #[.string ⟨#[103,99,100]⟩,.agg #[.int .i64 0,.int .i64 (-4),.string ⟨#[]⟩,.int .i64 0,.int .i64 0],.agg #[.int .i64 0,.int .i64 6,.string ⟨#[]⟩,.int .i64 0,.int .i64 0]] w
 (Gives (.tuple #[.agg #[.int .i64 0,.int .i64 2,.string ⟨#[]⟩,.int .i64 0,.int .i64 0],.int .i64 0]) w):=by
 have e:fo wGcd ⟨0,-4,[],0,0⟩ ⟨0,6,[],0,0⟩=(⟨0,2,[],0,0⟩,0):=by decide +kernel
 have h:=fold_any ⟨#[103,99,100]⟩ 0 (-4) 0 0 0 6 0 0 ⟨#[]⟩ ⟨#[]⟩ w
 change Calls _ _ _ _ (Gives (.tuple #[.agg #[.int .i64 (fo wGcd ⟨0,-4,[],0,0⟩ ⟨0,6,[],0,0⟩).1.k,.int .i64 (fo wGcd ⟨0,-4,[],0,0⟩ ⟨0,6,[],0,0⟩).1.n,.string (tx (fo wGcd ⟨0,-4,[],0,0⟩ ⟨0,6,[],0,0⟩).1.s),.int .i64 (fo wGcd ⟨0,-4,[],0,0⟩ ⟨0,6,[],0,0⟩).1.x,.int .i64 (fo wGcd ⟨0,-4,[],0,0⟩ ⟨0,6,[],0,0⟩).1.y],.int .i64 (fo wGcd ⟨0,-4,[],0,0⟩ ⟨0,6,[],0,0⟩).2]) w) at h
 rw [e] at h
 exact h
theorem awake_any (w:World):Calls Tryz.prog 4 #[] w (Gives (.bool true) w):=by
 have HB:=qq (Below.refl w.heap.size w)
 go_enter Tryz.func4,Tryz.ntmps4
 go_wp2_with fail
 refine (sum_eg _).mono ?_
 rintro e w1 ⟨rfl,hb⟩
 replace HB:=qq (Below.next HB.out hb)
 clear hb
 have Ha:=qq (made5 w1 28 (.int .i64 0) (.int .i64 (-9007199254740992)) (.string ⟨#[]⟩) (.int .i64 0) (.int .i64 0))
 replace HB:=qq (below_box HB.out (.cells #[.int .i64 0,.int .i64 (-9007199254740992),.string ⟨#[]⟩,.int .i64 0,.int .i64 0] 28))
 go_wp2_with fail
 generalize w1.alloc (.cells #[.int .i64 0,.int .i64 (-9007199254740992),.string ⟨#[]⟩,.int .i64 0,.int .i64 0] 28)=v1 at *
 refine (gcd_eg _).mono ?_
 rintro e w2 ⟨rfl,hb⟩
 replace Ha:=qq (Ha.out.next hb)
 replace HB:=qq (Below.next HB.out hb)
 clear hb
 have Hb:=qq (made5 w2 28 (.int .i64 0) (.int .i64 2) (.string ⟨#[]⟩) (.int .i64 0) (.int .i64 0))
 have lab:=Ha.out.lt
 replace Ha:=qq (Ha.out.old (.cells #[.int .i64 0,.int .i64 2,.string ⟨#[]⟩,.int .i64 0,.int .i64 0] 28))
 replace HB:=qq (below_box HB.out (.cells #[.int .i64 0,.int .i64 2,.string ⟨#[]⟩,.int .i64 0,.int .i64 0] 28))
 obtain ⟨ca0,ca1,ca2,ca3,ca4⟩:=five Ha.out
 obtain ⟨cb0,cb1,cb2,cb3,cb4⟩:=five Hb.out
 go_wp2_with fail
 clear ca0 ca1 ca2 ca3 ca4 cb0 cb1 cb2 cb3 cb4
 go_ret
 exact ⟨rfl,HB.out⟩
end Go.Proofs.YtgakcpcpfkoaiaaGreatDoor.Jo

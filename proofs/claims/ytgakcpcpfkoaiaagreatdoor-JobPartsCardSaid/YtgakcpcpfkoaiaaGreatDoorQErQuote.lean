/-
  A text of this claim: ErQuote.
-/
import Derived.Test.YtgakcpcpfkoaiaaGreatDoorQ1
import Derived.Test.YtgakcpcpfkoaiaaGreatDoorQErParse
import Derived.Test.YtgakcpcpfkoaiaaGreatDoorQ6
import Derived.Test.YtgakcpcpfkoaiaaGreatDoorQ5
import Derived.Test.YtgakcpcpfkoaiaaGreatDoorQ2
import Derived.Deep.Cut
set_option maxHeartbeats 4000000
set_option maxRecDepth 100000
namespace Go.Proofs.YtgakcpcpfkoaiaaGreatDoor.Ev
open Go.ChangeShapes Go.WideShapes Go.ChangeAt Go.RowKit Ov Va Ga Ex
theorem rparse_quote (s:ByteArray) (hs:s.size≤4096) (h34:s.data.toList.head? = some 34) (w:World):Calls Tryz.prog 171 #[.string s] w (PzN s.data.toList s.size w):=by
 have hsz:s.data.toList.length=s.size:=by simp
 have hb0:=Blk.made w 28 zz rfl
 have hbel:=box1 w (.cells zz 28)
 obtain ⟨w1,hw1⟩:∃ w1,w.alloc (.cells zz 28)=w1:=⟨_,rfl⟩
 rw [show (w.alloc (.cells zz 28))=w1 from hw1] at hb0
 rw [hw1] at hbel
 have HX1:=qq hb0;have HB1:=qq hbel;have HW1:=qq hw1
 clear hb0 hbel hw1
 have HNO:=qq (no_quote h34)
 obtain ⟨i0,hi0,hq0,hq1,hq2⟩:=info_parts info8
 have HI:=qq hi0;have HQ0:=qq hq0;have HQ1:=qq hq1;have HQ2:=qq hq2
 clear hi0 hq0 hq1 hq2
 have h0:s.size ≠ 0:=by
  intro h
  have:s.data.toList=[]:=List.length_eq_zero_iff.1 (by omega)
  rw [this] at h34;simp at h34
 have hpos:0<s.size:=by omega
 have h1:=full_of h0
 have h1':s.toList.isEmpty=false:=by simpa using h1
 have hhd:s.data.toList.head? = some s[0]:=head_at hpos
 have hc:s[0]=34:=by rw [h34] at hhd;exact (Option.some.inj hhd).symm
 clear h34 hhd
 have HP:=qq rplain_any;have HDG:=qq rdigit_any
 go_enter Tryz.func171,Tryz.ntmps171
 go_upto_region 1 with fail
 rw [HW1.out]
 go_wp2_with fail
 clear h1 h1' hc
 go_loopw [12,13] (fun V I wr=>∃ (k:Nat) (A:List UInt8),1≤k∧k≤s.size∧A.length≤k∧I=.int .i64 (k:Int)∧wr.ownsRow w1.heap.size 5 1 V A.length (vals A)∧Below w1.heap.size w1 wr) (fun _ I _=>s.size - (intOf I).toNat)
 case atStart=>exact ⟨1,[],Nat.le_refl _,by omega,by decide,rfl,World.ownsRow_nil _ _ _ _,Below.refl _ _⟩
 case round =>
  obtain ⟨k,A,hk1,hk2,hAk,rfl,ho,hb⟩:=hrel
  obtain ⟨Bp,cp,rfl⟩:=own_slice ho
  have HO:=qq ho;have HB:=qq hb
  have HX2:=qq (HX1.out.next hb);have HB2:=qq (Below.next HB1.out hb)
  clear ho hb
  by_cases hlt:k<s.size
  · obtain ⟨c,hc⟩:∃ c:UInt8,s[k]=c:=⟨_,rfl⟩
    by_cases h34:c=34
    · have g34:((c.toNat:Int) == 34)=true:=by rw [h34];rfl
      clear h34
      have hA:¬ 4096<A.length:=by omega
      have hcv:=run_own_text rfl HO.out ⟨wr,Below.refl _ _⟩
      obtain ⟨c0,c1,c2,c3,c4,f0,f1,f2,f3,f4,hlt9⟩:=blk_five HX2.out
      go_wp2_with fail
      refine bend (P:=bodyPost _ _ _ _ _) HX2.out HB2.out (Nat.le_refl _) _ _ _ _ _ ?_
      clear c0 c1 c2 c3 c4 f0 f1 f2 f3 f4 HX1 HX2 HB1 HB2 HO HB
      intro w9 hx9 hb9 c0 c1 c2 c3 c4
      refine bodyPost_ret (v:=.tuple #[.agg #[.int .i64 1,.int .i64 0,.string (tx A),.int .i64 0,.int .i64 0],.int .i64 ((k:Int)+1),.int .i64 0]) (by simp [results,Tryz.results171,go_sem,c0,c1,c2,c3,c4]) rfl ⟨(tv A),((k:Int)+1),0,rfl,hb9,.inl ⟨HNO.out,.inr (.inr (by show (1:Int) ≠ 0;decide))⟩⟩
    · have g34:((c.toNat:Int) == 34)=false:=by
       rw [beq_eq_false_iff_ne];intro e
       exact h34 (UInt8.toNat_inj.1 (show c.toNat=(34:UInt8).toNat from (by show c.toNat=34;omega)))
      clear h34
      by_cases h92:c=92
      · have g92:((c.toNat:Int) != 92)=false:=by rw [h92];rfl
        clear h92
        go_wp2_with fail
        go_loop [15,16] (fun X J=>∃ x j:Nat,X=.int .i64 (x:Int)∧J=.int .i64 (j:Int)∧1≤j∧j≤3∧(j=1→x=0)∧(j=2→x≤15)∧x≤255∧(2≤j→k+j≤s.size)) (fun _ J=>3 - (intOf J).toNat)
        case atStart=>exact ⟨0,1,rfl,rfl,Nat.le_refl _,by omega,fun _=>rfl,fun h=>by omega,by omega,fun h=>by omega⟩
        case round =>
         obtain ⟨x,j,rfl,rfl,hj1,hj2,hx1,hx2,hx3,hkj⟩:=hrel
         by_cases hj:j≤2
         · by_cases hin:k+j<s.size
           · obtain ⟨d,hd⟩:∃ d:UInt8,s[k+j]=d:=⟨_,rfl⟩
             have hkj2:(k:Int)+(j:Int)=((k+j:Nat):Int):=by omega
             obtain ⟨p,hp⟩:∃ p,k+j=p:=⟨_,rfl⟩
             simp only [hp] at hd hkj2 hin
             go_wp2_with fail
             refine (HDG.out d _).mono ?_
             rintro e w' ⟨⟨g,rfl,hg1,hg2⟩,rfl⟩
             by_cases hneg:g<0
             · skip
               obtain ⟨c0,c1,c2,c3,c4,f0,f1,f2,f3,f4,hlt9⟩:=blk_five HX2.out
               go_wp2_with fail
               refine bend (P:=bodyPost _ _ _ _ _) HX2.out HB2.out (Nat.le_refl _) _ _ _ _ _ ?_
               clear c0 c1 c2 c3 c4 f0 f1 f2 f3 f4 HX1 HX2 HB1 HB2 HO HB
               intro w9 hx9 hb9 c0 c1 c2 c3 c4
               refine bodyPost_ret (v:=.tuple #[.agg zz,.int .i64 0,.int .i64 6]) (by simp [results,Tryz.results171,go_sem,c0,c1,c2,c3,c4]) rfl ⟨vz,0,6,rfl,hb9,.inl ⟨HNO.out,.inl (by decide)⟩⟩
             · have hg0:0≤g:=by omega
               have hy:x * 16+g.toNat≤255:=by
                rcases (show j=1∨j=2 by omega) with h | h
                · have:=hx1 h;omega
                · have:=hx2 h;omega
               have hy2:j=1→x * 16+g.toNat≤15:=fun h=>by have:=hx1 h;omega
               obtain ⟨X,hX⟩:∃ X:Int,(x:Int) * 16=X:=⟨_,rfl⟩
               have hXa:0≤X:=by omega
               have hXb:X≤4080:=by omega
               have hXY:X+g=((x * 16+g.toNat:Nat):Int):=by omega
               have HXY:=qq hXY;have HY:=qq hy;have HY2:=qq hy2;have HKJ:=qq hkj2;have HHP:=qq hp
               clear hXY hy hy2 hkj hx1 hx2
               go_wp2_with fail
               go_round
               case rel=>exact ⟨x * 16+g.toNat,j+1,congrArg (Value.int .i64) HXY.out,by go_num,by omega,by omega,fun h=>by omega,fun h=>HY2.out (by omega),HY.out,fun _=>by have:=HHP.out;omega⟩
               case measure=>simp [intOf];omega
           · skip
             obtain ⟨c0,c1,c2,c3,c4,f0,f1,f2,f3,f4,hlt9⟩:=blk_five HX2.out
             go_wp2_with fail
             refine bend (P:=bodyPost _ _ _ _ _) HX2.out HB2.out (Nat.le_refl _) _ _ _ _ _ ?_
             clear c0 c1 c2 c3 c4 f0 f1 f2 f3 f4 HX1 HX2 HB1 HB2 HO HB
             intro w9 hx9 hb9 c0 c1 c2 c3 c4
             refine bodyPost_ret (v:=.tuple #[.agg zz,.int .i64 0,.int .i64 2]) (by simp [results,Tryz.results171,go_sem,c0,c1,c2,c3,c4]) rfl ⟨vz,0,2,rfl,hb9,.inl ⟨HNO.out,.inl (by decide)⟩⟩
         · obtain rfl:j=3:=by omega
           obtain ⟨d,hd⟩:∃ d:UInt8,d.toNat=x:=⟨UInt8.ofNat x,Tp.u8_nat (by omega)⟩
           have hk3:k+3≤s.size:=hkj (by omega)
           have hdl:=d.toNat_lt
           subst hd
           clear hkj hx1 hx2 hj
           go_wp2_with fail
           refine (HP.out d _).mono ?_
           rintro e w' ⟨rfl,rfl⟩
           rcases Bool.eq_false_or_eq_true (pl d) with hpl | hpl
           · rw [hpl];clear hpl
             obtain ⟨c0,c1,c2,c3,c4,f0,f1,f2,f3,f4,hlt9⟩:=blk_five HX2.out
             go_wp2_with fail
             refine bend (P:=bodyPost _ _ _ _ _) HX2.out HB2.out (Nat.le_refl _) _ _ _ _ _ ?_
             clear c0 c1 c2 c3 c4 f0 f1 f2 f3 f4 HX1 HX2 HB1 HB2 HO HB
             intro w9 hx9 hb9 c0 c1 c2 c3 c4
             refine bodyPost_ret (v:=.tuple #[.agg zz,.int .i64 0,.int .i64 6]) (by simp [results,Tryz.results171,go_sem,c0,c1,c2,c3,c4]) rfl ⟨vz,0,6,rfl,hb9,.inl ⟨HNO.out,.inl (by decide)⟩⟩
           · rw [hpl];clear hpl
             go_wp2_with (at_builtin;refine wpList_append_own _ rfl _ _ 123 rfl w1.heap.size 5 i0 (.int .u8 0) 1 1 Tryz.underlying123 HI.out HQ0.out HQ1.out HQ2.out rfl (by decide) _ _ _ rfl (HO.out.alloc _) ⟨wr.heap.size,0,none⟩ 1 1 [.int .u8 (d.toNat:Int)] rfl rfl (one_news wr _ _) (one_one rfl) ?c3 ?c4 ?c5 ?_)
             case c3=>unfold maxLen;omega
             case c4=>omega
             case c5=>have h9:=HB.out.size;(try rw [World.size_alloc]);omega
             intro v' w5 hown' hgrow _
             have HN:Hid (w5.ownsRow w1.heap.size 5 1 v' (A++[d]).length (vals (A++[d]))):=by
              show World.ownsRow _ _ _ _ _ _ _
              rw [vals_snoc,List.length_append];exact hown'
             have HB5:Hid (Below w1.heap.size w1 w5):=(HB.out.alloc HB.out.size _).grown hgrow (one_base HB.out.size _) (fun g e=>(HO.out.lt g e).1)
             clear hown' hgrow
             go_wp2_with fail
             go_roundw
             case rel=>exact ⟨k+3,A++[d],by omega,by omega,by rw [List.length_append];simp;omega,by go_num,HN.out,HB5.out⟩
             case measure=>simp [intOf];omega
      · have g92:((c.toNat:Int) != 92)=true:=by
         rw [bne_iff_ne];intro e
         exact h92 (UInt8.toNat_inj.1 (show c.toNat=(92:UInt8).toNat from (by show c.toNat=92;omega)))
        clear h92
        go_wp2_with fail
        refine (HP.out c _).mono ?_
        rintro e w' ⟨rfl,rfl⟩
        rcases Bool.eq_false_or_eq_true (pl c) with hpl | hpl
        · rw [hpl];clear hpl
          go_wp2_with (at_builtin;refine wpList_append_own _ rfl _ _ 123 rfl w1.heap.size 5 i0 (.int .u8 0) 1 1 Tryz.underlying123 HI.out HQ0.out HQ1.out HQ2.out rfl (by decide) _ _ _ rfl (HO.out.alloc _) ⟨wr.heap.size,0,none⟩ 1 1 [.int .u8 (c.toNat:Int)] rfl rfl (one_news wr _ _) (one_one rfl) ?c3 ?c4 ?c5 ?_)
          case c3=>unfold maxLen;omega
          case c4=>omega
          case c5=>have h9:=HB.out.size;(try rw [World.size_alloc]);omega
          intro v' w5 hown' hgrow _
          have HN:Hid (w5.ownsRow w1.heap.size 5 1 v' (A++[c]).length (vals (A++[c]))):=by
           show World.ownsRow _ _ _ _ _ _ _
           rw [vals_snoc,List.length_append];exact hown'
          have HB5:Hid (Below w1.heap.size w1 w5):=(HB.out.alloc HB.out.size _).grown hgrow (one_base HB.out.size _) (fun g e=>(HO.out.lt g e).1)
          clear hown' hgrow
          go_wp2_with fail
          go_roundw
          case rel=>exact ⟨k+1,A++[c],by omega,by omega,by rw [List.length_append];simp;omega,by go_num,HN.out,HB5.out⟩
          case measure=>simp [intOf];omega
        · rw [hpl];clear hpl
          obtain ⟨c0,c1,c2,c3,c4,f0,f1,f2,f3,f4,hlt9⟩:=blk_five HX2.out
          go_wp2_with fail
          refine bend (P:=bodyPost _ _ _ _ _) HX2.out HB2.out (Nat.le_refl _) _ _ _ _ _ ?_
          clear c0 c1 c2 c3 c4 f0 f1 f2 f3 f4 HX1 HX2 HB1 HB2 HO HB
          intro w9 hx9 hb9 c0 c1 c2 c3 c4
          refine bodyPost_ret (v:=.tuple #[.agg zz,.int .i64 0,.int .i64 6]) (by simp [results,Tryz.results171,go_sem,c0,c1,c2,c3,c4]) rfl ⟨vz,0,6,rfl,hb9,.inl ⟨HNO.out,.inl (by decide)⟩⟩
  · skip
    obtain ⟨c0,c1,c2,c3,c4,f0,f1,f2,f3,f4,hlt9⟩:=blk_five HX2.out
    go_wp2_with fail
    refine bend (P:=bodyPost _ _ _ _ _) HX2.out HB2.out (Nat.le_refl _) _ _ _ _ _ ?_
    clear c0 c1 c2 c3 c4 f0 f1 f2 f3 f4 HX1 HX2 HB1 HB2 HO HB
    intro w9 hx9 hb9 c0 c1 c2 c3 c4
    refine bodyPost_ret (v:=.tuple #[.agg zz,.int .i64 0,.int .i64 2]) (by simp [results,Tryz.results171,go_sem,c0,c1,c2,c3,c4]) rfl ⟨vz,0,2,rfl,hb9,.inl ⟨HNO.out,.inl (by decide)⟩⟩
theorem rparse_any (s:ByteArray) (hs:s.size≤4096) (w:World):Calls Tryz.prog 171 #[.string s] w (PzN s.data.toList s.size w):=by
 by_cases h34:s.data.toList.head? = some 34
 · exact rparse_quote s hs h34 w
 · by_cases h45:s.data.toList.head? = some 45∨(∃ c,s.data.toList.head? = some c∧dg c=true)
   · exact rparse_num s hs h45 w
   · exact rparse_word s hs h34 h45 w
end Go.Proofs.YtgakcpcpfkoaiaaGreatDoor.Ev

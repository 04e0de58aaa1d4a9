/-
  A text of this claim: ErParse.
-/
import Derived.Test.YtgakcpcpfkoaiaaGreatDoorQ1
import Derived.Test.YtgakcpcpfkoaiaaGreatDoorQErNum
import Derived.Test.YtgakcpcpfkoaiaaGreatDoorQ6
import Derived.Test.YtgakcpcpfkoaiaaGreatDoorQ5
import Derived.Test.YtgakcpcpfkoaiaaGreatDoorQ2
import Derived.Deep.Cut
set_option maxHeartbeats 4000000
set_option maxRecDepth 100000
namespace Go.Proofs.YtgakcpcpfkoaiaaGreatDoor.Ev
open Go.ChangeShapes Go.WideShapes Go.ChangeAt Go.RowKit Ov Va Ga Ex
def PzN (l:List UInt8) (m:Nat) (w:World) (e:Ending) (w':World):Prop:=∃ (v:Va) (n x:Int),e=.returned (.tuple #[.agg v,.int .i64 n,.int .i64 x])∧Below w.heap.size w w' ∧
 ((numOf l=.inl 6∧(x ≠ 0∨n<(m:Int)∨v.k ≠ 0))∨(numOf l=.inr v∧x=0∧n=(m:Int)∧v.k=0))
theorem rt_clamp (n:Int):(rt (nv n)=true∧clamp n=n)∨(rt (nv n)=false∧rt (nv (clamp n))=false):=by
 by_cases h:-9007199254740992≤n∧n≤9007199254740992
 · exact .inl ⟨rt_nv h,clamp_of h⟩
 · refine .inr ⟨?_,?_⟩
   · rcases Bool.eq_false_or_eq_true (rt (nv n)) with g | g
     · exact absurd (rt_int_in g).1 h
     · exact g
   · rcases Bool.eq_false_or_eq_true (rt (nv (clamp n))) with g | g
     · have:=(rt_int_in g).1
       have e:=clamp_in this
       exact absurd (by rw [e] at this;exact this) h
     · exact g
theorem rright_nv (n:Int) (w:World):Calls Tryz.prog 18 #[.agg #[.int .i64 0,.int .i64 n,.string ⟨#[]⟩,.int .i64 0,.int .i64 0]] w (Gives (.bool (rt (nv n))) w):=rright_val 0 n 0 0 ⟨#[]⟩ w
theorem rright_pv (x y:Int) (w:World):Calls Tryz.prog 18 #[.agg #[.int .i64 2,.int .i64 0,.string ⟨#[]⟩,.int .i64 x,.int .i64 y]] w (Gives (.bool (rt (pv x y))) w):=rright_val 2 0 x y ⟨#[]⟩ w
theorem rparse_word (s:ByteArray) (hs:s.size≤4096) (h34:s.data.toList.head? ≠ some 34) (h45:¬ (s.data.toList.head? = some 45∨(∃ c,s.data.toList.head? = some c∧dg c=true))) (w:World):Calls Tryz.prog 171 #[.string s] w (PzN s.data.toList s.size w):=by
 have hsz:s.data.toList.length=s.size:=by simp
 have hb0:=Blk.made w 28 zz rfl
 have hbel:=box1 w (.cells zz 28)
 obtain ⟨w1,hw1⟩:∃ w1,w.alloc (.cells zz 28)=w1:=⟨_,rfl⟩
 rw [show (w.alloc (.cells zz 28))=w1 from hw1] at hb0
 rw [hw1] at hbel
 have HX1:=qq hb0;have HB1:=qq hbel;have HW1:=qq hw1
 clear hb0 hbel hw1
 have HNO:=qq (no_word h34 h45)
 by_cases h0:s.size=0
 · have h1:=empty_of h0
   clear h34 h45
   go_enter Tryz.func171,Tryz.ntmps171
   go_upto_region 1 with fail
   rw [HW1.out]
   obtain ⟨c0,c1,c2,c3,c4,f0,f1,f2,f3,f4,hlt9⟩:=blk_five HX1.out
   go_wp2_with fail
   refine bend (P:=bodyPost _ _ _ _ _) HX1.out HB1.out (Nat.le_refl _) _ _ _ _ _ ?_
   clear c0 c1 c2 c3 c4 f0 f1 f2 f3 f4 HX1 HB1
   intro w9 hx9 hb9 c0 c1 c2 c3 c4
   refine bodyPost_ret (v:=.tuple #[.agg zz,.int .i64 0,.int .i64 10]) (by simp [results,Tryz.results171,go_sem,c0,c1,c2,c3,c4]) rfl ⟨vz,0,10,rfl,hb9,.inl ⟨HNO.out,.inl (by decide)⟩⟩
 · have h1:=full_of h0
   have hpos:0<s.size:=by omega
   have hhd:s.data.toList.head? = some s[0]:=head_at hpos
   obtain ⟨c,hc⟩:∃ c:UInt8,s[0]=c:=⟨_,rfl⟩
   rw [hc] at hhd
   have g34:((c.toNat:Int) != 34)=true:=by
    rw [bne_iff_ne];intro e
    exact h34 (by rw [hhd,UInt8.toNat_inj.1 (show c.toNat=(34:UInt8).toNat from (by show c.toNat=34;omega))])
   have g45:((c.toNat:Int) != 45)=true:=by
    rw [bne_iff_ne];intro e
    exact h45 (.inl (by rw [hhd,UInt8.toNat_inj.1 (show c.toNat=(45:UInt8).toNat from (by show c.toNat=45;omega))]))
   have hdg:¬ (48≤c.toNat∧c.toNat≤57):=fun h=>h45 (.inr ⟨c,hhd,decide_eq_true h⟩)
   have hlh:c.toNat<48∨(¬ c.toNat<48∧57<c.toNat):=by omega
   clear h34 h45 hdg hhd
   rcases hlh with b1 | ⟨b1,b2⟩
   all_goals
    go_enter Tryz.func171,Tryz.ntmps171
    go_upto_region 1 with fail
    rw [HW1.out]
    obtain ⟨c0,c1,c2,c3,c4,f0,f1,f2,f3,f4,hlt9⟩:=blk_five HX1.out
    go_wp2_with fail
    refine bend (P:=bodyPost _ _ _ _ _) HX1.out HB1.out (Nat.le_refl _) _ _ _ _ _ ?_
    clear c0 c1 c2 c3 c4 f0 f1 f2 f3 f4 HX1 HB1
    intro w9 hx9 hb9 c0 c1 c2 c3 c4
    refine bodyPost_ret (v:=.tuple #[.agg zz,.int .i64 0,.int .i64 10]) (by simp [results,Tryz.results171,go_sem,c0,c1,c2,c3,c4]) rfl ⟨vz,0,10,rfl,hb9,.inl ⟨HNO.out,.inl (by decide)⟩⟩
theorem rparse_num (s:ByteArray) (hs:s.size≤4096) (h45:s.data.toList.head? = some 45∨(∃ c,s.data.toList.head? = some c∧dg c=true)) (w:World):Calls Tryz.prog 171 #[.string s] w (PzN s.data.toList s.size w):=by
 have hsz:s.data.toList.length=s.size:=by simp
 have hb0:=Blk.made w 28 zz rfl
 have hbel:=box1 w (.cells zz 28)
 obtain ⟨w1,hw1⟩:∃ w1,w.alloc (.cells zz 28)=w1:=⟨_,rfl⟩
 rw [show (w.alloc (.cells zz 28))=w1 from hw1] at hb0
 rw [hw1] at hbel
 have HX1:=qq hb0;have HB1:=qq hbel;have HW1:=qq hw1
 clear hb0 hbel hw1
 have h34:s.data.toList.head? ≠ some 34:=by
  rcases h45 with h | ⟨c,h,hd⟩
  · rw [h];decide
  · rw [h];exact fun e=>(dg_ne hd).2.2 (Option.some.inj e)
 have h0:s.size ≠ 0:=by
  intro h
  have:s.data.toList=[]:=List.length_eq_zero_iff.1 (by omega)
  rw [this] at h45
  rcases h45 with h | ⟨c,h,hd⟩ <;> simp at h
 have hpos:0<s.size:=by omega
 have h1:=full_of h0
 have h1':s.toList.isEmpty=false:=by simpa using h1
 have hhd:s.data.toList.head? = some s[0]:=head_at hpos
 obtain ⟨c,hc⟩:∃ c:UInt8,s[0]=c:=⟨_,rfl⟩
 rw [hc] at hhd
 have g34:((c.toNat:Int) != 34)=true:=by
  rw [bne_iff_ne];intro e
  exact h34 (by rw [hhd,UInt8.toNat_inj.1 (show c.toNat=(34:UInt8).toNat from (by show c.toNat=34;omega))])
 have hcs:((c.toNat:Int) != 45)=false∨(((c.toNat:Int) != 45)=true∧48≤c.toNat∧c.toNat≤57):=by
  rcases h45 with h | ⟨d,h,hd⟩
  · rw [hhd] at h;rw [Option.some.inj h];exact .inl rfl
  · rw [hhd] at h
    have:c=d:=Option.some.inj h
    subst this
    obtain ⟨b1,b2⟩:48≤c.toNat∧c.toNat≤57:=of_decide_eq_true hd
    exact .inr ⟨by rw [bne_iff_ne];omega,b1,b2⟩
 have HER:=qq (fun h=>no_er h45 h34 h);have HCO:=qq (fun h1 h2=>no_colon h45 h34 h1 h2);have HNU:=qq (fun h1 h2=>no_num h45 h34 h1 h2)
 have HC0:Hid (Calls Tryz.prog 179 #[.string s,.int .i64 0] w1 (NumE s.data.toList 0 w1)):=rnumber_any s 0 (Nat.zero_le _) (by omega) w1
 have HCN:=qq (fun i h W=>rnumber_any s i h (by omega) W)
 clear h45 h34 hhd
 obtain ⟨Z,hZ⟩:∃ Z,cw s.data.toList=Z:=⟨_,rfl⟩
 rw [hZ] at HER HCO HNU
 unfold NumE NumAt at HC0
 rw [hZ] at HC0
 clear hZ
 obtain ⟨z1,z2,z3⟩:=Z
 rcases hcs with g45 | ⟨g45,b1,b2⟩
 all_goals
  go_enter Tryz.func171,Tryz.ntmps171
  go_upto_region 1 with fail
  rw [HW1.out]
  go_wp2_with fail
  refine (HC0.out).mono ?_
  rintro e w2 ⟨n,k,x,rfl,⟨hx,hok⟩,rfl⟩
  clear HC0
  by_cases hx0:x=0
  · obtain ⟨hk,hcl,hn1,hn2,hz⟩:=hok hx0
    subst hx0
    clear hok
    replace hx:(0:Int)=(z3:Int):=hx
    replace hk:k=((0+z2:Nat):Int):=hk
    replace hcl:clamp n=z1:=hcl
    replace hz:z2≤s.data.toList.length:=hz
    have hz3:z3=0:=by omega
    subst hz3
    rw [Nat.zero_add] at hk
    subst hk
    rw [hsz] at hz
    have HCL:=qq hcl
    clear hx hcl HER
    have HV1:=qq (Blk.made w1 28 [.int .i64 0,.int .i64 n,.string ⟨#[]⟩,.int .i64 0,.int .i64 0] rfl)
    have HX2:=qq (HX1.out.next (box1 w1 (.cells #[.int .i64 0,.int .i64 n,.string ⟨#[]⟩,.int .i64 0,.int .i64 0] 28)))
    have HB2:=qq (Below.next HB1.out (box1 w1 (.cells #[.int .i64 0,.int .i64 n,.string ⟨#[]⟩,.int .i64 0,.int .i64 0] 28)))
    go_upto_region 8 with fail
    obtain ⟨w2,hw2⟩:∃ w2,w1.alloc (.cells #[.int .i64 0,.int .i64 n,.string ⟨#[]⟩,.int .i64 0,.int .i64 0] 28)=w2:=⟨_,rfl⟩
    rw [show w1.alloc (.cells [.int .i64 0,.int .i64 n,.string ⟨#[]⟩,.int .i64 0,.int .i64 0].toArray 28)=w2 from hw2] at HV1
    rw [hw2] at HX2 HB2 ⊢
    have hlw:=HX1.out.lt
    clear hw2 HX1 HB1
    by_cases hco:∃ h:z2<s.size,s[z2]=58
    · obtain ⟨hlt,hc58⟩:=hco
      have g58:((s[z2].toNat:Int) == 58)=true:=by rw [hc58];rfl
      have HNO:Hid (numOf s.data.toList=.inl 6):=HCO.out (by trivial) (by rw [drop_at s hlt,hc58];rfl)
      obtain ⟨cq,hcq⟩:∃ c:UInt8,s[z2]=c:=⟨_,rfl⟩
      rw [hcq] at g58
      clear hc58 HCO HNU
      have HC2:Hid (∀ W,Calls Tryz.prog 179 #[.string s,.int .i64 ((z2:Int)+1)] W (NumE (s.data.toList.drop (z2+1)) (z2+1) W)):=fun W=>HCN.out (z2+1) (by omega) W
      clear HCN
      go_wp2_with fail
      refine (HC2.out _).mono ?_
      rintro e w3 ⟨n2,k2,x2,rfl,⟨hx2,hok2⟩,rfl⟩
      clear HC2
      by_cases hx0:x2=0
      · obtain ⟨hu1,hu2,hm1,hm2,hu3⟩:=hok2 hx0
        clear hu1 hu2 hu3
        subst hx0
        clear hx2 hok2
        obtain ⟨v0,v1,v2,v3,v4,y0,y1,y2,y3,y4,hlt8⟩:=blk_five HV1.out
        go_wp2_with fail
        have hne:w1.heap.size ≠ w.heap.size:=by omega
        have HRP:=qq (rright_pv n n2)
        refine bend2 (P:=fun W=>Calls _ _ _ W _) HV1.out HB2.out (by omega) HX2.out hne _ _ _ _ _ ?_
        clear v0 v1 v2 v3 v4 y0 y1 y2 y3 y4 HV1 HB2 HX2
        intro w3 hx3 hv3 hb3 v0 v1 v2 v3 v4
        have HX3:=qq hx3;have HV3:=qq hv3;have HB3:=qq hb3
        clear hx3 hv3 hb3 v0 v1 v2 v3 v4
        refine (HRP.out _).mono ?_
        rintro e w4 ⟨rfl,hb⟩
        have HX4:=qq (HX3.out.next hb);have HV4:=qq (HV3.out.next hb);have HB4:=qq (Below.next HB3.out hb)
        clear hb HX3 HV3 HB3
        obtain ⟨v0,v1,v2,v3,v4,y0,y1,y2,y3,y4,hlt8⟩:=blk_five HV4.out
        rcases Bool.eq_false_or_eq_true (rt (pv n n2)) with hr | hr
        · rw [hr];clear hr
          obtain ⟨c0,c1,c2,c3,c4,f0,f1,f2,f3,f4,hlt9⟩:=blk_five HX4.out
          go_wp2_with fail
          refine bend (P:=bodyPost _ _ _ _ _) HX4.out HB4.out (Nat.le_refl _) _ _ _ _ _ ?_
          clear c0 c1 c2 c3 c4 f0 f1 f2 f3 f4 HX4 HB4 HV4
          intro w9 hx9 hb9 c0 c1 c2 c3 c4
          refine bodyPost_ret (v:=.tuple #[.agg #[.int .i64 2,.int .i64 0,.string ⟨#[]⟩,.int .i64 n,.int .i64 n2],.int .i64 k2,.int .i64 0]) (by simp [results,Tryz.results171,go_sem,c0,c1,c2,c3,c4]) rfl ⟨(pv n n2),k2,0,rfl,hb9,.inl ⟨HNO.out,.inr (.inr (by show (2:Int) ≠ 0;decide))⟩⟩
        · rw [hr];clear hr
          obtain ⟨c0,c1,c2,c3,c4,f0,f1,f2,f3,f4,hlt9⟩:=blk_five HX4.out
          go_wp2_with fail
          refine bend (P:=bodyPost _ _ _ _ _) HX4.out HB4.out (Nat.le_refl _) _ _ _ _ _ ?_
          clear c0 c1 c2 c3 c4 f0 f1 f2 f3 f4 HX4 HB4 HV4
          intro w9 hx9 hb9 c0 c1 c2 c3 c4
          refine bodyPost_ret (v:=.tuple #[.agg zz,.int .i64 0,.int .i64 14]) (by simp [results,Tryz.results171,go_sem,c0,c1,c2,c3,c4]) rfl ⟨vz,0,14,rfl,hb9,.inl ⟨HNO.out,.inl (by decide)⟩⟩
      · have HX:=qq hx0;clear hok2 hx2
        have hx1:(x2 != 0)=true:=by simpa using hx0
        clear hx0
        obtain ⟨c0,c1,c2,c3,c4,f0,f1,f2,f3,f4,hlt9⟩:=blk_five HX2.out
        go_wp2_with fail
        refine bend (P:=bodyPost _ _ _ _ _) HX2.out HB2.out (Nat.le_refl _) _ _ _ _ _ ?_
        clear c0 c1 c2 c3 c4 f0 f1 f2 f3 f4 HX2 HB2 HV1
        intro w9 hx9 hb9 c0 c1 c2 c3 c4
        refine bodyPost_ret (v:=.tuple #[.agg zz,.int .i64 0,.int .i64 x2]) (by simp [results,Tryz.results171,go_sem,c0,c1,c2,c3,c4]) rfl ⟨vz,0,x2,rfl,hb9,.inl ⟨HNO.out,.inl HX.out⟩⟩
    · have hcond:¬ (z2<s.size)∨(∃ h:z2<s.size,((s[z2].toNat:Int) == 58)=false):=by
       by_cases h:z2<s.size
       · refine .inr ⟨h,?_⟩
         rw [beq_eq_false_iff_ne]
         intro e
         exact hco ⟨h,UInt8.toNat_inj.1 (show s[z2].toNat=(58:UInt8).toNat from (by show s[z2].toNat=58;omega))⟩
       · exact .inl h
      have HNV:=qq (HNU.out (by trivial) (by
       show (s.data.toList.drop z2).head? ≠ some 58
       by_cases h:z2<s.size
       · rw [dl_head s h];exact fun e=>hco ⟨h,Option.some.inj e⟩
       · rw [List.drop_of_length_le (by omega)];exact fun e=>by simp at e))
      have HRN:=qq (rright_nv n)
      obtain ⟨v0,v1,v2,v3,v4,y0,y1,y2,y3,y4,hlt8⟩:=blk_five HV1.out
      clear hco HCO HNU HCN
      rcases hcond with hlt | ⟨hlt,g58⟩
      all_goals
       go_wp2_with fail
       refine (HRN.out _).mono ?_
       rintro e w4 ⟨rfl,hb⟩
       have HX4:=qq (HX2.out.next hb);have HV4:=qq (HV1.out.next hb);have HB4:=qq (Below.next HB2.out hb)
       clear hb HX2 HV1 HB2 v0 v1 v2 v3 v4 y0 y1 y2 y3 y4 hlt8
       obtain ⟨v0,v1,v2,v3,v4,y0,y1,y2,y3,y4,hlt8⟩:=blk_five HV4.out
       rcases rt_clamp n with ⟨hr,hc⟩ | ⟨hr,hc⟩
       · rw [HCL.out] at hc
         subst hc
         have HRR:=qq hr
         rw [hr];clear hr
         by_cases hze:z2=s.size
         · have HNO:Hid (numOf s.data.toList=.inr (nv z1)):=by show _=_;rw [HNV.out,if_pos ⟨HRR.out,by rw [hsz];exact hze⟩]
           have HZE:=qq hze;clear hze
           obtain ⟨c0,c1,c2,c3,c4,f0,f1,f2,f3,f4,hlt9⟩:=blk_five HX4.out
           go_wp2_with fail
           refine bend (P:=bodyPost _ _ _ _ _) HX4.out HB4.out (Nat.le_refl _) _ _ _ _ _ ?_
           clear c0 c1 c2 c3 c4 f0 f1 f2 f3 f4 HX4 HB4 HV4
           intro w9 hx9 hb9 c0 c1 c2 c3 c4
           refine bodyPost_ret (v:=.tuple #[.agg #[.int .i64 0,.int .i64 z1,.string ⟨#[]⟩,.int .i64 0,.int .i64 0],.int .i64 (z2:Int),.int .i64 0]) (by simp [results,Tryz.results171,go_sem,c0,c1,c2,c3,c4]) rfl ⟨(nv z1),(z2:Int),0,rfl,hb9,.inr ⟨HNO.out,rfl,by rw [HZE.out],rfl⟩⟩
         · have HNO:Hid (numOf s.data.toList=.inl 6):=by show _=_;rw [HNV.out,if_neg (fun h=>hze (by rw [← hsz];exact h.2))]
           have HZE:Hid ((z2:Int)<(s.size:Int)):=by show _<_;omega
           clear hze
           obtain ⟨c0,c1,c2,c3,c4,f0,f1,f2,f3,f4,hlt9⟩:=blk_five HX4.out
           go_wp2_with fail
           refine bend (P:=bodyPost _ _ _ _ _) HX4.out HB4.out (Nat.le_refl _) _ _ _ _ _ ?_
           clear c0 c1 c2 c3 c4 f0 f1 f2 f3 f4 HX4 HB4 HV4
           intro w9 hx9 hb9 c0 c1 c2 c3 c4
           refine bodyPost_ret (v:=.tuple #[.agg #[.int .i64 0,.int .i64 z1,.string ⟨#[]⟩,.int .i64 0,.int .i64 0],.int .i64 (z2:Int),.int .i64 0]) (by simp [results,Tryz.results171,go_sem,c0,c1,c2,c3,c4]) rfl ⟨(nv z1),(z2:Int),0,rfl,hb9,.inl ⟨HNO.out,.inr (.inl HZE.out)⟩⟩
       · rw [HCL.out] at hc
         have HNO:Hid (numOf s.data.toList=.inl 6):=by show _=_;rw [HNV.out,if_neg (fun h=>by rw [hc] at h;exact absurd h.1 (by decide))]
         rw [hr];clear hr hc
         obtain ⟨c0,c1,c2,c3,c4,f0,f1,f2,f3,f4,hlt9⟩:=blk_five HX4.out
         go_wp2_with fail
         refine bend (P:=bodyPost _ _ _ _ _) HX4.out HB4.out (Nat.le_refl _) _ _ _ _ _ ?_
         clear c0 c1 c2 c3 c4 f0 f1 f2 f3 f4 HX4 HB4 HV4
         intro w9 hx9 hb9 c0 c1 c2 c3 c4
         refine bodyPost_ret (v:=.tuple #[.agg zz,.int .i64 0,.int .i64 14]) (by simp [results,Tryz.results171,go_sem,c0,c1,c2,c3,c4]) rfl ⟨vz,0,14,rfl,hb9,.inl ⟨HNO.out,.inl (by decide)⟩⟩
  · have HX:=qq hx0;clear hok
    have hx1:(x != 0)=true:=by simpa using hx0
    have HNO:Hid (numOf s.data.toList=.inl 6):=HER.out (fun h=>hx0 (by rw [hx];exact congrArg Int.ofNat h))
    clear hx0 hx HER HCO HNU HCN
    obtain ⟨c0,c1,c2,c3,c4,f0,f1,f2,f3,f4,hlt9⟩:=blk_five HX1.out
    go_wp2_with fail
    refine bend (P:=bodyPost _ _ _ _ _) HX1.out HB1.out (Nat.le_refl _) _ _ _ _ _ ?_
    clear c0 c1 c2 c3 c4 f0 f1 f2 f3 f4 HX1 HB1
    intro w9 hx9 hb9 c0 c1 c2 c3 c4
    refine bodyPost_ret (v:=.tuple #[.agg zz,.int .i64 0,.int .i64 x]) (by simp [results,Tryz.results171,go_sem,c0,c1,c2,c3,c4]) rfl ⟨vz,0,x,rfl,hb9,.inl ⟨HNO.out,.inl HX.out⟩⟩
end Go.Proofs.YtgakcpcpfkoaiaaGreatDoor.Ev

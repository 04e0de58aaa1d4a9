/-
  A text of this claim: EvRun2.
-/
import Derived.Test.YtgakcpcpfkoaiaaGreatDoorQ1
import Derived.Test.YtgakcpcpfkoaiaaGreatDoorQEvRun
import Derived.Deep.RegionHeld3
set_option maxHeartbeats 4000000
set_option maxRecDepth 100000
namespace Go.Proofs.YtgakcpcpfkoaiaaGreatDoor.Ev
open Go.ChangeShapes Go.WideShapes Go.ChangeAt Go.RowKit Ov Va Ga Ex
theorem run_yes (l:List No) (A:Option Addr) (c:Nat) (k:List UInt8) (v a:Va) (m:Nat) (w:World) (hn:Nds w A l) (hkn:KN w) (ht:Tab w) (hl:l.length≤4294967296) (hr:Rt l=true) (hv:rEnv k v a=true) (hm:m≤100000) :
 Calls Tryz.prog 26 #[.slice A l.length c,.agg #[.string (tx k),.int .i64 v.k,.int .i64 v.n,.string (tx v.s),.int .i64 v.x,.int .i64 v.y,.int .i64 a.k,.int .i64 a.n,.string (tx a.s),.int .i64 a.x,.int .i64 a.y],.int .i64 (m:Int)] w (RunQ (rnX l k v a (m:Int)) w):=by
 have h1:Blk ((w.alloc (.cells #[.string (tx k),.int .i64 v.k,.int .i64 v.n,.string (tx v.s),.int .i64 v.x,.int .i64 v.y,.int .i64 a.k,.int .i64 a.n,.string (tx a.s),.int .i64 a.x,.int .i64 a.y] 64)).alloc (.cells rz7.toArray 60)) w.heap.size (ecl k v a):=(Blk.made w 64 (ecl k v a) rfl).old _
 have h2:Blk ((w.alloc (.cells #[.string (tx k),.int .i64 v.k,.int .i64 v.n,.string (tx v.s),.int .i64 v.x,.int .i64 v.y,.int .i64 a.k,.int .i64 a.n,.string (tx a.s),.int .i64 a.x,.int .i64 a.y] 64)).alloc (.cells rz7.toArray 60)) (w.heap.size+1) rz7:=Blk.made _ 60 rz7 (by simp)
 have hb1:=box2 w (.cells #[.string (tx k),.int .i64 v.k,.int .i64 v.n,.string (tx v.s),.int .i64 v.x,.int .i64 v.y,.int .i64 a.k,.int .i64 a.n,.string (tx a.s),.int .i64 a.x,.int .i64 a.y] 64) (.cells rz7.toArray 60)
 have HE1:=qq h1;have HR1:=qq h2;have HB1:=qq hb1
 have HN:=qq hn;have HK:=qq hkn;have HT:=qq ht
 have HRI:=qq (fun w1 (h:Below w.heap.size w w1)=>eright_any l A c w1 (hn.next h) (hkn.next h) hl)
 clear h1 h2 hb1 hn hkn ht
 go_enter Tryz.func26,Tryz.ntmps26
 go_wp2_with fail
 refine (HRI.out _ HB1.out).mono ?_
 rintro e w2 ⟨rfl,hb⟩
 have HE2:=qq (HE1.out.next hb);have HR2:=qq (HR1.out.next hb);have HB2:=qq (Below.next HB1.out hb)
 clear hb HE1 HR1 HB1 HRI
 rw [hr]
 have HRT:=qq hr
 have HRV:=qq hv
 have HRE:=qq (renv_any k v a)
 rw [hv] at HRE
 obtain ⟨c0,c1,c2,c3,c4,c5,c6,c7,c8,c9,c10⟩:=ck11 HE2.out
 go_wp2_with fail
 refine (HRE.out _).mono ?_
 rintro e w3 ⟨rfl,hb⟩
 have HE3:=qq (HE2.out.next hb);have HR3:=qq (HR2.out.next hb);have HB3:=qq (Below.next HB2.out hb)
 clear hb HE2 HR2 HB2 HRE hr hv c0 c1 c2 c3 c4 c5 c6 c7 c8 c9 c10
 have HX:Hid (rnX l k v a (m:Int)=ev 25 l (S0 k v a) m):=by
  show _=_
  unfold rnX
  rw [if_pos ⟨HRT.out,HRV.out,by omega,by omega⟩];rfl
 have hlen:=(Rt_in HRT.out).1
 have hx25:=(Rt_in HRT.out).2
 have hpos:0<l.length:=by
  rcases Nat.eq_zero_or_pos l.length with h | h
  · rw [List.length_eq_zero_iff.1 h,ex_nil] at hx25;cases hx25
  · exact h
 have HX25:=qq hx25
 clear hx25
 have HBE:=qq (fun w1 (h:Below w.heap.size w w1)=>behinds_any l A c w1 (HN.out.next h) (HK.out.next h) HRT.out)
 obtain ⟨c0,c1,c2,c3,c4,c5,c6,c7,c8,c9,c10⟩:=ck11 HE3.out
 have hlZ:=HE3.out.lt
 go_wp2_with fail
 go_region_held3 (fun w'=>w'.cell? ⟨w.heap.size,0,none⟩=some (.string (tx k))∧w'.cell? ⟨w.heap.size,1,none⟩=some (.int .i64 v.k)∧w'.cell? ⟨w.heap.size,2,none⟩=some (.int .i64 v.n)∧w'.cell? ⟨w.heap.size,3,none⟩=some (.string (tx v.s))∧w'.cell? ⟨w.heap.size,4,none⟩=some (.int .i64 v.x)∧w'.cell? ⟨w.heap.size,5,none⟩=some (.int .i64 v.y)∧w'.cell? ⟨w.heap.size,6,none⟩=some (.int .i64 a.k)∧w'.cell? ⟨w.heap.size,7,none⟩=some (.int .i64 a.n)∧w'.cell? ⟨w.heap.size,8,none⟩=some (.string (tx a.s))∧w'.cell? ⟨w.heap.size,9,none⟩=some (.int .i64 a.x)∧w'.cell? ⟨w.heap.size,10,none⟩=some (.int .i64 a.y)) (go_keep)
  (first
  | (go_at_call 53
     refine (HBE.out _ (below_drewN HB3.out 1)).mono ?_
     rintro e w4 ⟨rfl,hb4,hlt4,hbe4⟩
     have HE4:=qq ((HE3.out.next (below_drewN (Below.refl _ _) 1)).next hb4);have HR4:=qq ((HR3.out.next (below_drewN (Below.refl _ _) 1)).next hb4);have HB4:=qq (Below.next (below_drewN HB3.out 1) hb4)
     have HL4:=qq hlt4;have HBH4:=qq hbe4
     clear hb4 hlt4 hbe4
     obtain ⟨d0,d1,d2,d3,d4,d5,d6,d7,d8,d9,d10⟩:=ck11 HE4.out)
  | (go_at_call 54
     refine (etext_any _ _).mono ?_
     rintro e w5 ⟨rfl,hb5⟩
     have HE5:=qq (HE4.out.next hb5);have HR5:=qq (HR4.out.next hb5);have HB5:=qq (Below.next HB4.out hb5)
     have HL5:Hid (w3.heap.size<w5.heap.size):=Nat.lt_of_lt_of_le HL4.out hb5.size
     have HBH5:Hid (∀ k,k<l.length→w5.cell? ⟨w3.heap.size,k,none⟩=some (bhv l k)):=fun k hk=>(hb5.cell (p:=⟨w3.heap.size,k,none⟩) HL4.out).trans (HBH4.out k hk)
     have hlt5:=HE5.out.lt
     clear hb5
     obtain ⟨f0,f1,f2,f3,f4,f5,f6,f7,f8,f9,f10⟩:=ck11 HE5.out))
 rename_i hHd
 clear hHd
 have HD6:Hid (Blk (w5.alloc (.cells #[.slice A l.length c,.slice (some ⟨w3.heap.size,0,none⟩) l.length l.length,.nilFunc,.nilFunc,.nilFunc,.nilFunc,.nilFunc,.nilFunc,.nilFunc,.nilFunc,.nilFunc,.nilFunc,.nilFunc,.nilFunc,.nilFunc,.nilFunc,.nilFunc,.nilFunc,.nilFunc,.nilFunc,.nilFunc,.nilFunc,.nilFunc,.nilFunc,.nilFunc,.nilFunc,.nilFunc,.nilFunc,.nilFunc,.nilFunc,.nilFunc,.nilFunc,.int .i64 1,.int .i64 0,.string (tx k),.int .i64 0,.int .i64 0,.int .i64 v.k,.int .i64 v.n,.string (tx v.s),.int .i64 v.x,.int .i64 v.y,.int .i64 a.k,.int .i64 a.n,.string (tx a.s),.int .i64 a.x,.int .i64 a.y,.int .i64 0,.int .i64 0,.string ⟨#[]⟩,.int .i64 0,.int .i64 0,.int .i64 0,.int .i64 0,.string ⟨#[]⟩,.int .i64 0,.int .i64 0,.slice none 0 0,.int .i64 (m:Int)] 94)) w5.heap.size (dcz A c w3.heap.size l.length (S0 k v a) m (.slice none 0 0))):=dcz_made w5 A c w3.heap.size l k v a m
 have HR6:=qq (HR5.out.old (.cells #[.slice A l.length c,.slice (some ⟨w3.heap.size,0,none⟩) l.length l.length,.nilFunc,.nilFunc,.nilFunc,.nilFunc,.nilFunc,.nilFunc,.nilFunc,.nilFunc,.nilFunc,.nilFunc,.nilFunc,.nilFunc,.nilFunc,.nilFunc,.nilFunc,.nilFunc,.nilFunc,.nilFunc,.nilFunc,.nilFunc,.nilFunc,.nilFunc,.nilFunc,.nilFunc,.nilFunc,.nilFunc,.nilFunc,.nilFunc,.nilFunc,.nilFunc,.int .i64 1,.int .i64 0,.string (tx k),.int .i64 0,.int .i64 0,.int .i64 v.k,.int .i64 v.n,.string (tx v.s),.int .i64 v.x,.int .i64 v.y,.int .i64 a.k,.int .i64 a.n,.string (tx a.s),.int .i64 a.x,.int .i64 a.y,.int .i64 0,.int .i64 0,.string ⟨#[]⟩,.int .i64 0,.int .i64 0,.int .i64 0,.int .i64 0,.string ⟨#[]⟩,.int .i64 0,.int .i64 0,.slice none 0 0,.int .i64 (m:Int)] 94));have HB6:=qq (HB5.out.alloc HB5.out.size (.cells #[.slice A l.length c,.slice (some ⟨w3.heap.size,0,none⟩) l.length l.length,.nilFunc,.nilFunc,.nilFunc,.nilFunc,.nilFunc,.nilFunc,.nilFunc,.nilFunc,.nilFunc,.nilFunc,.nilFunc,.nilFunc,.nilFunc,.nilFunc,.nilFunc,.nilFunc,.nilFunc,.nilFunc,.nilFunc,.nilFunc,.nilFunc,.nilFunc,.nilFunc,.nilFunc,.nilFunc,.nilFunc,.nilFunc,.nilFunc,.nilFunc,.nilFunc,.int .i64 1,.int .i64 0,.string (tx k),.int .i64 0,.int .i64 0,.int .i64 v.k,.int .i64 v.n,.string (tx v.s),.int .i64 v.x,.int .i64 v.y,.int .i64 a.k,.int .i64 a.n,.string (tx a.s),.int .i64 a.x,.int .i64 a.y,.int .i64 0,.int .i64 0,.string ⟨#[]⟩,.int .i64 0,.int .i64 0,.int .i64 0,.int .i64 0,.string ⟨#[]⟩,.int .i64 0,.int .i64 0,.slice none 0 0,.int .i64 (m:Int)] 94))
 have HBH6:Hid (∀ q,q<l.length→(w5.alloc (.cells #[.slice A l.length c,.slice (some ⟨w3.heap.size,0,none⟩) l.length l.length,.nilFunc,.nilFunc,.nilFunc,.nilFunc,.nilFunc,.nilFunc,.nilFunc,.nilFunc,.nilFunc,.nilFunc,.nilFunc,.nilFunc,.nilFunc,.nilFunc,.nilFunc,.nilFunc,.nilFunc,.nilFunc,.nilFunc,.nilFunc,.nilFunc,.nilFunc,.nilFunc,.nilFunc,.nilFunc,.nilFunc,.nilFunc,.nilFunc,.nilFunc,.nilFunc,.int .i64 1,.int .i64 0,.string (tx k),.int .i64 0,.int .i64 0,.int .i64 v.k,.int .i64 v.n,.string (tx v.s),.int .i64 v.x,.int .i64 v.y,.int .i64 a.k,.int .i64 a.n,.string (tx a.s),.int .i64 a.x,.int .i64 a.y,.int .i64 0,.int .i64 0,.string ⟨#[]⟩,.int .i64 0,.int .i64 0,.int .i64 0,.int .i64 0,.string ⟨#[]⟩,.int .i64 0,.int .i64 0,.slice none 0 0,.int .i64 (m:Int)] 94)).cell? ⟨w3.heap.size,q,none⟩=some (bhv l q)):=fun q hq=>(World.cell?_alloc_past _ _ _ HL5.out).trans (HBH5.out q hq)
 have HS6:Hid ((w5.alloc (.cells #[.slice A l.length c,.slice (some ⟨w3.heap.size,0,none⟩) l.length l.length,.nilFunc,.nilFunc,.nilFunc,.nilFunc,.nilFunc,.nilFunc,.nilFunc,.nilFunc,.nilFunc,.nilFunc,.nilFunc,.nilFunc,.nilFunc,.nilFunc,.nilFunc,.nilFunc,.nilFunc,.nilFunc,.nilFunc,.nilFunc,.nilFunc,.nilFunc,.nilFunc,.nilFunc,.nilFunc,.nilFunc,.nilFunc,.nilFunc,.nilFunc,.nilFunc,.int .i64 1,.int .i64 0,.string (tx k),.int .i64 0,.int .i64 0,.int .i64 v.k,.int .i64 v.n,.string (tx v.s),.int .i64 v.x,.int .i64 v.y,.int .i64 a.k,.int .i64 a.n,.string (tx a.s),.int .i64 a.x,.int .i64 a.y,.int .i64 0,.int .i64 0,.string ⟨#[]⟩,.int .i64 0,.int .i64 0,.int .i64 0,.int .i64 0,.string ⟨#[]⟩,.int .i64 0,.int .i64 0,.slice none 0 0,.int .i64 (m:Int)] 94)).heap.size=w5.heap.size+1):=World.size_alloc _ _
 clear d0 d1 d2 d3 d4 d5 d6 d7 d8 d9 d10 f0 c0 f1 c1 f2 c2 f3 c3 f4 c4 f5 c5 f6 c6 f7 c7 f8 c8 f9 c9 f10 c10 HE5 HR5 HB5 HBH5 HE4 HR4 HB4 HBH4 HE3 HB3
 obtain ⟨w6,hw6⟩:∃ w6,w5.alloc (.cells #[.slice A l.length c,.slice (some ⟨w3.heap.size,0,none⟩) l.length l.length,.nilFunc,.nilFunc,.nilFunc,.nilFunc,.nilFunc,.nilFunc,.nilFunc,.nilFunc,.nilFunc,.nilFunc,.nilFunc,.nilFunc,.nilFunc,.nilFunc,.nilFunc,.nilFunc,.nilFunc,.nilFunc,.nilFunc,.nilFunc,.nilFunc,.nilFunc,.nilFunc,.nilFunc,.nilFunc,.nilFunc,.nilFunc,.nilFunc,.nilFunc,.nilFunc,.int .i64 1,.int .i64 0,.string (tx k),.int .i64 0,.int .i64 0,.int .i64 v.k,.int .i64 v.n,.string (tx v.s),.int .i64 v.x,.int .i64 v.y,.int .i64 a.k,.int .i64 a.n,.string (tx a.s),.int .i64 a.x,.int .i64 a.y,.int .i64 0,.int .i64 0,.string ⟨#[]⟩,.int .i64 0,.int .i64 0,.int .i64 0,.int .i64 0,.string ⟨#[]⟩,.int .i64 0,.int .i64 0,.slice none 0 0,.int .i64 (m:Int)] 94)=w6:=⟨_,rfl⟩
 rw [hw6] at HD6 HR6 HB6 HBH6 HS6
 rw [hw6]
 have h35:=HL5.out
 have hR3:=HR3.out.lt
 have hs6:=HS6.out
 clear HL5 HL4 HS6 hlt5 hw6
 have HKI:Hid (∀ w1,Calls Tryz.prog 55 #[.pointer (some ⟨w5.heap.size,0,none⟩)] w1 (Gives (.agg (dcl w5.heap.size).toArray) w1)):=fun w1=>kinds_any w5.heap.size w1
 have HOC:Hid ((dcl w5.heap.size).toArray.all (·.oneCell')=true):=by show _=_;simp [dcl,dl,dfn,Value.oneCell']
 obtain ⟨DC,hDC⟩:∃ DC,dcl w5.heap.size=DC:=⟨_,rfl⟩
 have HDC:=qq hDC
 rw [hDC] at HKI HOC
 have HDL:Hid (DC.length=30):=by show _=_;rw [← hDC];rfl
 clear hDC
 have HIN:Hid ((Tryz.prog.info? 92).map (·.size)=some DC.toArray.size):=by show _=_;rw [show DC.toArray.size=30 by simpa using HDL.out];kernel_rfl
 go_wp2_with fail
 refine (HKI.out _).mono ?_
 rintro e w7 ⟨rfl,hb⟩
 have HD7:=qq (HD6.out.next hb);have HR7:=qq (HR6.out.next hb);have HB7:=qq (Below.next HB6.out hb)
 have HBH7:Hid (∀ q,q<l.length→w7.cell? ⟨w3.heap.size,q,none⟩=some (bhv l q)):=fun q hq=>(hb.cell (p:=⟨w3.heap.size,q,none⟩) (show w3.heap.size<w6.heap.size by omega)).trans (HBH6.out q hq)
 have hlt7:=HD7.out.lt
 have HTH:Hid (w7.there w5.heap.size 2 DC.toArray.size):=by show World.there _ _ _ _;rw [show DC.toArray.size=30 by simpa using HDL.out];exact Blk.there HD7.out (o:=2) (n:=30) (show 32≤59 by decide)
 clear hb HD6 HR6 HB6 HBH6 HKI
 go_wp2_with (refine wpList_store_mid rfl 92 (.tmp 46) (.tmp 44) rfl w5.heap.size 2 DC.toArray (by simp [Act.eval]) (by simp [Act.eval]) HTH.out HIN.out HOC.out ?_)
 have HDCC:=HDC.out
 subst HDCC
 have hd8:Doer w A c w3.heap.size w5.heap.size l (S0 k v a) m (.slice none 0 0) (w7.setCells w5.heap.size 2 (dcl w5.heap.size)):=by
  rw [setCells_putL]
  refine ⟨below_puts _ _ HB7.out (by omega),by omega,by omega,by omega,(blk_puts (dcl w5.heap.size) 2 HD7.out (show 32≤59 by decide)).cast (dcz_dcs _ _ _ _ _ _ _ _),fun q hq=>?_,World.ownsRow_nil _ _ _ _,by simp [Value.ownBlock],by simp [Value.ownBlock]⟩
  rw [cell_puts_other (by omega)];exact HBH7.out q hq
 have hx8:Box w w5.heap.size w3.heap.size (.slice none 0 0) (w.heap.size+1) rz7 (w7.setCells w5.heap.size 2 (dcl w5.heap.size)):=by
  rw [setCells_putL]
  exact ⟨blk_puts_other (by omega) _ _ HR7.out,by omega,by omega,by simp [Value.ownBlock],by omega⟩
 have HRV2:=HRV.out
 unfold rEnv at HRV2
 simp only [Bool.and_eq_true,decide_eq_true_eq] at HRV2
 have HG8:Hid (Gd (S0 k v a) m):=⟨HRV2.1.1,HRV2.1.2,HRV2.2,(by show (-9007199254740992:Int)≤0∧(0:Int)≤9007199254740992;decide),rt_vz,Nat.zero_le _,hm⟩
 have HDO:Hid (Calls Tryz.prog 56 #[.pointer (some ⟨w5.heap.size,0,none⟩),.int .i64 0] (w7.setCells w5.heap.size 2 (dcl w5.heap.size)) (Dn (ev 25 l (S0 k v a) m) w A c w3.heap.size w5.heap.size l (.slice none 0 0) (w7.setCells w5.heap.size 2 (dcl w5.heap.size)))) :=
  do_any 25 w A c w3.heap.size w5.heap.size l (S0 k v a) m (.slice none 0 0) _ 0 [] ⟨HN.out,HK.out,HT.out,hlen⟩ hd8 HG8.out HX25.out (Nat.le_refl _)
 have HX8:=qq hx8
 clear hd8 hx8 HRV2 HD7 HR7 HB7 HBH7 HTH
 refine (HDO.out).mono ?_
 rintro e w9 ⟨u,x,S1,n1,ov1,rfl,ha,hd,hmv⟩
 have HA:=qq ha;have HD9:=qq hd;have HX9:=qq (HX8.out.mv hmv)
 clear ha hd hmv HX8 HDO
 have hRP:w.heap.size+1 ≠ w9.heap.size:=Nat.ne_of_lt HX9.out.blk.lt
 have hRb:w.heap.size+1 ≠ w5.heap.size:=HX9.out.nb
 have hbP:w5.heap.size ≠ w9.heap.size:=Nat.ne_of_lt HD9.out.lt
 obtain ⟨r0,r1,r2,r3,r4,r5,r6⟩:=ck7 HX9.out.blk
 have zr0:=HX9.out.blk.f 0 _ rfl;have zr1:=HX9.out.blk.f 1 _ rfl;have zr2:=HX9.out.blk.f 2 _ rfl;have zr3:=HX9.out.blk.f 3 _ rfl;have zr4:=HX9.out.blk.f 4 _ rfl;have zr5:=HX9.out.blk.f 5 _ rfl;have zr6:=HX9.out.blk.f 6 _ rfl
 have hltR:=HX9.out.blk.lt
 have hltb:=HD9.out.lt
 rcases HA.out.cases with ⟨hx0,hX⟩ | ⟨rfl,q,rfl,hX⟩
 · have HXX:Hid (rnX l k v a (m:Int)=.er x):=by show _=_;rw [HX.out,hX]
   have HX0:=qq hx0
   have hx1:(x == 0)=false:=by simpa using hx0
   have hx2:(x != 0)=true:=by simpa using hx0
   clear hx0 hX HA
   go_wp2_with fail
   have hx9:=(blk_puts rz7 0 HX9.out.blk (Nat.le_refl 7)).old (.cells u 28)
   have hb9:=(below_puts (B:=w.heap.size+1) rz7 0 HD9.out.fro (by omega)).alloc (by rw [size_puts];have:=HD9.out.fro.size;omega) (.cells u 28)
   change Blk _ _ rz7 at hx9
   clear r0 zr0 r1 zr1 r2 zr2 r3 zr3 r4 zr4 r5 zr5 r6 zr6
   change bodyPost _ _ _ _ _ ((putL w9 (w.heap.size+1) 0 rz7).alloc (.cells u 28))
   generalize (putL w9 (w.heap.size+1) 0 rz7).alloc (.cells u 28)=w11 at *
   have c0:=hx9.c 0 _ rfl;have c1:=hx9.c 1 _ rfl;have c2:=hx9.c 2 _ rfl;have c3:=hx9.c 3 _ rfl;have c4:=hx9.c 4 _ rfl;have c5:=hx9.c 5 _ rfl;have c6:=hx9.c 6 _ rfl
   refine bodyPost_ret (v:=.tuple #[.agg #[.int .i64 0,.int .i64 0,.string ⟨#[]⟩,.int .i64 0,.int .i64 0,.slice none 0 0,.int .i64 0],.int .i64 x]) (by simp [results,Tryz.results26,go_sem,c0,c1,c2,c3,c4,c5,c6]) rfl ⟨hb9,?_⟩
   rw [HXX.out];exact ⟨HX0.out,rfl⟩
 · have HXX:Hid (rnX l k v a (m:Int)=.ok u S1 n1):=by show _=_;rw [HX.out,hX]
   have hru:rt u=true:=(ev_good 25 (Nat.le_refl _) l [] HX25.out (S0 k v a) m u S1 n1 HG8.out hX).1
   have HOW:=qq (own_any u.k u.n u.x u.y (tx u.s) (by have:=(rt_all hru).2.1;have:=tx_size u.s;omega))
   obtain ⟨Ao,co,hov⟩:=own_slice HD9.out.out
   have g57:w9.cell? ⟨w5.heap.size,57,none⟩=some ov1:=HD9.out.blk.c 57 _ rfl
   have g58:w9.cell? ⟨w5.heap.size,58,none⟩=some (.int .i64 (n1:Int)):=HD9.out.blk.c 58 _ rfl
   have HPP:Hid (Blk (w9.alloc (.cells u 28)) w9.heap.size (vcl u)):=Blk.made w9 28 (vcl u) rfl
   clear hX HA hru
   subst hov
   go_wp2_with fail
   go_region_held3 (fun w'=>w'.cell? ⟨w9.heap.size,0,none⟩=some (.int .i64 u.k)∧w'.cell? ⟨w9.heap.size,1,none⟩=some (.int .i64 u.n)∧w'.cell? ⟨w9.heap.size,2,none⟩=some (.string (tx u.s))∧w'.cell? ⟨w9.heap.size,3,none⟩=some (.int .i64 u.x)∧w'.cell? ⟨w9.heap.size,4,none⟩=some (.int .i64 u.y)∧w'.cell? ⟨w5.heap.size,57,none⟩=some (.slice Ao S1.out.length co)∧w'.cell? ⟨w5.heap.size,58,none⟩=some (.int .i64 (n1:Int))) (go_keep)
    (first
    | (go_at_call 57
       refine (HOW.out _).mono ?_
       rintro e w10 ⟨rfl,hb⟩
       have HD10:=qq (((HD9.out.old (box1 w9 (.cells u 28))).old (below_drewN (Below.refl _ _) 1)).old hb);have HX10:=qq (((HX9.out.old (box1 w9 (.cells u 28))).old (below_drewN (Below.refl _ _) 1)).old hb);have HP10:=qq ((HPP.out.next (below_drewN (Below.refl _ _) 1)).next hb)
       obtain ⟨p0,p1,p2,p3,p4⟩:=ck5 HP10.out
       have t0:=HX10.out.blk.c 0 _ rfl;have t1:=HX10.out.blk.c 1 _ rfl;have t2:=HX10.out.blk.c 2 _ rfl;have t3:=HX10.out.blk.c 3 _ rfl;have t4:=HX10.out.blk.c 4 _ rfl;have t5:=HX10.out.blk.c 5 _ rfl;have t6:=HX10.out.blk.c 6 _ rfl
       have zt0:=HX10.out.blk.f 0 _ rfl;have zt1:=HX10.out.blk.f 1 _ rfl;have zt2:=HX10.out.blk.f 2 _ rfl;have zt3:=HX10.out.blk.f 3 _ rfl;have zt4:=HX10.out.blk.f 4 _ rfl;have zt5:=HX10.out.blk.f 5 _ rfl;have zt6:=HX10.out.blk.f 6 _ rfl
       have m57:w10.cell? ⟨w5.heap.size,57,none⟩=some (.slice Ao S1.out.length co):=HD10.out.blk.c 57 _ rfl
       have m58:w10.cell? ⟨w5.heap.size,58,none⟩=some (.int .i64 (n1:Int)):=HD10.out.blk.c 58 _ rfl
       have hlt10:=HX10.out.blk.lt;have hlb10:=HD10.out.lt;have hlp10:=HP10.out.lt
       clear hb))
   rename_i hHd
   clear hHd
   go_wp2_with fail
   have hx11:=HX10.out.puts [.int .i64 u.k,.int .i64 u.n,.string (tx u.s),.int .i64 u.x,.int .i64 u.y,.slice Ao S1.out.length co,.int .i64 (n1:Int)] rfl
   have hd11:=HD10.out.puts HX10.out 0 [.int .i64 u.k,.int .i64 u.n,.string (tx u.s),.int .i64 u.x,.int .i64 u.y,.slice Ao S1.out.length co,.int .i64 (n1:Int)]
   clear p0 p1 p2 p3 p4 t0 zt0 t1 zt1 t2 zt2 t3 zt3 t4 zt4 t5 zt5 t6 zt6 HX10 HD10 HP10
   change bodyPost _ _ _ _ _ (putL w10 (w.heap.size+1) 0 [.int .i64 u.k,.int .i64 u.n,.string (tx u.s),.int .i64 u.x,.int .i64 u.y,.slice Ao S1.out.length co,.int .i64 (n1:Int)])
   generalize putL w10 (w.heap.size+1) 0 [.int .i64 u.k,.int .i64 u.n,.string (tx u.s),.int .i64 u.x,.int .i64 u.y,.slice Ao S1.out.length co,.int .i64 (n1:Int)]=w11 at *
   have c0:=hx11.blk.c 0 _ rfl;have c1:=hx11.blk.c 1 _ rfl;have c2:=hx11.blk.c 2 _ rfl;have c3:=hx11.blk.c 3 _ rfl;have c4:=hx11.blk.c 4 _ rfl;have c5:=hx11.blk.c 5 _ rfl;have c6:=hx11.blk.c 6 _ rfl
   refine bodyPost_ret (v:=.tuple #[.agg #[.int .i64 u.k,.int .i64 u.n,.string (tx u.s),.int .i64 u.x,.int .i64 u.y,.slice Ao S1.out.length co,.int .i64 (n1:Int)],.int .i64 0]) (by simp [results,Tryz.results26,go_sem,c0,c1,c2,c3,c4,c5,c6]) rfl ⟨hd11.fro,?_⟩
   rw [HXX.out];exact ⟨Ao,co,hd11.out,rfl⟩
end Go.Proofs.YtgakcpcpfkoaiaaGreatDoor.Ev

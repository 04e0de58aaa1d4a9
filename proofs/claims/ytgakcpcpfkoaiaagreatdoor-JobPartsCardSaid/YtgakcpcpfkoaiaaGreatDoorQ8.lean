/-
  Small texts of this claim, together: EvDeed3, EvAll, ErApply, ErDoI, ErDoL.
-/
import Derived.Test.YtgakcpcpfkoaiaaGreatDoorQ1
import Derived.Test.YtgakcpcpfkoaiaaGreatDoorQEvDeed2
import Derived.Test.YtgakcpcpfkoaiaaGreatDoorQ5
import Derived.Deep.QuietTactic
import Derived.BigQuiet
import Derived.Test.YtgakcpcpfkoaiaaGreatDoorQEvDeed4
import Derived.Test.YtgakcpcpfkoaiaaGreatDoorQEvDeed5
import Derived.Test.YtgakcpcpfkoaiaaGreatDoorQEvDeed6
import Derived.Test.YtgakcpcpfkoaiaaGreatDoorQ7
import Derived.Test.YtgakcpcpfkoaiaaGreatDoorQEvDeed8
import Derived.Test.YtgakcpcpfkoaiaaGreatDoorQEvDeed9
import Derived.Test.YtgakcpcpfkoaiaaGreatDoorQ6
import Derived.Deep.MidRow
import Derived.Deep.WholeRow
import Derived.Test.YtgakcpcpfkoaiaaGreatDoorQErAp1
import Derived.Test.YtgakcpcpfkoaiaaGreatDoorQErAp6
import Derived.Test.YtgakcpcpfkoaiaaGreatDoorQErAp3
import Derived.Test.YtgakcpcpfkoaiaaGreatDoorQErAp4
import Derived.Test.YtgakcpcpfkoaiaaGreatDoorQErAp5
import Derived.Test.YtgakcpcpfkoaiaaGreatDoorQErDo
set_option maxHeartbeats 4000000
set_option maxRecDepth 100000
namespace Go.Proofs.YtgakcpcpfkoaiaaGreatDoor.Ev
open Go.ChangeShapes Go.WideShapes Go.ChangeAt Go.RowKit Ov Va Ga Ex
theorem deed_num {d:Nat} (HD:DoC (ev d) d):DeedC d 19 99:=by
 intro w0 A c E b l S n ov w k r hcx hd hg hkl ho hrn hx hd24
 have HBD:Hid (body (ev d) (nd l k) (l.drop (k+1)) S n=bnd (prt (ev d) [1] (l.drop (k+1))) (af 19) S n):=by show _=_;exact congrFun (congrFun (body_prt ho (by decide) (by decide) (by decide) (by decide) (by decide) (by decide)) S) n
 have HP:=qq (pre_any HD [1] (by decide) (by decide) (by decide) hcx hd hg hkl hx (by decide) hd24)
 clear hcx hd hg ho hrn hx hd24 HD
 go_enter Tryz.func99,Tryz.ntmps99
 go_wp2_with fail
 refine (HP.out).mono ?_
 rintro e w3 ⟨p0,p1,p2,x,S1,n1,ov1,rfl,ha,r0,r1,r2,hgd,hd3,hm3,hx3⟩
 have HA:=qq ha;have R0:=qq r0;have R1:=qq r1;have R2:=qq r2;have HG:=qq hgd;have HD3:=qq hd3;have HM3:=qq hm3;have HX3:=qq hx3
 have HPB:Hid (Box w0 b E ov1 w3.heap.size [.int .i64 p0.k,.int .i64 p0.n,.string (tx p0.s),.int .i64 p0.x,.int .i64 p0.y,.int .i64 p1.k,.int .i64 p1.n,.string (tx p1.s),.int .i64 p1.x,.int .i64 p1.y,.int .i64 p2.k,.int .i64 p2.n,.string (tx p2.s),.int .i64 p2.x,.int .i64 p2.y] (w3.alloc (.cells #[.int .i64 p0.k,.int .i64 p0.n,.string (tx p0.s),.int .i64 p0.x,.int .i64 p0.y,.int .i64 p1.k,.int .i64 p1.n,.string (tx p1.s),.int .i64 p1.x,.int .i64 p1.y,.int .i64 p2.k,.int .i64 p2.n,.string (tx p2.s),.int .i64 p2.x,.int .i64 p2.y] 137))):=Box.made hd3 (by omega) 137 [.int .i64 p0.k,.int .i64 p0.n,.string (tx p0.s),.int .i64 p0.x,.int .i64 p0.y,.int .i64 p1.k,.int .i64 p1.n,.string (tx p1.s),.int .i64 p1.x,.int .i64 p1.y,.int .i64 p2.k,.int .i64 p2.n,.string (tx p2.s),.int .i64 p2.x,.int .i64 p2.y]
 have hlZ:=hx3.blk.lt
 clear ha r0 r1 r2 hgd hd3 hm3 hx3 HP
 rcases HA.out.cases with ⟨hx0,hX⟩ | ⟨rfl,a,ha,hX⟩
 · have HX0:=qq hx0;have HXX:=qq hX
   have hx1:(x == 0)=false:=by simpa using hx0
   have hx2:(x != 0)=true:=by simpa using hx0
   clear hx0 hX HA 
   obtain ⟨c0,c1,c2,c3,c4,z0,z1,z2,z3,z4,hltX9⟩:=HX3.out.fiv
   go_wp2_with fail
   refine denda (P:=bodyPost _ _ _ _ _) HD3.out HM3.out HX3.out (Nat.le_refl _) _ _ _ _ _ ?_
   clear hltX9 c0 c1 c2 c3 c4 z0 z1 z2 z3 z4 HD3 HM3 HX3
   intro w9 hd9 hm9 c0 c1 c2 c3 c4
   refine bodyPost_ret (v:=.tuple #[.agg zz,.int .i64 x]) (by simp [results,Tryz.results99,go_sem,c0,c1,c2,c3,c4]) rfl ⟨vz,x,S1,n1,ov1,rfl,by rw [HBD.out];exact Ans.er (bnd_er HXX.out) rfl HX0.out,hd9,hm9⟩
 · have HXX:=qq hX;have HAA:=qq ha;have HGD:=qq (HG.out rfl)
   clear hX ha HA HG
   have h0:=(rt_all R0.out).2.1
   rw [← tx_size] at h0
   have HN:=qq (parse_any (tx p0.s))
   have HZ:Hid (numOf p0.s=if (pz p0.s).2.2=0∧(pz p0.s).2.1=p0.s.length∧(pz p0.s).1.k=0 then .inr (pz p0.s).1 else .inl 6):=qq rfl
   have hzl:(pz p0.s).2.2=0→(pz p0.s).2.1≤p0.s.length:=fun h=>by
    have:=pz_ok (l:=p0.s) (v:=(pz p0.s).1) (z:=(pz p0.s).2.1) (Prod.ext rfl (Prod.ext rfl h))
    have h1:=congrArg List.length this.2.1
    rw [List.length_append] at h1
    omega
   rw [tx_list] at HN
   generalize pz p0.s=r at *
   obtain ⟨v,z,ec⟩:=r
   unfold prv vv at HN
   dsimp only at HN HZ hzl
   have HZL:=qq hzl
   clear hzl
   go_wp2_with fail
   refine (HN.out _ (by omega)).mono ?_
   rintro e w4 ⟨rfl,hb⟩
   have HD4:=qq ((HD3.out.old (box1 w3 _)).old hb);have HM4:=qq ((HM3.out.old (box1 w3 _)).old hb);have HX4:=qq ((HX3.out.old (box1 w3 _)).old hb);have HPB4:=qq (HPB.out.old hb)
   clear hb HD3 HM3 HX3 HPB 
   obtain ⟨c0,c1,c2,c3,c4,z0,z1,z2,z3,z4,hltX9⟩:=HX4.out.fiv
   have q2:=HPB4.out.blk.c 2 _ rfl
   have hlz4:=HX4.out.blk.lt;have hpb4:=HPB4.out.blk.lt
   clear HPB4
   by_cases h1:ec=0
   · subst h1
     have he1:(((0:Nat):Int) != 0)=false:=by decide
     by_cases h2:z<(tx p0.s).size
     · have HCC:Hid (¬ ((0:Nat)=0∧z=p0.s.length∧v.k=0)):=by show ¬ _;rintro ⟨_,h,_⟩;rw [tx_size] at h2;omega
       have hd2:decide (z<(tx p0.s).size)=true:=decide_eq_true h2
       go_wp2_with fail
       refine denda (P:=bodyPost _ _ _ _ _) HD4.out HM4.out HX4.out (Nat.le_refl _) _ _ _ _ _ ?_
       clear hltX9 c0 c1 c2 c3 c4 z0 z1 z2 z3 z4 q2 HD4 HM4 HX4
       intro w9 hd9 hm9 c0 c1 c2 c3 c4
       refine bodyPost_ret (v:=.tuple #[.agg zz,.int .i64 6]) (by simp [results,Tryz.results99,go_sem,c0,c1,c2,c3,c4]) rfl ⟨vz,6,S1,n1,ov1,rfl,by rw [HBD.out];obtain ⟨rfl,rfl,rfl⟩:=HAA.out;exact Ans.er (by rw [bnd_ok HXX.out];show lift (numOf (at0 a).s) S1 n1=_;rw [HZ.out,if_neg HCC.out];rfl) rfl (by decide),hd9,hm9⟩
     · have hz1:z=p0.s.length:=by have:=HZL.out rfl;rw [tx_size] at h2;omega
       have hd2:decide (z<(tx p0.s).size)=false:=decide_eq_false h2
       by_cases h3:v.k=0
       · have h4:(v.k != 0)=false:=by simpa using h3
         have HCC:Hid ((0:Nat)=0∧z=p0.s.length∧v.k=0):=⟨rfl,hz1,h3⟩
         clear hz1 h3
         go_wp2_with fail
         refine denda (P:=bodyPost _ _ _ _ _) HD4.out HM4.out HX4.out (Nat.le_refl _) _ _ _ _ _ ?_
         clear hltX9 c0 c1 c2 c3 c4 z0 z1 z2 z3 z4 q2 HD4 HM4 HX4
         intro w9 hd9 hm9 c0 c1 c2 c3 c4
         refine bodyPost_ret (v:=.tuple #[.agg v,.int .i64 0]) (by simp [results,Tryz.results99,go_sem,c0,c1,c2,c3,c4]) rfl ⟨v,0,S1,n1,ov1,rfl,by rw [HBD.out];obtain ⟨rfl,rfl,rfl⟩:=HAA.out;exact Ans.ok (by rw [bnd_ok HXX.out];show lift (numOf (at0 a).s) S1 n1=_;rw [HZ.out,if_pos HCC.out];rfl) rfl,hd9,hm9⟩
       · have h4:(v.k != 0)=true:=by simpa using h3
         have HCC:Hid (¬ ((0:Nat)=0∧z=p0.s.length∧v.k=0)):=by show ¬ _;rintro ⟨_,_,h⟩;exact h3 h
         clear hz1 h3
         go_wp2_with fail
         refine denda (P:=bodyPost _ _ _ _ _) HD4.out HM4.out HX4.out (Nat.le_refl _) _ _ _ _ _ ?_
         clear hltX9 c0 c1 c2 c3 c4 z0 z1 z2 z3 z4 q2 HD4 HM4 HX4
         intro w9 hd9 hm9 c0 c1 c2 c3 c4
         refine bodyPost_ret (v:=.tuple #[.agg zz,.int .i64 6]) (by simp [results,Tryz.results99,go_sem,c0,c1,c2,c3,c4]) rfl ⟨vz,6,S1,n1,ov1,rfl,by rw [HBD.out];obtain ⟨rfl,rfl,rfl⟩:=HAA.out;exact Ans.er (by rw [bnd_ok HXX.out];show lift (numOf (at0 a).s) S1 n1=_;rw [HZ.out,if_neg HCC.out];rfl) rfl (by decide),hd9,hm9⟩
   · have he1:((ec:Int) != 0)=true:=by rw [bne_iff_ne];omega
     have HCC:Hid (¬ (ec=0∧z=p0.s.length∧v.k=0)):=by show ¬ _;rintro ⟨h,_⟩;exact h1 h
     go_wp2_with fail
     refine denda (P:=bodyPost _ _ _ _ _) HD4.out HM4.out HX4.out (Nat.le_refl _) _ _ _ _ _ ?_
     clear hltX9 c0 c1 c2 c3 c4 z0 z1 z2 z3 z4 q2 HD4 HM4 HX4
     intro w9 hd9 hm9 c0 c1 c2 c3 c4
     refine bodyPost_ret (v:=.tuple #[.agg zz,.int .i64 6]) (by simp [results,Tryz.results99,go_sem,c0,c1,c2,c3,c4]) rfl ⟨vz,6,S1,n1,ov1,rfl,by rw [HBD.out];obtain ⟨rfl,rfl,rfl⟩:=HAA.out;exact Ans.er (by rw [bnd_ok HXX.out];show lift (numOf (at0 a).s) S1 n1=_;rw [HZ.out,if_neg HCC.out];rfl) rfl (by decide),hd9,hm9⟩
theorem deeds_any {d:Nat} (HD:DoC (ev d) d):∀ o:Nat,o<30→DeedC d o dl[o]!
 | 0,_=>deed_value
 | 1,_=>deed_name
 | 2,_=>deed_add HD
 | 3,_=>deed_sub HD
 | 4,_=>deed_mul HD
 | 5,_=>deed_div HD
 | 6,_=>deed_mod HD
 | 7,_=>deed_neg HD
 | 8,_=>deed_less HD
 | 9,_=>deed_same HD
 | 10,_=>deed_not HD
 | 11,_=>deed_choose HD
 | 12,_=>deed_max HD
 | 13,_=>deed_min HD
 | 14,_=>deed_cat HD
 | 15,_=>deed_size HD
 | 16,_=>deed_cut HD
 | 17,_=>deed_word HD
 | 18,_=>deed_words HD
 | 19,_=>deed_num HD
 | 20,_=>deed_text HD
 | 21,_=>deed_spot HD
 | 22,_=>deed_re HD
 | 23,_=>deed_im HD
 | 24,_=>deed_norm HD
 | 25,_=>deed_conj HD
 | 26,_=>deed_emit HD
 | 27,_=>deed_then HD
 | 28,_=>deed_each HD
 | 29,_=>deed_let HD
 | n+30,h=>absurd h (by omega)
theorem do_any:∀ d:Nat,DoC (ev d) d
 | 0=>do_none
 | d+1=>do_step (deeds_any (do_any d))
theorem wpList_store_new {P:Program} {ops:Array Oper} {rest:List Oper} {op:Oper} {a:Act} {Q:Exit→Act→World→Prop} (hgd:op.guard=none) (ty:TypeId) (x y:Operand) (ho:op.op=.store ty x y) (w:World) (c c':Array Value)
 (hx:a.eval x=.pointer (some ⟨w.heap.size,0,none⟩)) (hy:a.eval y=.agg c') (hi:(P.info? ty).map (·.size)=some c'.size) (hs:c.size=c'.size) (h1:c'.all (·.oneCell')=true)
 (h:wpList P ops Q rest (a.put op.dst undef) (w.alloc (.cells c' ty))):wpList P ops Q (op :: rest) a (w.alloc (.cells c ty)) :=
 wpList_plain hgd fun K hK=>by
  unfold Oper.wp execOp
  simp only [ho,hx,hy,Instr.storeAt,Instr.sureAddr,Sem.run_bind,Sem.run_pure,Result.andThen_ok,run_storeVar_new w ty c c' hi hs h1]
  exact hK _ _ h
theorem kinds_any (b:Nat) (w:World):Calls Tryz.prog 55 #[.pointer (some ⟨b,0,none⟩)] w (Gives (.agg #[.func (.func 80) #[.pointer (some ⟨b,0,none⟩)] #[],.func (.func 81) #[.pointer (some ⟨b,0,none⟩)] #[],.func (.func 82) #[.pointer (some ⟨b,0,none⟩)] #[],.func (.func 83) #[.pointer (some ⟨b,0,none⟩)] #[],.func (.func 84) #[.pointer (some ⟨b,0,none⟩)] #[],.func (.func 85) #[.pointer (some ⟨b,0,none⟩)] #[],.func (.func 86) #[.pointer (some ⟨b,0,none⟩)] #[],.func (.func 87) #[.pointer (some ⟨b,0,none⟩)] #[],.func (.func 88) #[.pointer (some ⟨b,0,none⟩)] #[],.func (.func 89) #[.pointer (some ⟨b,0,none⟩)] #[],.func (.func 90) #[.pointer (some ⟨b,0,none⟩)] #[],.func (.func 91) #[.pointer (some ⟨b,0,none⟩)] #[],.func (.func 92) #[.pointer (some ⟨b,0,none⟩)] #[],.func (.func 93) #[.pointer (some ⟨b,0,none⟩)] #[],.func (.func 94) #[.pointer (some ⟨b,0,none⟩)] #[],.func (.func 95) #[.pointer (some ⟨b,0,none⟩)] #[],.func (.func 96) #[.pointer (some ⟨b,0,none⟩)] #[],.func (.func 97) #[.pointer (some ⟨b,0,none⟩)] #[],.func (.func 98) #[.pointer (some ⟨b,0,none⟩)] #[],.func (.func 99) #[.pointer (some ⟨b,0,none⟩)] #[],.func (.func 100) #[.pointer (some ⟨b,0,none⟩)] #[],.func (.func 101) #[.pointer (some ⟨b,0,none⟩)] #[],.func (.func 102) #[.pointer (some ⟨b,0,none⟩)] #[],.func (.func 103) #[.pointer (some ⟨b,0,none⟩)] #[],.func (.func 104) #[.pointer (some ⟨b,0,none⟩)] #[],.func (.func 105) #[.pointer (some ⟨b,0,none⟩)] #[],.func (.func 106) #[.pointer (some ⟨b,0,none⟩)] #[],.func (.func 107) #[.pointer (some ⟨b,0,none⟩)] #[],.func (.func 108) #[.pointer (some ⟨b,0,none⟩)] #[],.func (.func 109) #[.pointer (some ⟨b,0,none⟩)] #[]]) w):=by
 have hmf:∀ (fn:Fn) (first cap:Array Value) (w:World),(Instr.makeFunc fn first cap).run Tryz.prog w=.ok (.func fn first cap) w:=fun _ _ _ _=>rfl
 go_enter Tryz.func55,Tryz.ntmps55
 go_wp2_with (refine wpList_store_new rfl 92 (.tmp 2) (.tmp 63) rfl w _ #[.func (.func 80) #[.pointer (some ⟨b,0,none⟩)] #[],.func (.func 81) #[.pointer (some ⟨b,0,none⟩)] #[],.func (.func 82) #[.pointer (some ⟨b,0,none⟩)] #[],.func (.func 83) #[.pointer (some ⟨b,0,none⟩)] #[],.func (.func 84) #[.pointer (some ⟨b,0,none⟩)] #[],.func (.func 85) #[.pointer (some ⟨b,0,none⟩)] #[],.func (.func 86) #[.pointer (some ⟨b,0,none⟩)] #[],.func (.func 87) #[.pointer (some ⟨b,0,none⟩)] #[],.func (.func 88) #[.pointer (some ⟨b,0,none⟩)] #[],.func (.func 89) #[.pointer (some ⟨b,0,none⟩)] #[],.func (.func 90) #[.pointer (some ⟨b,0,none⟩)] #[],.func (.func 91) #[.pointer (some ⟨b,0,none⟩)] #[],.func (.func 92) #[.pointer (some ⟨b,0,none⟩)] #[],.func (.func 93) #[.pointer (some ⟨b,0,none⟩)] #[],.func (.func 94) #[.pointer (some ⟨b,0,none⟩)] #[],.func (.func 95) #[.pointer (some ⟨b,0,none⟩)] #[],.func (.func 96) #[.pointer (some ⟨b,0,none⟩)] #[],.func (.func 97) #[.pointer (some ⟨b,0,none⟩)] #[],.func (.func 98) #[.pointer (some ⟨b,0,none⟩)] #[],.func (.func 99) #[.pointer (some ⟨b,0,none⟩)] #[],.func (.func 100) #[.pointer (some ⟨b,0,none⟩)] #[],.func (.func 101) #[.pointer (some ⟨b,0,none⟩)] #[],.func (.func 102) #[.pointer (some ⟨b,0,none⟩)] #[],.func (.func 103) #[.pointer (some ⟨b,0,none⟩)] #[],.func (.func 104) #[.pointer (some ⟨b,0,none⟩)] #[],.func (.func 105) #[.pointer (some ⟨b,0,none⟩)] #[],.func (.func 106) #[.pointer (some ⟨b,0,none⟩)] #[],.func (.func 107) #[.pointer (some ⟨b,0,none⟩)] #[],.func (.func 108) #[.pointer (some ⟨b,0,none⟩)] #[],.func (.func 109) #[.pointer (some ⟨b,0,none⟩)] #[]] (by simp [Act.eval]) (by simp [Act.eval]) (by kernel_rfl) rfl (by simp [Value.oneCell']) ?_)
 go_wp2_with fail
 refine bodyPost_ret (results_cell_row Tryz.results55 _ _ w.heap.size _ _ _ _ rfl (heap_alloc_last w _) Tryz.underlying92 rfl (by kernel_rfl)) rfl ⟨rfl,?_⟩
 exact box1 w _
def ecl (k:List UInt8) (v a:Va):List Value:=.string (tx k) :: (vcl v++vcl a)
def rEnv (k:List UInt8) (v a:Va):Bool:=decide (k.length≤4096) && rt v && rt a
theorem right_va (v:Va) (w:World):Calls Tryz.prog 13 #[.agg v] w (Gives (.bool (rt v)) w):=by
 have h:=right_val v.k v.n v.x v.y (tx v.s) w
 rw [tx_list] at h
 exact h
theorem renv_any (k:List UInt8) (v a:Va) (w:World):Calls Tryz.prog 52 #[.agg #[.string (tx k),.int .i64 v.k,.int .i64 v.n,.string (tx v.s),.int .i64 v.x,.int .i64 v.y,.int .i64 a.k,.int .i64 a.n,.string (tx a.s),.int .i64 a.x,.int .i64 a.y]] w (Gives (.bool (rEnv k v a)) w):=by
 have hsz:=tx_size k
 have h1:Blk (w.alloc (.cells #[.string (tx k),.int .i64 v.k,.int .i64 v.n,.string (tx v.s),.int .i64 v.x,.int .i64 v.y,.int .i64 a.k,.int .i64 a.n,.string (tx a.s),.int .i64 a.x,.int .i64 a.y] 64)) w.heap.size (ecl k v a):=Blk.made w 64 (ecl k v a) rfl
 have hb1:=box1 w (.cells #[.string (tx k),.int .i64 v.k,.int .i64 v.n,.string (tx v.s),.int .i64 v.x,.int .i64 v.y,.int .i64 a.k,.int .i64 a.n,.string (tx a.s),.int .i64 a.x,.int .i64 a.y] 64)
 have H1:=qq h1;have HB1:=qq hb1;have HV:=qq (right_va v);have HA:=qq (right_va a)
 clear h1 hb1
 by_cases hk:(tx k).size≤4096
 · have HE:Hid (rEnv k v a=(rt v && rt a)):=by show _=_;unfold rEnv;rw [show decide (k.length≤4096)=true from decide_eq_true (by omega)];rfl
   rcases Bool.eq_false_or_eq_true (rt v) with hv | hv
   · rw [hv] at HV HE
     go_enter Tryz.func52,Tryz.ntmps52
     go_wp2_with fail
     refine (HV.out _).mono ?_
     rintro e w2 ⟨rfl,hb⟩
     have H2:=qq (H1.out.next hb);have HB2:=qq (Below.next HB1.out hb)
     have c6:=H2.out.c 6 _ rfl;have c7:=H2.out.c 7 _ rfl;have c8:=H2.out.c 8 _ rfl;have c9:=H2.out.c 9 _ rfl;have c10:=H2.out.c 10 _ rfl
     clear hb H1 HB1
     go_wp2_with fail
     refine (HA.out _).mono ?_
     rintro e w3 ⟨rfl,hb⟩
     have HB3:=qq (Below.next HB2.out hb)
     clear hb H2 HB2 c6 c7 c8 c9 c10
     go_wp2_with fail
     go_ret
     exact ⟨by rw [HE.out];simp,HB3.out⟩
   · rw [hv] at HV HE
     go_enter Tryz.func52,Tryz.ntmps52
     go_wp2_with fail
     refine (HV.out _).mono ?_
     rintro e w2 ⟨rfl,hb⟩
     have HB2:=qq (Below.next HB1.out hb)
     clear hb H1 HB1
     go_wp2_with fail
     go_ret
     exact ⟨by rw [HE.out];simp,HB2.out⟩
 · have HE:Hid (rEnv k v a=false):=by show _=_;unfold rEnv;rw [show decide (k.length≤4096)=false from decide_eq_false (by omega)];rfl
   go_enter Tryz.func52,Tryz.ntmps52
   go_wp2_with fail
   go_ret
   exact ⟨by rw [HE.out];rfl,HB1.out⟩
theorem len_one {vs:List Va} (h:vs.length=1):∃ p,vs=[p]:=List.length_eq_one_iff.1 h
theorem len_two {vs:List Va} (h:vs.length=2):∃ p q,vs=[p,q]:=by
 match vs,h with
 | [p,q],_=>exact ⟨p,q,rfl⟩
theorem len_three {vs:List Va} (h:vs.length=3):∃ p q r,vs=[p,q,r]:=by
 match vs,h with
 | [p,q,r],_=>exact ⟨p,q,r,rfl⟩
theorem mapply_any {w0:World} {A:Option Addr} {c E b n L cap:Nat} {l:List No} {S:St} {ov:Value} {w:World} {o:Int} {vs:List Va} (ho:2≤o∧o≤27) (h11:o ≠ 11) (hlen:vs.length=pa o) (hr:AllR vs) (hgo:S.out.length≤64) (hv:Vs w L vs) (hd:Mac w0 A c E b l S n 0 ov w) (hl:0<l.length) :
 Calls Tryz.prog 114 #[.pointer (some ⟨b,0,none⟩),.string (tx (wd o)),.slice (some ⟨L,0,none⟩) vs.length cap] w (Rn (ap o vs S n) w0 A c E b l ov w):=by
 have h:o=2∨o=3∨o=4∨o=5∨o=6∨o=7∨o=8∨o=9∨o=10∨o=12∨o=13∨o=14∨o=15∨o=16∨o=17∨o=18∨o=19∨o=20∨o=21∨o=22∨o=23∨o=24∨o=25∨o=26∨o=27:=by omega
 rcases h with rfl | rfl | rfl | rfl | rfl | rfl | rfl | rfl | rfl | rfl | rfl | rfl | rfl | rfl | rfl | rfl | rfl | rfl | rfl | rfl | rfl | rfl | rfl | rfl | rfl
 · obtain ⟨p,q,rfl⟩:=len_two hlen
   exact map_add p q (hr p (by simp)) (hr q (by simp)) hv hd hl
 · obtain ⟨p,q,rfl⟩:=len_two hlen
   exact map_sub p q (hr p (by simp)) (hr q (by simp)) hv hd hl
 · obtain ⟨p,q,rfl⟩:=len_two hlen
   exact map_mul p q (hr p (by simp)) (hr q (by simp)) hv hd hl
 · obtain ⟨p,q,rfl⟩:=len_two hlen
   exact map_div p q (hr p (by simp)) (hr q (by simp)) hv hd hl
 · obtain ⟨p,q,rfl⟩:=len_two hlen
   exact map_mod p q (hr p (by simp)) (hr q (by simp)) hv hd hl
 · obtain ⟨p,rfl⟩:=len_one hlen
   exact map_neg p (hr p (by simp)) hv hd hl
 · obtain ⟨p,q,rfl⟩:=len_two hlen
   exact map_less p q (hr p (by simp)) (hr q (by simp)) hv hd hl
 · obtain ⟨p,q,rfl⟩:=len_two hlen
   exact map_same p q (hr p (by simp)) (hr q (by simp)) hv hd hl
 · obtain ⟨p,rfl⟩:=len_one hlen
   exact map_not p (hr p (by simp)) hv hd hl
 · obtain ⟨p,q,rfl⟩:=len_two hlen
   exact map_max p q (hr p (by simp)) (hr q (by simp)) hv hd hl
 · obtain ⟨p,q,rfl⟩:=len_two hlen
   exact map_min p q (hr p (by simp)) (hr q (by simp)) hv hd hl
 · obtain ⟨p,q,rfl⟩:=len_two hlen
   exact map_cat p q (hr p (by simp)) (hr q (by simp)) hv hd hl
 · obtain ⟨p,rfl⟩:=len_one hlen
   exact map_len p (hr p (by simp)) hv hd hl
 · obtain ⟨p,q,r,rfl⟩:=len_three hlen
   exact map_cut p q r (hr p (by simp)) (hr q (by simp)) (hr r (by simp)) hv hd hl
 · obtain ⟨p,q,rfl⟩:=len_two hlen
   exact map_word p q (hr p (by simp)) (hr q (by simp)) hv hd hl
 · obtain ⟨p,rfl⟩:=len_one hlen
   exact map_words p (hr p (by simp)) hv hd hl
 · obtain ⟨p,rfl⟩:=len_one hlen
   exact map_num p (hr p (by simp)) hv hd hl
 · obtain ⟨p,rfl⟩:=len_one hlen
   exact map_text p (hr p (by simp)) hv hd hl
 · obtain ⟨p,q,rfl⟩:=len_two hlen
   exact map_at p q (hr p (by simp)) (hr q (by simp)) hv hd hl
 · obtain ⟨p,rfl⟩:=len_one hlen
   exact map_re p (hr p (by simp)) hv hd hl
 · obtain ⟨p,rfl⟩:=len_one hlen
   exact map_im p (hr p (by simp)) hv hd hl
 · obtain ⟨p,rfl⟩:=len_one hlen
   exact map_norm p (hr p (by simp)) hv hd hl
 · obtain ⟨p,rfl⟩:=len_one hlen
   exact map_conj p (hr p (by simp)) hv hd hl
 · obtain ⟨p,q,rfl⟩:=len_two hlen
   exact map_emit p q (hr p (by simp)) (hr q (by simp)) hgo hv hd hl
 · obtain ⟨p,q,rfl⟩:=len_two hlen
   exact map_then p q (hr p (by simp)) (hr q (by simp)) hv hd hl
theorem md_if {d:Nat} (H:MoC (ev d) d):MdC d 11:=by
 intro w0 A c E b l S n ov w k r hcx hd hg hkl ho hrn hx hd24
 have hl:=hcx.len
 have hn5:=hg.fuel
 have hl0:Hid (0<l.length):=show 0<l.length by omega
 obtain ⟨B,O,hA⟩:=hcx.nds.shape (by omega)
 have HCX:=qq hcx
 have hx3:=hx
 rw [show pa 11=2+1 from rfl,it_succ] at hx3
 obtain ⟨r1,x1,hx3⟩:=Option.bind_eq_some_iff.1 hx3
 obtain ⟨g1,g2,g3⟩:=ex_drop_len x1 (by omega)
 obtain ⟨y1,hy1⟩:∃ y1,l.length - r1.length=y1:=⟨_,rfl⟩
 rw [hy1] at g1 g2
 rw [g1] at hx3
 have hy1l:y1≤l.length:=by omega
 have hk1:k+1<l.length:=by omega
 have HB1:Hid (l.length - (nx (l.drop (k+1))).length=y1):=by show _=_;rw [nx_of x1 (by omega)];exact hy1
 have HN1:Hid (nx (l.drop (k+1))=l.drop y1):=by show _=_;rw [nx_of x1 (by omega)];exact g1
 have HC1:=qq (fun S1 n1 ov1 w3 hd3 hg3=>H w0 A c E b l S1 n1 ov1 w3 (k+1) r1 hcx hd3 hg3 x1 (by omega))
 have HGE:=qq (ev_good d (by omega) _ _ x1)
 rw [it_succ] at hx3
 obtain ⟨r2,x2,hx4⟩:=Option.bind_eq_some_iff.1 hx3
 obtain ⟨g4,g5,g6⟩:=ex_drop_len x2 hy1l
 have hy1n:y1<l.length:=by omega
 have HC2:=qq (fun S1 n1 ov1 w3 hd3 hg3=>H w0 A c E b l S1 n1 ov1 w3 y1 r2 hcx hd3 hg3 x2 (by omega))
 have HGE2:=qq (fun S1 n1 v S2 n2 hg1 h=>ev_good d (by omega) _ _ x2 S1 n1 v S2 n2 hg1 h)
 obtain ⟨y2,hy2⟩:∃ y2,l.length - r2.length=y2:=⟨_,rfl⟩
 rw [hy2] at g4 g5
 rw [it_succ] at hx4
 obtain ⟨r3,x3,hx5⟩:=Option.bind_eq_some_iff.1 hx4
 rw [g4] at x3
 have HB2:Hid (l.length - (nx (l.drop y1)).length=y2):=by show _=_;rw [nx_of x2 (by omega)];exact hy2
 have HN2:Hid (nx (l.drop y1)=l.drop y2):=by show _=_;rw [nx_of x2 (by omega)];exact g4
 have HC3:=qq (fun S1 n1 ov1 w3 hd3 hg3=>H w0 A c E b l S1 n1 ov1 w3 y2 r3 hcx hd3 hg3 x3 (by omega))
 clear x3 hx5 hy2
 clear g1 g2 g3 g4 g5 g6 hy1 x1 x2 hx3 hx4 hx H
 have HA0:=qq hA
 have e21:w.cell? ⟨b,21,none⟩=some (.int .i64 0):=hd.blk.c 21 _ rfl
 have e20:w.cell? ⟨b,20,none⟩=some (.int .i64 ((n:Int)+1)):=hd.blk.c 20 _ rfl
 have f20:=hd.blk.f 20 _ rfl
 have hltb:=hd.lt
 obtain ⟨w1,hw1,hd1,hm1,hbX,hsz⟩:=mdo_pre hd hl0.out
 have hnw:=hcx.nds.next hd1.fro
 rw [hA] at hnw
 obtain ⟨vk,vn,vs,vx,vy,hv⟩:∃ vk vn vs vx vy,(nd l k).v=⟨vk,vn,vs,vx,vy⟩:=⟨_,_,_,_,_,rfl⟩
 obtain ⟨nd1,hnd⟩:∃ N,nd l k=N:=⟨_,rfl⟩
 have j0:w1.cell? ⟨B,O+k * 6,none⟩=some (.int .i64 11):=by
  have h:=hnw.cell hkl 0 _ rfl
  rw [ho] at h;exact h
 have j1:w1.cell? ⟨B,O+k * 6+1,none⟩=some (.int .i64 vk):=by
  have h:=hnw.cell hkl 1 _ rfl
  rw [hv] at h;exact h
 have j2:w1.cell? ⟨B,O+k * 6+2,none⟩=some (.int .i64 vn):=by
  have h:=hnw.cell hkl 2 _ rfl
  rw [hv] at h;exact h
 have j3:w1.cell? ⟨B,O+k * 6+3,none⟩=some (.string (tx vs)):=by
  have h:=hnw.cell hkl 3 _ rfl
  rw [hv] at h;exact h
 have j4:w1.cell? ⟨B,O+k * 6+4,none⟩=some (.int .i64 vx):=by
  have h:=hnw.cell hkl 4 _ rfl
  rw [hv] at h;exact h
 have j5:w1.cell? ⟨B,O+k * 6+5,none⟩=some (.int .i64 vy):=by
  have h:=hnw.cell hkl 5 _ rfl
  rw [hv] at h;exact h
 have hBl:B<w1.heap.size:=block_lt_of_cell j0
 have i0:w1.cell? ⟨b,0,none⟩=some (.slice (some ⟨B,O,none⟩) l.length c):=by rw [← hA];exact hd1.blk.c 0 _ rfl
 have HD1:=qq hd1;have HM1:=qq hm1;have HX1:=qq hbX;have HW1:=qq hw1;have HSZ:=qq hsz;have HG:=qq (gd_less hg);have HO:=qq ho;have HR:=qq hrn;have HV:=qq hv;have HK:=qq hkl
 clear hcx hd hg ho hrn hv hw1 hd1 hm1 hbX hsz hnw hnd hA
 go_enter Tryz.func61,Tryz.ntmps61
 go_upto_region 6 with fail
 rw [HW1.out]
 clear e21 e20 f20 HW1
 have hbN:=Box.makeM HD1.out hl0.out 46 [.int .i64 11,.int .i64 vk,.int .i64 vn,.string (tx vs),.int .i64 vx,.int .i64 vy]
 have hb:=box1 w1 (.cells #[.int .i64 11,.int .i64 vk,.int .i64 vn,.string (tx vs),.int .i64 vx,.int .i64 vy] 46)
 obtain ⟨w2,hw2⟩:∃ w2,w1.alloc (.cells #[.int .i64 11,.int .i64 vk,.int .i64 vn,.string (tx vs),.int .i64 vx,.int .i64 vy] 46)=w2:=⟨_,rfl⟩
 rw [show w1.alloc (.cells [.int .i64 11,.int .i64 vk,.int .i64 vn,.string (tx vs),.int .i64 vx,.int .i64 vy].toArray 46)=w2 from hw2] at hbN
 rw [hw2] at hb
 have HW2:=qq hw2;have HN2:=qq hbN
 clear hw2 hbN
 have HD2:=qq (HD1.out.old hb)
 have HM2:=qq (HM1.out.old hb)
 have HX2:=qq (HX1.out.old hb)
 clear hb HD1 HM1 HX1  
 have HRES:Hid (body (ev d) (nd l k) (l.drop (k+1)) S n=bnd (ev d (l.drop (k+1))) (fun a=>if a.k ≠ 0 then fail 13 else if a.n=0 then ev d (nx (nx (l.drop (k+1)))) else ev d (nx (l.drop (k+1)))) S n):=by
  show _=_
  unfold body
  rw [if_neg (by rw [HO.out];decide),if_neg (by rw [HO.out];decide),if_pos HO.out]
 have qN0:=HN2.out.blk.c 0 _ rfl
 go_wp2_with fail
 rw [HW2.out]
 clear HW2 j0 j1 j2 j3 j4 j5 i0 hBl
 refine (word_11 _).mono ?_
 rintro e w3 ⟨rfl,hb⟩
 have HD3:=qq (HD2.out.old hb)
 have HM3:=qq (HM2.out.old hb)
 have HX3:=qq (HX2.out.old hb)
 have HN3:=qq (HN2.out.old hb)
 clear hb HD2 HM2 HX2 HN2 qN0 
 have HCC:=qq (HC1.out S n ov w3 HD3.out HG.out)
 go_wp2_with fail
 refine (HCC.out).mono ?_
 rintro e w4 ⟨u,x,S1,n1,ov1,rfl,hans,hz,hd3,hm3⟩
 have HA:=qq hans;have HZ:=qq hz;have HD4:=qq hd3;have HM4:=qq (HM3.out.trans hm3);have HX4:=qq (HX3.out.mv hm3);have HN4:=qq (HN3.out.mv hm3)
 clear hans hz hd3 hm3 HD3 HM3 HX3 HN3  HCC HC1
 obtain ⟨XX,hXX⟩:∃ XX,ev d (l.drop (k+1)) S n=XX:=⟨_,rfl⟩
 have HXX:=qq hXX
 rw [hXX] at HA
 clear hXX
 have hbV:=Box.makeM HD4.out hl0.out 28 u
 have hb:=box1 w4 (.cells u 28)
 obtain ⟨w5,hw5⟩:∃ w5,w4.alloc (.cells u 28)=w5:=⟨_,rfl⟩
 rw [show w4.alloc (.cells u 28)=w5 from hw5] at hbV
 rw [hw5] at hb
 have HW5:=qq hw5;have HV5:=qq hbV
 clear hw5 hbV
 have HD5:=qq (HD4.out.old hb)
 have HM5:=qq (HM4.out.old hb)
 have HX5:=qq (HX4.out.old hb)
 have HN5:=qq (HN4.out.old hb)
 clear hb HD4 HM4 HX4 HN4  
 go_upto_region 22 with fail
 rw [HW5.out]
 clear HW5 
 have hltb5:=HD5.out.lt
 have m21:w5.cell? ⟨b,21,none⟩=some (.int .i64 x):=HD5.out.blk.c 21 _ rfl
 rcases HA.out.cases with ⟨hx0,hX⟩ | ⟨rfl,a,rfl,hX⟩
 · have HX0:=qq hx0
   have hx1:(x != 0)=true:=by simpa using hx0
   have HRE:Hid (body (ev d) (nd l k) (l.drop (k+1)) S n=.er x):=by show _=_;rw [HRES.out];exact bnd_er (by rw [HXX.out,hX])
   clear hx0 hX HA
   obtain ⟨cX0,cX1,cX2,cX3,cX4,zX0,zX1,zX2,zX3,zX4,hltX⟩:=HX5.out.five
   go_wp2_with fail
   refine mend (P:=bodyPost _ _ _ _ _) HD5.out HM5.out HX5.out (by omega) _ _ _ _ _ ?_
   clear HD5 HM5 HX5 HN5 HV5 m21 cX0 cX1 cX2 cX3 cX4 zX0 zX1 zX2 zX3 zX4
   intro w9 hd9 hm9 c0 c1 c2 c3 c4
   refine bodyPost_ret (v:=.agg zz) (by simp [results,Tryz.results61,go_sem,c0,c1,c2,c3,c4]) rfl ⟨vz,x,S1,n1,ov1,rfl,Ans.er HRE.out rfl HX0.out,fun _=>rfl,hd9,hm9⟩
 · have HU:Hid (ev d (l.drop (k+1)) S n=.ok u S1 n1):=by show _=_;rw [HXX.out,hX]
   obtain ⟨hu1,hg1⟩:=HGE.out S n u S1 n1 HG.out HU.out
   have HU1:=qq hu1;have HG1:=qq hg1
   clear hX HA hu1 hg1 HGE HXX
   have m1:w5.cell? ⟨b,1,none⟩=some (.slice (some ⟨E,0,none⟩) l.length l.length):=HD5.out.blk.c 1 _ rfl
   have b2:w5.cell? ⟨E,k+1,none⟩=some (.int .i64 (y1:Int)):=by have h:=HD5.out.beh (k+1) hk1;rw [HB1.out] at h;exact h
   have hlE:=HD5.out.ltE (by omega)
   have qV0:=HV5.out.blk.c 0 _ rfl
   have qV1:=HV5.out.blk.c 1 _ rfl
   by_cases hk:u.k=0
   · have hk1:(u.k != 0)=false:=by simpa using hk
     by_cases hz:u.n=0
     · have hz1:(u.n == 0)=true:=by simpa using hz
       have HRE:Hid (body (ev d) (nd l k) (l.drop (k+1)) S n=ev d (l.drop y2) S1 n1):=by
        show _=_
        rw [HRES.out,bnd_ok HU.out,HN1.out,if_neg (fun e=>e hk),if_pos hz,HN2.out]
       clear hk hz
       have b3:w5.cell? ⟨E,y1,none⟩=some (.int .i64 (y2:Int)):=by have h:=HD5.out.beh y1 hy1n;rw [HB2.out] at h;exact h
       have HCC:=qq (HC3.out S1 n1 ov1 w5 HD5.out HG1.out)
       go_wp2_with fail
       refine (HCC.out).mono ?_
       rintro e w6 ⟨v,x,S2,n2,ov2,rfl,hans,hz,hd3,hm3⟩
       have HAN:=qq hans;have HZ:=qq hz;have HD6:=qq hd3;have HM6:=qq (HM5.out.trans hm3);have HX6:=qq (HX5.out.mv hm3)
       clear hans hz hd3 hm3 HCC HD5 HM5 HX5 HN5 HV5 m21 m1 b2 hlE qV0 qV1 b3
       obtain ⟨cX0,cX1,cX2,cX3,cX4,zX0,zX1,zX2,zX3,zX4,hltX⟩:=HX6.out.five
       go_wp2_with fail
       refine mend (P:=bodyPost _ _ _ _ _) HD6.out HM6.out HX6.out (by omega) _ _ _ _ _ ?_
       clear HD6 HM6 HX6 cX0 cX1 cX2 cX3 cX4 zX0 zX1 zX2 zX3 zX4
       intro w9 hd9 hm9 c0 c1 c2 c3 c4
       refine bodyPost_ret (v:=.agg v) (by simp [results,Tryz.results61,go_sem,c0,c1,c2,c3,c4]) rfl ⟨v,x,S2,n2,ov2,rfl,by rw [HRE.out];exact HAN.out,HZ.out,hd9,hm9⟩
     · have hz1:(u.n == 0)=false:=by simpa using hz
       have HRE:Hid (body (ev d) (nd l k) (l.drop (k+1)) S n=ev d (l.drop y1) S1 n1):=by
        show _=_
        rw [HRES.out,bnd_ok HU.out,HN1.out,if_neg (fun e=>e hk),if_neg hz]
       clear hk hz
       have HCC:=qq (HC2.out S1 n1 ov1 w5 HD5.out HG1.out)
       go_wp2_with fail
       refine (HCC.out).mono ?_
       rintro e w6 ⟨v,x,S2,n2,ov2,rfl,hans,hz,hd3,hm3⟩
       have HAN:=qq hans;have HZ:=qq hz;have HD6:=qq hd3;have HM6:=qq (HM5.out.trans hm3);have HX6:=qq (HX5.out.mv hm3)
       clear hans hz hd3 hm3 HCC HD5 HM5 HX5 HN5 HV5 m21 m1 b2 hlE qV0 qV1
       obtain ⟨cX0,cX1,cX2,cX3,cX4,zX0,zX1,zX2,zX3,zX4,hltX⟩:=HX6.out.five
       go_wp2_with fail
       refine mend (P:=bodyPost _ _ _ _ _) HD6.out HM6.out HX6.out (by omega) _ _ _ _ _ ?_
       clear HD6 HM6 HX6 cX0 cX1 cX2 cX3 cX4 zX0 zX1 zX2 zX3 zX4
       intro w9 hd9 hm9 c0 c1 c2 c3 c4
       refine bodyPost_ret (v:=.agg v) (by simp [results,Tryz.results61,go_sem,c0,c1,c2,c3,c4]) rfl ⟨v,x,S2,n2,ov2,rfl,by rw [HRE.out];exact HAN.out,HZ.out,hd9,hm9⟩
   · have hk1:(u.k != 0)=true:=by simpa using hk
     have HRE:Hid (body (ev d) (nd l k) (l.drop (k+1)) S n=.er 13):=by show _=_;rw [HRES.out,bnd_ok HU.out,if_pos hk];rfl
     clear hk
     have HF:=qq (mfail_at 13 (by decide) HD5.out)
     go_wp2_with fail
     refine (HF.out).mono ?_
     rintro e w6 ⟨rfl,hd3,hm3⟩
     have HD6:=qq hd3;have HM6:=qq (HM5.out.trans hm3);have HX6:=qq (HX5.out.mv hm3)
     clear hd3 hm3 HD5 HM5 HX5 HN5 HV5 m21 m1 b2 hlE qV0 qV1 HF
     obtain ⟨cX0,cX1,cX2,cX3,cX4,zX0,zX1,zX2,zX3,zX4,hltX⟩:=HX6.out.five
     go_wp2_with fail
     refine mend (P:=bodyPost _ _ _ _ _) HD6.out HM6.out HX6.out (by omega) _ _ _ _ _ ?_
     clear HD6 HM6 HX6 cX0 cX1 cX2 cX3 cX4 zX0 zX1 zX2 zX3 zX4
     intro w9 hd9 hm9 c0 c1 c2 c3 c4
     refine bodyPost_ret (v:=.agg zz) (by simp [results,Tryz.results61,go_sem,c0,c1,c2,c3,c4]) rfl ⟨vz,13,S1,n1,ov1,rfl,Ans.er HRE.out rfl (by decide),fun _=>rfl,hd9,hm9⟩
theorem md_let {d:Nat} (H:MoC (ev d) d):MdC d 29:=by
 intro w0 A c E b l S n ov w k r hcx hd hg hkl ho hrn hx hd24
 have hl:=hcx.len
 have hn5:=hg.fuel
 have hl0:Hid (0<l.length):=show 0<l.length by omega
 obtain ⟨B,O,hA⟩:=hcx.nds.shape (by omega)
 have HCX:=qq hcx
 have hx3:=hx
 rw [show pa 29=1+1 from rfl,it_succ] at hx3
 obtain ⟨r1,x1,hx3⟩:=Option.bind_eq_some_iff.1 hx3
 obtain ⟨g1,g2,g3⟩:=ex_drop_len x1 (by omega)
 obtain ⟨y1,hy1⟩:∃ y1,l.length - r1.length=y1:=⟨_,rfl⟩
 rw [hy1] at g1 g2
 rw [g1] at hx3
 have hy1l:y1≤l.length:=by omega
 have hk1:k+1<l.length:=by omega
 have HB1:Hid (l.length - (nx (l.drop (k+1))).length=y1):=by show _=_;rw [nx_of x1 (by omega)];exact hy1
 have HN1:Hid (nx (l.drop (k+1))=l.drop y1):=by show _=_;rw [nx_of x1 (by omega)];exact g1
 have HC1:=qq (fun S1 n1 ov1 w3 hd3 hg3=>H w0 A c E b l S1 n1 ov1 w3 (k+1) r1 hcx hd3 hg3 x1 (by omega))
 have HGE:=qq (ev_good d (by omega) _ _ x1)
 rw [it_succ] at hx3
 obtain ⟨r2,x2,hx4⟩:=Option.bind_eq_some_iff.1 hx3
 obtain ⟨g4,g5,g6⟩:=ex_drop_len x2 hy1l
 have hy1n:y1<l.length:=by omega
 have HC2:=qq (fun S1 n1 ov1 w3 hd3 hg3=>H w0 A c E b l S1 n1 ov1 w3 y1 r2 hcx hd3 hg3 x2 (by omega))
 have HGE2:=qq (fun S1 n1 v S2 n2 hg1 h=>ev_good d (by omega) _ _ x2 S1 n1 v S2 n2 hg1 h)
 clear g1 g2 g3 g4 g5 g6 hy1 x1 x2 hx3 hx4 hx H
 have HA0:=qq hA
 have e21:w.cell? ⟨b,21,none⟩=some (.int .i64 0):=hd.blk.c 21 _ rfl
 have e20:w.cell? ⟨b,20,none⟩=some (.int .i64 ((n:Int)+1)):=hd.blk.c 20 _ rfl
 have f20:=hd.blk.f 20 _ rfl
 have hltb:=hd.lt
 obtain ⟨w1,hw1,hd1,hm1,hbX,hsz⟩:=mdo_pre hd hl0.out
 have hnw:=hcx.nds.next hd1.fro
 rw [hA] at hnw
 obtain ⟨vk,vn,vs,vx,vy,hv⟩:∃ vk vn vs vx vy,(nd l k).v=⟨vk,vn,vs,vx,vy⟩:=⟨_,_,_,_,_,rfl⟩
 obtain ⟨nd1,hnd⟩:∃ N,nd l k=N:=⟨_,rfl⟩
 have j0:w1.cell? ⟨B,O+k * 6,none⟩=some (.int .i64 29):=by
  have h:=hnw.cell hkl 0 _ rfl
  rw [ho] at h;exact h
 have j1:w1.cell? ⟨B,O+k * 6+1,none⟩=some (.int .i64 vk):=by
  have h:=hnw.cell hkl 1 _ rfl
  rw [hv] at h;exact h
 have j2:w1.cell? ⟨B,O+k * 6+2,none⟩=some (.int .i64 vn):=by
  have h:=hnw.cell hkl 2 _ rfl
  rw [hv] at h;exact h
 have j3:w1.cell? ⟨B,O+k * 6+3,none⟩=some (.string (tx vs)):=by
  have h:=hnw.cell hkl 3 _ rfl
  rw [hv] at h;exact h
 have j4:w1.cell? ⟨B,O+k * 6+4,none⟩=some (.int .i64 vx):=by
  have h:=hnw.cell hkl 4 _ rfl
  rw [hv] at h;exact h
 have j5:w1.cell? ⟨B,O+k * 6+5,none⟩=some (.int .i64 vy):=by
  have h:=hnw.cell hkl 5 _ rfl
  rw [hv] at h;exact h
 have hBl:B<w1.heap.size:=block_lt_of_cell j0
 have i0:w1.cell? ⟨b,0,none⟩=some (.slice (some ⟨B,O,none⟩) l.length c):=by rw [← hA];exact hd1.blk.c 0 _ rfl
 have HD1:=qq hd1;have HM1:=qq hm1;have HX1:=qq hbX;have HW1:=qq hw1;have HSZ:=qq hsz;have HG:=qq (gd_less hg);have HO:=qq ho;have HR:=qq hrn;have HV:=qq hv;have HK:=qq hkl
 clear hcx hd hg ho hrn hv hw1 hd1 hm1 hbX hsz hnw hnd hA
 go_enter Tryz.func61,Tryz.ntmps61
 go_upto_region 6 with fail
 rw [HW1.out]
 clear e21 e20 f20 HW1
 have hbN:=Box.makeM HD1.out hl0.out 46 [.int .i64 29,.int .i64 vk,.int .i64 vn,.string (tx vs),.int .i64 vx,.int .i64 vy]
 have hb:=box1 w1 (.cells #[.int .i64 29,.int .i64 vk,.int .i64 vn,.string (tx vs),.int .i64 vx,.int .i64 vy] 46)
 obtain ⟨w2,hw2⟩:∃ w2,w1.alloc (.cells #[.int .i64 29,.int .i64 vk,.int .i64 vn,.string (tx vs),.int .i64 vx,.int .i64 vy] 46)=w2:=⟨_,rfl⟩
 rw [show w1.alloc (.cells [.int .i64 29,.int .i64 vk,.int .i64 vn,.string (tx vs),.int .i64 vx,.int .i64 vy].toArray 46)=w2 from hw2] at hbN
 rw [hw2] at hb
 have HW2:=qq hw2;have HN2:=qq hbN
 clear hw2 hbN
 have HD2:=qq (HD1.out.old hb)
 have HM2:=qq (HM1.out.old hb)
 have HX2:=qq (HX1.out.old hb)
 clear hb HD1 HM1 HX1  
 have HRES:Hid (body (ev d) (nd l k) (l.drop (k+1)) S n=bnd (ev d (l.drop (k+1))) (fun a=>withIt a (ev d (nx (l.drop (k+1))))) S n):=by
  show _=_
  unfold body
  rw [if_neg (by rw [HO.out];decide),if_neg (by rw [HO.out];decide),if_neg (by rw [HO.out];decide),if_neg (by rw [HO.out];decide),if_pos HO.out]
 have qN0:=HN2.out.blk.c 0 _ rfl
 go_wp2_with fail
 rw [HW2.out]
 clear HW2 j0 j1 j2 j3 j4 j5 i0 hBl
 refine (word_29 _).mono ?_
 rintro e w3 ⟨rfl,hb⟩
 have HD3:=qq (HD2.out.old hb)
 have HM3:=qq (HM2.out.old hb)
 have HX3:=qq (HX2.out.old hb)
 have HN3:=qq (HN2.out.old hb)
 clear hb HD2 HM2 HX2 HN2 qN0 
 have HCC:=qq (HC1.out S n ov w3 HD3.out HG.out)
 go_wp2_with fail
 refine (HCC.out).mono ?_
 rintro e w4 ⟨u,x,S1,n1,ov1,rfl,hans,hz,hd3,hm3⟩
 have HA:=qq hans;have HZ:=qq hz;have HD4:=qq hd3;have HM4:=qq (HM3.out.trans hm3);have HX4:=qq (HX3.out.mv hm3);have HN4:=qq (HN3.out.mv hm3)
 clear hans hz hd3 hm3 HD3 HM3 HX3 HN3  HCC HC1
 obtain ⟨XX,hXX⟩:∃ XX,ev d (l.drop (k+1)) S n=XX:=⟨_,rfl⟩
 have HXX:=qq hXX
 rw [hXX] at HA
 clear hXX
 have hbV:=Box.makeM HD4.out hl0.out 28 u
 have hb:=box1 w4 (.cells u 28)
 obtain ⟨w5,hw5⟩:∃ w5,w4.alloc (.cells u 28)=w5:=⟨_,rfl⟩
 rw [show w4.alloc (.cells u 28)=w5 from hw5] at hbV
 rw [hw5] at hb
 have HW5:=qq hw5;have HV5:=qq hbV
 clear hw5 hbV
 have HD5:=qq (HD4.out.old hb)
 have HM5:=qq (HM4.out.old hb)
 have HX5:=qq (HX4.out.old hb)
 have HN5:=qq (HN4.out.old hb)
 clear hb HD4 HM4 HX4 HN4  
 go_upto_region 22 with fail
 rw [HW5.out]
 clear HW5 
 have hltb5:=HD5.out.lt
 have m21:w5.cell? ⟨b,21,none⟩=some (.int .i64 x):=HD5.out.blk.c 21 _ rfl
 rcases HA.out.cases with ⟨hx0,hX⟩ | ⟨rfl,a,rfl,hX⟩
 · have HX0:=qq hx0
   have hx1:(x != 0)=true:=by simpa using hx0
   have HRE:Hid (body (ev d) (nd l k) (l.drop (k+1)) S n=.er x):=by show _=_;rw [HRES.out];exact bnd_er (by rw [HXX.out,hX])
   clear hx0 hX HA
   obtain ⟨cX0,cX1,cX2,cX3,cX4,zX0,zX1,zX2,zX3,zX4,hltX⟩:=HX5.out.five
   go_wp2_with fail
   refine mend (P:=bodyPost _ _ _ _ _) HD5.out HM5.out HX5.out (by omega) _ _ _ _ _ ?_
   clear HD5 HM5 HX5 HN5 HV5 m21 cX0 cX1 cX2 cX3 cX4 zX0 zX1 zX2 zX3 zX4
   intro w9 hd9 hm9 c0 c1 c2 c3 c4
   refine bodyPost_ret (v:=.agg zz) (by simp [results,Tryz.results61,go_sem,c0,c1,c2,c3,c4]) rfl ⟨vz,x,S1,n1,ov1,rfl,Ans.er HRE.out rfl HX0.out,fun _=>rfl,hd9,hm9⟩
 · have HU:Hid (ev d (l.drop (k+1)) S n=.ok u S1 n1):=by show _=_;rw [HXX.out,hX]
   obtain ⟨hu1,hg1⟩:=HGE.out S n u S1 n1 HG.out HU.out
   have HU1:=qq hu1;have HG1:=qq hg1
   clear hX HA hu1 hg1 HGE HXX
   have m1:w5.cell? ⟨b,1,none⟩=some (.slice (some ⟨E,0,none⟩) l.length l.length):=HD5.out.blk.c 1 _ rfl
   have b2:w5.cell? ⟨E,k+1,none⟩=some (.int .i64 (y1:Int)):=by have h:=HD5.out.beh (k+1) hk1;rw [HB1.out] at h;exact h
   have hlE:=HD5.out.ltE (by omega)
   have HRE:Hid (body (ev d) (nd l k) (l.drop (k+1)) S n=withIt u (ev d (l.drop y1)) S1 n1):=by show _=_;rw [HRES.out,bnd_ok HU.out,HN1.out]
   have m14:w5.cell? ⟨b,14,none⟩=some (.int .i64 S1.it.k):=HD5.out.blk.c 14 _ rfl
   have m15:w5.cell? ⟨b,15,none⟩=some (.int .i64 S1.it.n):=HD5.out.blk.c 15 _ rfl
   have m16:w5.cell? ⟨b,16,none⟩=some (.string (tx S1.it.s)):=HD5.out.blk.c 16 _ rfl
   have m17:w5.cell? ⟨b,17,none⟩=some (.int .i64 S1.it.x):=HD5.out.blk.c 17 _ rfl
   have m18:w5.cell? ⟨b,18,none⟩=some (.int .i64 S1.it.y):=HD5.out.blk.c 18 _ rfl
   obtain ⟨qV0,qV1,qV2,qV3,qV4⟩:=ck5 HV5.out.blk
   go_upto_region 33 with fail
   have hbT:=Box.makeM HD5.out hl0.out 28 [.int .i64 S1.it.k,.int .i64 S1.it.n,.string (tx S1.it.s),.int .i64 S1.it.x,.int .i64 S1.it.y]
   have hb:=box1 w5 (.cells #[.int .i64 S1.it.k,.int .i64 S1.it.n,.string (tx S1.it.s),.int .i64 S1.it.x,.int .i64 S1.it.y] 28)
   obtain ⟨w6,hw6⟩:∃ w6,w5.alloc (.cells #[.int .i64 S1.it.k,.int .i64 S1.it.n,.string (tx S1.it.s),.int .i64 S1.it.x,.int .i64 S1.it.y] 28)=w6:=⟨_,rfl⟩
   rw [show w5.alloc (.cells [.int .i64 S1.it.k,.int .i64 S1.it.n,.string (tx S1.it.s),.int .i64 S1.it.x,.int .i64 S1.it.y].toArray 28)=w6 from hw6] at hbT
   rw [hw6] at hb
   have HW6:=qq hw6;have HT6:=qq hbT
   clear hw6 hbT
   have HD6:=qq (HD5.out.old hb)
   have HM6:=qq (HM5.out.old hb)
   have HX6:=qq (HX5.out.old hb)
   have HN6:=qq (HN5.out.old hb)
   have HV6:=qq (HV5.out.old hb)
   clear hb HD5 HM5 HX5 HN5 HV5  
   go_upto_region 34 with fail
   rw [HW6.out]
   clear HW6 m21 m1 b2 hlE m14 m15 m16 m17 m18 qV0 qV1 qV2 qV3 qV4
   have m14:w6.cell? ⟨b,14,none⟩=some (.int .i64 S1.it.k):=HD6.out.blk.c 14 _ rfl
   have m15:w6.cell? ⟨b,15,none⟩=some (.int .i64 S1.it.n):=HD6.out.blk.c 15 _ rfl
   have m16:w6.cell? ⟨b,16,none⟩=some (.string (tx S1.it.s)):=HD6.out.blk.c 16 _ rfl
   have m17:w6.cell? ⟨b,17,none⟩=some (.int .i64 S1.it.x):=HD6.out.blk.c 17 _ rfl
   have m18:w6.cell? ⟨b,18,none⟩=some (.int .i64 S1.it.y):=HD6.out.blk.c 18 _ rfl
   have z14:=HD6.out.blk.f 14 _ rfl
   have z15:=HD6.out.blk.f 15 _ rfl
   have z16:=HD6.out.blk.f 16 _ rfl
   have z17:=HD6.out.blk.f 17 _ rfl
   have z18:=HD6.out.blk.f 18 _ rfl
   obtain ⟨qV0,qV1,qV2,qV3,qV4⟩:=ck5 HV6.out.blk
   have hlb6:=HD6.out.lt
   go_upto_region 35 with fail
   refine mit5 (P:=Code.wp _ _ _ _) HD6.out HM6.out u ?_
   intro w7 hd2 hm2 hbx
   have HD7:=qq hd2;have HM7:=qq hm2;have HX7:=qq (hbx _ _ HX6.out);have HT7:=qq (hbx _ _ HT6.out)
   clear hd2 hm2 hbx HD6 HM6 HX6 HN6 HV6 HT6 m14 m15 m16 m17 m18 z14 z15 z16 z17 z18 qV0 qV1 qV2 qV3 qV4 hlb6
   have HCC:=qq (HC2.out { S1 with it:=u } n1 ov1 w7 HD7.out ⟨HG1.out.key,HG1.out.val,HG1.out.acc,HG1.out.i,HU1.out,HG1.out.out,HG1.out.fuel⟩)
   go_wp2_with fail
   refine (HCC.out).mono ?_
   rintro e w8 ⟨v,x,S2,n2,ov2,rfl,hans,hz,hd3,hm3⟩
   have HAN:=qq hans;have HZ:=qq hz;have HD8:=qq hd3;have HM8:=qq (HM7.out.trans hm3);have HX8:=qq (HX7.out.mv hm3);have HT8:=qq (HT7.out.mv hm3)
   clear hans hz hd3 hm3 HCC HD7 HM7 HX7 HT7
   have hbR:=Box.makeM HD8.out hl0.out 28 v
   have hb:=box1 w8 (.cells v 28)
   obtain ⟨w9,hw9⟩:∃ w9,w8.alloc (.cells v 28)=w9:=⟨_,rfl⟩
   rw [show w8.alloc (.cells v 28)=w9 from hw9] at hbR
   rw [hw9] at hb
   have HW9:=qq hw9;have HR9:=qq hbR
   clear hw9 hbR
   have HD9:=qq (HD8.out.old hb)
   have HM9:=qq (HM8.out.old hb)
   have HX9:=qq (HX8.out.old hb)
   have HT9:=qq (HT8.out.old hb)
   clear hb HD8 HM8 HX8 HT8  
   go_upto_region 36 with fail
   rw [HW9.out]
   clear HW9
   have m14:w9.cell? ⟨b,14,none⟩=some (.int .i64 S2.it.k):=HD9.out.blk.c 14 _ rfl
   have m15:w9.cell? ⟨b,15,none⟩=some (.int .i64 S2.it.n):=HD9.out.blk.c 15 _ rfl
   have m16:w9.cell? ⟨b,16,none⟩=some (.string (tx S2.it.s)):=HD9.out.blk.c 16 _ rfl
   have m17:w9.cell? ⟨b,17,none⟩=some (.int .i64 S2.it.x):=HD9.out.blk.c 17 _ rfl
   have m18:w9.cell? ⟨b,18,none⟩=some (.int .i64 S2.it.y):=HD9.out.blk.c 18 _ rfl
   have z14:=HD9.out.blk.f 14 _ rfl
   have z15:=HD9.out.blk.f 15 _ rfl
   have z16:=HD9.out.blk.f 16 _ rfl
   have z17:=HD9.out.blk.f 17 _ rfl
   have z18:=HD9.out.blk.f 18 _ rfl
   obtain ⟨qT0,qT1,qT2,qT3,qT4⟩:=ck5 HT9.out.blk
   have hlb9:=HD9.out.lt
   go_upto_region 37 with fail
   refine mit5 (P:=Code.wp _ _ _ _) HD9.out HM9.out S1.it ?_
   intro w10 hd2 hm2 hbx
   have HD10:=qq hd2;have HM10:=qq hm2;have HX10:=qq (hbx _ _ HX9.out);have HR10:=qq (hbx _ _ HR9.out)
   clear hd2 hm2 hbx HD9 HM9 HX9 HT9 HR9 m14 m15 m16 m17 m18 z14 z15 z16 z17 z18 qT0 qT1 qT2 qT3 qT4 hlb9
   obtain ⟨qR0,qR1,qR2,qR3,qR4⟩:=ck5 HR10.out.blk
   obtain ⟨cX0,cX1,cX2,cX3,cX4,zX0,zX1,zX2,zX3,zX4,hltX⟩:=HX10.out.five
   go_wp2_with fail
   refine mend (P:=bodyPost _ _ _ _ _) HD10.out HM10.out HX10.out (by omega) _ _ _ _ _ ?_
   clear HD10 HM10 HX10 HR10 qR0 qR1 qR2 qR3 qR4 cX0 cX1 cX2 cX3 cX4 zX0 zX1 zX2 zX3 zX4
   intro w9 hd9 hm9 c0 c1 c2 c3 c4
   refine bodyPost_ret (v:=.agg v) (by simp [results,Tryz.results61,go_sem,c0,c1,c2,c3,c4]) rfl ⟨v,x,{ S2 with it:=S1.it },n2,ov2,rfl,by rw [HRE.out];exact withIt_ans HAN.out,HZ.out,hd9,hm9⟩
end Go.Proofs.YtgakcpcpfkoaiaaGreatDoor.Ev

/-
  A text of this claim: EvDeed4.
-/
import Derived.Test.YtgakcpcpfkoaiaaGreatDoorQ1
import Derived.Test.YtgakcpcpfkoaiaaGreatDoorQ7
import Derived.Test.YtgakcpcpfkoaiaaGreatDoorQEvDeed1
import Derived.Test.YtgakcpcpfkoaiaaGreatDoorQ3
import Derived.Test.YtgakcpcpfkoaiaaGreatDoorQ2
set_option maxHeartbeats 2000000
set_option maxRecDepth 100000
namespace Go.Proofs.YtgakcpcpfkoaiaaGreatDoor.Ev
open Go.ChangeShapes Go.WideShapes Go.ChangeAt Go.RowKit Ov Va Ga Ex
theorem alk_bnd {o:Int} (f:M (List Va)) (h:∀ l:List Va,(at0 l).k ≠ (at1 l).k→af o l=fail 13):bnd f (af o)=bnd (bnd f alk) (af o):=by
 rw [bnd_assoc]
 congr 1
 funext l
 unfold alk
 split
 · rw [h l ‹_›];rfl
 · rfl
theorem rk_unlike {o:Int} {a b:Va} (h:a.k ≠ b.k):lift (rk o a b)=fail 13:=by unfold rk;rw [if_pos h];rfl
theorem af_rk {o:Int} (h:o=2∨o=3∨o=4∨o=5∨o=6) (l:List Va):af o l=lift (rk o (at0 l) (at1 l)):=by
 unfold af pu
 rw [if_neg (by omega),if_pos h]
theorem af_less (l:List Va):af 8 l=lift (if (at0 l).k ≠ (at1 l).k then .inl 13 else .inr (tr (decide (ord (at0 l) (at1 l)<0)))):=rfl
theorem af_max (l:List Va):af 12 l=lift (if (at0 l).k ≠ (at1 l).k then .inl 13 else .inr (if 0<ord (at0 l) (at1 l) then at0 l else at1 l)):=rfl
theorem af_min (l:List Va):af 13 l=lift (if (at0 l).k ≠ (at1 l).k then .inl 13 else .inr (if 0<ord (at0 l) (at1 l) then at1 l else at0 l)):=rfl
theorem rt_pv_rb (x y:Int):rt (pv x y)=rb ⟨x,y⟩:=by
 rcases Bool.eq_false_or_eq_true (rb ⟨x,y⟩) with h | h
 · rw [h];exact rt_pv h
 · rw [h]
   rcases Bool.eq_false_or_eq_true (rt (pv x y)) with g | g
   · have:=(rt_all g).2.2.1
     unfold pt at this
     rw [show rb ⟨(pv x y).x,(pv x y).y⟩=rb ⟨x,y⟩ from rfl,h] at this
     cases this
   · exact g
theorem ans_cke (p:Pt):∃ (q:Pt) (e:Int),ans (rb p) p=.tuple #[.agg #[.int .i64 q.x,.int .i64 q.y],.int .i64 e]∧chk (pv p.x p.y)=cke e (pv q.x q.y):=by
 unfold ans cke chk
 rcases Bool.eq_false_or_eq_true (rb p) with h | h
 · rw [h]
   exact ⟨p,0,rfl,rfl⟩
 · rw [h]
   exact ⟨⟨0,0⟩,14,rfl,by rw [rt_pv_rb,show rb ⟨p.x,p.y⟩=rb p from rfl,h];rfl⟩
theorem spots_add (a b:Pt):spots 2 a b=chk (pv (a.add b).x (a.add b).y):=rfl
theorem spots_sub (a b:Pt):spots 3 a b=chk (pv (a.sub b).x (a.sub b).y):=rfl
theorem spots_mul (a b:Pt):spots 4 a b=chk (pv (a.mul b).x (a.mul b).y):=rfl
theorem rk_add:RkC 2 128 129 :=
 ⟨run_enter Tryz.func128 (by kernel_rfl) (by kernel_rfl),run_enter Tryz.func129 (by kernel_rfl) (by kernel_rfl),
  fun a b ha hb=>⟨a+b,0,fun w=>esum_any a b ha hb w,rfl⟩,fun a b ha hb=>by
   obtain ⟨q,e,h1,h2⟩:=ans_cke (a.add b)
   refine ⟨q,e,fun w=>?_,by rw [spots_add,h2]⟩
   have h:=Ga.add_any a.x a.y b.x b.y w
   rw [show rb ⟨a.x,a.y⟩=true from ha,show rb ⟨b.x,b.y⟩=true from hb] at h
   rw [← h1];exact h⟩
theorem rk_sub:RkC 3 130 131 :=
 ⟨run_enter Tryz.func130 (by kernel_rfl) (by kernel_rfl),run_enter Tryz.func131 (by kernel_rfl) (by kernel_rfl),
  fun a b ha hb=>⟨a - b,0,fun w=>ediff_any a b ha hb w,rfl⟩,fun a b ha hb=>by
   obtain ⟨q,e,h1,h2⟩:=ans_cke (a.sub b)
   refine ⟨q,e,fun w=>?_,by rw [spots_sub,h2]⟩
   have h:=Ga.sub_any a.x a.y b.x b.y w
   rw [show rb ⟨a.x,a.y⟩=true from ha,show rb ⟨b.x,b.y⟩=true from hb] at h
   rw [← h1];exact h⟩
theorem epv_cke (a b:Int):∃ r e:Int,epv a b=.tuple #[.int .i64 r,.int .i64 e]∧nums 4 a b=cke e (nv r):=by
 unfold epv
 by_cases h:-9007199254740992≤a * b∧a * b≤9007199254740992
 · rw [if_pos h];exact ⟨a * b,0,rfl,rfl⟩
 · rw [if_neg h]
   refine ⟨0,14,rfl,?_⟩
   show chk (nv (a * b))=.inl 14
   unfold chk
   rw [if_neg (fun g=>h (rt_all g).1)]
theorem rk_mul:RkC 4 132 133 :=
 ⟨run_enter Tryz.func132 (by kernel_rfl) (by kernel_rfl),run_enter Tryz.func133 (by kernel_rfl) (by kernel_rfl),
  fun a b ha hb=>by
   obtain ⟨r,e,h1,h2⟩:=epv_cke a b
   exact ⟨r,e,fun w=>by rw [← h1];exact eprod_any a b ha hb w,h2⟩,fun a b ha hb=>by
   obtain ⟨q,e,h1,h2⟩:=ans_cke (a.mul b)
   refine ⟨q,e,fun w=>?_,by rw [spots_mul,h2]⟩
   have h:=Ga.mul_any a.x a.y b.x b.y w
   rw [show rb ⟨a.x,a.y⟩=true from ha,show rb ⟨b.x,b.y⟩=true from hb] at h
   rw [← h1];exact h⟩
theorem spots_zero {o:Int} (h:o=5∨o=6) (a:Pt):spots o a Pt.zero=.inl 16:=by
 unfold spots
 rw [if_neg (by omega),if_neg (by omega),if_neg (by omega),if_pos rfl]
theorem spots_quo {a b:Pt} (ha:rb a=true) (h:b ≠ Pt.zero):spots 5 a b=chk (pv (a.quo b).x (a.quo b).y):=by
 unfold spots chk
 rw [if_neg (by decide),if_neg (by decide),if_neg (by decide),if_neg h,if_pos rfl]
 exact (if_pos (show rt (pv (a.quo b).x (a.quo b).y)=true from rt_pv (Pt.quo_right ha h))).symm
theorem spots_rest {a b:Pt} (hb:rb b=true) (h:b ≠ Pt.zero):spots 6 a b=chk (pv (a.rest b).x (a.rest b).y):=by
 unfold spots chk
 rw [if_neg (by decide),if_neg (by decide),if_neg (by decide),if_neg h,if_neg (by decide)]
 exact (if_pos (show rt (pv (a.rest b).x (a.rest b).y)=true from rt_pv (Pt.rest_right hb h))).symm
theorem nums_zero {o:Int} (h:o=5∨o=6) (a:Int):nums o a 0=.inl 16:=by
 unfold nums
 rw [if_neg (by omega),if_neg (by omega),if_neg (by omega),if_pos rfl]
theorem nums_quo {a b:Int} (h:b ≠ 0):nums 5 a b=chk (nv (qf a b)):=by
 unfold nums
 rw [if_neg (by decide),if_neg (by decide),if_neg (by decide),if_neg h,if_pos rfl]
theorem nums_rest {a b:Int} (hb:-9007199254740992≤b∧b≤9007199254740992) (h:b ≠ 0):nums 6 a b=chk (nv (a - qf a b * b)):=by
 have:=qf_rest (a:=a) h
 unfold nums chk
 rw [if_neg (by decide),if_neg (by decide),if_neg (by decide),if_neg h,if_neg (by decide),if_pos (rt_nv (by omega))]
theorem rk_div:RkC 5 134 135 :=
 ⟨run_enter Tryz.func134 (by kernel_rfl) (by kernel_rfl),run_enter Tryz.func135 (by kernel_rfl) (by kernel_rfl),
  fun a b ha hb=>by
   by_cases h:b=0
   · subst h;exact ⟨0,16,fun w=>equo_zero a w,by rw [nums_zero (.inl rfl)];rfl⟩
   · exact ⟨qf a b,0,fun w=>equo_any a b ha h w,by rw [nums_quo h];rfl⟩,fun a b ha hb=>by
   by_cases h:b=Pt.zero
   · subst h;exact ⟨⟨0,0⟩,16,fun w=>esq_zero a.x a.y ha w,by rw [spots_zero (.inl rfl)];rfl⟩
   · exact ⟨a.quo b,0,fun w=>esq_yes a.x a.y b.x b.y ha hb h w,by rw [spots_quo ha h];rfl⟩⟩
theorem rk_mod:RkC 6 136 137 :=
 ⟨run_enter Tryz.func136 (by kernel_rfl) (by kernel_rfl),run_enter Tryz.func137 (by kernel_rfl) (by kernel_rfl),
  fun a b ha hb=>by
   by_cases h:b=0
   · subst h;exact ⟨a,16,fun w=>erest_zero a ha w,by rw [nums_zero (.inr rfl)];rfl⟩
   · exact ⟨a - qf a b * b,0,fun w=>erest_any a b ha hb h w,by rw [nums_rest hb h];rfl⟩,fun a b ha hb=>by
   by_cases h:b=Pt.zero
   · subst h;exact ⟨⟨0,0⟩,16,fun w=>esr_zero a.x a.y ha w,by rw [spots_zero (.inr rfl)];rfl⟩
   · exact ⟨a.rest b,0,fun w=>esr_yes a.x a.y b.x b.y ha hb h w,by rw [spots_rest hb h];rfl⟩⟩
theorem order_va (p q:Va) (w:World):Calls Tryz.prog 36 #[.agg p,.agg q] w (Gives (.int .i64 (ord p q)) w):=by
 have h:=order_val p.k p.n p.x p.y q.k q.n q.x q.y (tx p.s) (tx q.s) w
 rw [tx_list,tx_list] at h
 exact h
theorem deed_add {d:Nat} (HD:DoC (ev d) d):DeedC d 2 82:=by
 intro w0 A c E b l S n ov w k r hcx hd hg hkl ho hrn hx hd24
 have HBD:Hid (body (ev d) (nd l k) (l.drop (k+1)) S n=bnd (bnd (prt (ev d) [-1,-1] (l.drop (k+1))) alk) (af 2) S n):=by show _=_;exact (congrFun (congrFun (body_prt ho (by decide) (by decide) (by decide) (by decide) (by decide) (by decide)) S) n).trans (congrFun (congrFun (alk_bnd _ (fun l h=>(af_rk (by decide) l).trans (rk_unlike h))) S) n)
 rw [show af 2=fun l=>lift (rk 2 (at0 l) (at1 l)) from funext fun l=>af_rk (by decide) l] at HBD
 have HP:=qq (reckon_any rk_add HD hcx (hd.old (box1 w vbox)) hg hkl hx (by decide) hd24)
 have hb0:Box w0 b E ov w.heap.size zz (w.alloc vbox):=Box.made hd (by omega) 28 zz
 have hm0:Mv b ov w ov (w.alloc vbox):=Mv.of (box1 w vbox)
 have HB0:=qq hb0;have HM0:=qq hm0
 clear hcx hd hg hx ho hrn hd24 HD hb0 hm0
 go_enter Tryz.func82,Tryz.ntmps82
 go_wp2_with fail
 refine (HP.out).mono ?_
 rintro e w3 ⟨v,x,S1,n1,ov1,rfl,ha,hd3,hm3⟩
 have HA:=qq ha;have HD3:=qq hd3
 have HX3:=qq (HB0.out.mv hm3);have HM3:=qq (HM0.out.trans hm3)
 have hlZ:=HX3.out.blk.lt
 clear ha hd3 hm3 HP HB0 HM0
 obtain ⟨cX0,cX1,cX2,cX3,cX4,zX0,zX1,zX2,zX3,zX4,hltX⟩:=HX3.out.fiv
 go_wp2_with fail
 refine dend0 (P:=bodyPost _ _ _ _ _) HD3.out HM3.out HX3.out (by omega) _ _ _ _ _ ?_
 clear cX0 cX1 cX2 cX3 cX4 zX0 zX1 zX2 zX3 zX4 HD3 HM3 HX3 
 intro w9 hd9 hm9 cX0 cX1 cX2 cX3 cX4
 refine bodyPost_ret (v:=.tuple #[.agg v,.int .i64 x]) (by simp [results,Tryz.results82,go_sem,cX0,cX1,cX2,cX3,cX4]) rfl ⟨v,x,S1,n1,ov1,rfl,by rw [HBD.out];exact HA.out,hd9,hm9⟩
theorem deed_sub {d:Nat} (HD:DoC (ev d) d):DeedC d 3 83:=by
 intro w0 A c E b l S n ov w k r hcx hd hg hkl ho hrn hx hd24
 have HBD:Hid (body (ev d) (nd l k) (l.drop (k+1)) S n=bnd (bnd (prt (ev d) [-1,-1] (l.drop (k+1))) alk) (af 3) S n):=by show _=_;exact (congrFun (congrFun (body_prt ho (by decide) (by decide) (by decide) (by decide) (by decide) (by decide)) S) n).trans (congrFun (congrFun (alk_bnd _ (fun l h=>(af_rk (by decide) l).trans (rk_unlike h))) S) n)
 rw [show af 3=fun l=>lift (rk 3 (at0 l) (at1 l)) from funext fun l=>af_rk (by decide) l] at HBD
 have HP:=qq (reckon_any rk_sub HD hcx (hd.old (box1 w vbox)) hg hkl hx (by decide) hd24)
 have hb0:Box w0 b E ov w.heap.size zz (w.alloc vbox):=Box.made hd (by omega) 28 zz
 have hm0:Mv b ov w ov (w.alloc vbox):=Mv.of (box1 w vbox)
 have HB0:=qq hb0;have HM0:=qq hm0
 clear hcx hd hg hx ho hrn hd24 HD hb0 hm0
 go_enter Tryz.func83,Tryz.ntmps83
 go_wp2_with fail
 refine (HP.out).mono ?_
 rintro e w3 ⟨v,x,S1,n1,ov1,rfl,ha,hd3,hm3⟩
 have HA:=qq ha;have HD3:=qq hd3
 have HX3:=qq (HB0.out.mv hm3);have HM3:=qq (HM0.out.trans hm3)
 have hlZ:=HX3.out.blk.lt
 clear ha hd3 hm3 HP HB0 HM0
 obtain ⟨cX0,cX1,cX2,cX3,cX4,zX0,zX1,zX2,zX3,zX4,hltX⟩:=HX3.out.fiv
 go_wp2_with fail
 refine dend0 (P:=bodyPost _ _ _ _ _) HD3.out HM3.out HX3.out (by omega) _ _ _ _ _ ?_
 clear cX0 cX1 cX2 cX3 cX4 zX0 zX1 zX2 zX3 zX4 HD3 HM3 HX3 
 intro w9 hd9 hm9 cX0 cX1 cX2 cX3 cX4
 refine bodyPost_ret (v:=.tuple #[.agg v,.int .i64 x]) (by simp [results,Tryz.results83,go_sem,cX0,cX1,cX2,cX3,cX4]) rfl ⟨v,x,S1,n1,ov1,rfl,by rw [HBD.out];exact HA.out,hd9,hm9⟩
theorem deed_mul {d:Nat} (HD:DoC (ev d) d):DeedC d 4 84:=by
 intro w0 A c E b l S n ov w k r hcx hd hg hkl ho hrn hx hd24
 have HBD:Hid (body (ev d) (nd l k) (l.drop (k+1)) S n=bnd (bnd (prt (ev d) [-1,-1] (l.drop (k+1))) alk) (af 4) S n):=by show _=_;exact (congrFun (congrFun (body_prt ho (by decide) (by decide) (by decide) (by decide) (by decide) (by decide)) S) n).trans (congrFun (congrFun (alk_bnd _ (fun l h=>(af_rk (by decide) l).trans (rk_unlike h))) S) n)
 rw [show af 4=fun l=>lift (rk 4 (at0 l) (at1 l)) from funext fun l=>af_rk (by decide) l] at HBD
 have HP:=qq (reckon_any rk_mul HD hcx (hd.old (box1 w vbox)) hg hkl hx (by decide) hd24)
 have hb0:Box w0 b E ov w.heap.size zz (w.alloc vbox):=Box.made hd (by omega) 28 zz
 have hm0:Mv b ov w ov (w.alloc vbox):=Mv.of (box1 w vbox)
 have HB0:=qq hb0;have HM0:=qq hm0
 clear hcx hd hg hx ho hrn hd24 HD hb0 hm0
 go_enter Tryz.func84,Tryz.ntmps84
 go_wp2_with fail
 refine (HP.out).mono ?_
 rintro e w3 ⟨v,x,S1,n1,ov1,rfl,ha,hd3,hm3⟩
 have HA:=qq ha;have HD3:=qq hd3
 have HX3:=qq (HB0.out.mv hm3);have HM3:=qq (HM0.out.trans hm3)
 have hlZ:=HX3.out.blk.lt
 clear ha hd3 hm3 HP HB0 HM0
 obtain ⟨cX0,cX1,cX2,cX3,cX4,zX0,zX1,zX2,zX3,zX4,hltX⟩:=HX3.out.fiv
 go_wp2_with fail
 refine dend0 (P:=bodyPost _ _ _ _ _) HD3.out HM3.out HX3.out (by omega) _ _ _ _ _ ?_
 clear cX0 cX1 cX2 cX3 cX4 zX0 zX1 zX2 zX3 zX4 HD3 HM3 HX3 
 intro w9 hd9 hm9 cX0 cX1 cX2 cX3 cX4
 refine bodyPost_ret (v:=.tuple #[.agg v,.int .i64 x]) (by simp [results,Tryz.results84,go_sem,cX0,cX1,cX2,cX3,cX4]) rfl ⟨v,x,S1,n1,ov1,rfl,by rw [HBD.out];exact HA.out,hd9,hm9⟩
theorem deed_div {d:Nat} (HD:DoC (ev d) d):DeedC d 5 85:=by
 intro w0 A c E b l S n ov w k r hcx hd hg hkl ho hrn hx hd24
 have HBD:Hid (body (ev d) (nd l k) (l.drop (k+1)) S n=bnd (bnd (prt (ev d) [-1,-1] (l.drop (k+1))) alk) (af 5) S n):=by show _=_;exact (congrFun (congrFun (body_prt ho (by decide) (by decide) (by decide) (by decide) (by decide) (by decide)) S) n).trans (congrFun (congrFun (alk_bnd _ (fun l h=>(af_rk (by decide) l).trans (rk_unlike h))) S) n)
 rw [show af 5=fun l=>lift (rk 5 (at0 l) (at1 l)) from funext fun l=>af_rk (by decide) l] at HBD
 have HP:=qq (reckon_any rk_div HD hcx (hd.old (box1 w vbox)) hg hkl hx (by decide) hd24)
 have hb0:Box w0 b E ov w.heap.size zz (w.alloc vbox):=Box.made hd (by omega) 28 zz
 have hm0:Mv b ov w ov (w.alloc vbox):=Mv.of (box1 w vbox)
 have HB0:=qq hb0;have HM0:=qq hm0
 clear hcx hd hg hx ho hrn hd24 HD hb0 hm0
 go_enter Tryz.func85,Tryz.ntmps85
 go_wp2_with fail
 refine (HP.out).mono ?_
 rintro e w3 ⟨v,x,S1,n1,ov1,rfl,ha,hd3,hm3⟩
 have HA:=qq ha;have HD3:=qq hd3
 have HX3:=qq (HB0.out.mv hm3);have HM3:=qq (HM0.out.trans hm3)
 have hlZ:=HX3.out.blk.lt
 clear ha hd3 hm3 HP HB0 HM0
 obtain ⟨cX0,cX1,cX2,cX3,cX4,zX0,zX1,zX2,zX3,zX4,hltX⟩:=HX3.out.fiv
 go_wp2_with fail
 refine dend0 (P:=bodyPost _ _ _ _ _) HD3.out HM3.out HX3.out (by omega) _ _ _ _ _ ?_
 clear cX0 cX1 cX2 cX3 cX4 zX0 zX1 zX2 zX3 zX4 HD3 HM3 HX3 
 intro w9 hd9 hm9 cX0 cX1 cX2 cX3 cX4
 refine bodyPost_ret (v:=.tuple #[.agg v,.int .i64 x]) (by simp [results,Tryz.results85,go_sem,cX0,cX1,cX2,cX3,cX4]) rfl ⟨v,x,S1,n1,ov1,rfl,by rw [HBD.out];exact HA.out,hd9,hm9⟩
theorem deed_mod {d:Nat} (HD:DoC (ev d) d):DeedC d 6 86:=by
 intro w0 A c E b l S n ov w k r hcx hd hg hkl ho hrn hx hd24
 have HBD:Hid (body (ev d) (nd l k) (l.drop (k+1)) S n=bnd (bnd (prt (ev d) [-1,-1] (l.drop (k+1))) alk) (af 6) S n):=by show _=_;exact (congrFun (congrFun (body_prt ho (by decide) (by decide) (by decide) (by decide) (by decide) (by decide)) S) n).trans (congrFun (congrFun (alk_bnd _ (fun l h=>(af_rk (by decide) l).trans (rk_unlike h))) S) n)
 rw [show af 6=fun l=>lift (rk 6 (at0 l) (at1 l)) from funext fun l=>af_rk (by decide) l] at HBD
 have HP:=qq (reckon_any rk_mod HD hcx (hd.old (box1 w vbox)) hg hkl hx (by decide) hd24)
 have hb0:Box w0 b E ov w.heap.size zz (w.alloc vbox):=Box.made hd (by omega) 28 zz
 have hm0:Mv b ov w ov (w.alloc vbox):=Mv.of (box1 w vbox)
 have HB0:=qq hb0;have HM0:=qq hm0
 clear hcx hd hg hx ho hrn hd24 HD hb0 hm0
 go_enter Tryz.func86,Tryz.ntmps86
 go_wp2_with fail
 refine (HP.out).mono ?_
 rintro e w3 ⟨v,x,S1,n1,ov1,rfl,ha,hd3,hm3⟩
 have HA:=qq ha;have HD3:=qq hd3
 have HX3:=qq (HB0.out.mv hm3);have HM3:=qq (HM0.out.trans hm3)
 have hlZ:=HX3.out.blk.lt
 clear ha hd3 hm3 HP HB0 HM0
 obtain ⟨cX0,cX1,cX2,cX3,cX4,zX0,zX1,zX2,zX3,zX4,hltX⟩:=HX3.out.fiv
 go_wp2_with fail
 refine dend0 (P:=bodyPost _ _ _ _ _) HD3.out HM3.out HX3.out (by omega) _ _ _ _ _ ?_
 clear cX0 cX1 cX2 cX3 cX4 zX0 zX1 zX2 zX3 zX4 HD3 HM3 HX3 
 intro w9 hd9 hm9 cX0 cX1 cX2 cX3 cX4
 refine bodyPost_ret (v:=.tuple #[.agg v,.int .i64 x]) (by simp [results,Tryz.results86,go_sem,cX0,cX1,cX2,cX3,cX4]) rfl ⟨v,x,S1,n1,ov1,rfl,by rw [HBD.out];exact HA.out,hd9,hm9⟩
theorem deed_less {d:Nat} (HD:DoC (ev d) d):DeedC d 8 88:=by
 intro w0 A c E b l S n ov w k r hcx hd hg hkl ho hrn hx hd24
 have HBD:Hid (body (ev d) (nd l k) (l.drop (k+1)) S n=bnd (bnd (prt (ev d) [-1,-1] (l.drop (k+1))) alk) (af 8) S n):=by show _=_;exact (congrFun (congrFun (body_prt ho (by decide) (by decide) (by decide) (by decide) (by decide) (by decide)) S) n).trans (congrFun (congrFun (alk_bnd _ (fun l h=>(af_less l).trans (by rw [if_pos h];rfl))) S) n)
 have HP:=qq (alike_any HD hcx (hd.old (box1 w vbox)) hg hkl hx (by decide) hd24)
 have hb0:Box w0 b E ov w.heap.size zz (w.alloc vbox):=Box.made hd (by omega) 28 zz
 have hm0:Mv b ov w ov (w.alloc vbox):=Mv.of (box1 w vbox)
 have HB0:=qq hb0;have HM0:=qq hm0
 clear hcx hd hg hx ho hrn hd24 HD hb0 hm0
 go_enter Tryz.func88,Tryz.ntmps88
 go_wp2_with fail
 refine (HP.out).mono ?_
 rintro e w3 ⟨p,q,x,S1,n1,ov1,rfl,ha,r0,r1,hgd,hd3,hm3⟩
 have HA:=qq ha;have HD3:=qq hd3
 clear r0 r1 hgd
 have HX3:=qq (HB0.out.mv hm3);have HM3:=qq (HM0.out.trans hm3)
 have hlZ:=HX3.out.blk.lt
 clear ha hd3 hm3 HP HB0 HM0
 have HO:=qq (order_va p q)
 go_wp2_with fail
 refine (HO.out _).mono ?_
 rintro e w4 ⟨rfl,hb⟩
 have HD4:=qq (((HD3.out.old (box1 _ (.cells p 28))).old (box1 _ (.cells q 28))).old hb)
 have HM4:=qq (((HM3.out.old (box1 _ (.cells p 28))).old (box1 _ (.cells q 28))).old hb)
 have HX4:=qq (((HX3.out.old (box1 _ (.cells p 28))).old (box1 _ (.cells q 28))).old hb)
 clear hb HD3 HM3 HX3  
 go_wp2_with fail
 refine (etruth_any _ _).mono ?_
 rintro e w5 ⟨rfl,hb⟩
 have HD5:=qq (HD4.out.old hb)
 have HM5:=qq (HM4.out.old hb)
 have HX5:=qq (HX4.out.old hb)
 clear hb HD4 HM4 HX4  
 obtain ⟨cX0,cX1,cX2,cX3,cX4,zX0,zX1,zX2,zX3,zX4,hltX⟩:=HX5.out.fiv
 go_wp2_with fail
 refine dend0 (P:=bodyPost _ _ _ _ _) HD5.out HM5.out HX5.out (by omega) _ _ _ _ _ ?_
 clear cX0 cX1 cX2 cX3 cX4 zX0 zX1 zX2 zX3 zX4 HD5 HM5 HX5 
 intro w9 hd9 hm9 cX0 cX1 cX2 cX3 cX4
 refine bodyPost_ret (v:=.tuple #[.agg #[.int .i64 0,.int .i64 (tri (decide (ord p q<0))),.string ⟨#[]⟩,.int .i64 0,.int .i64 0],.int .i64 x]) (by simp [results,Tryz.results88,go_sem,cX0,cX1,cX2,cX3,cX4]) rfl ⟨nv (tri (decide (ord p q<0))),x,S1,n1,ov1,rfl,by rw [HBD.out];exact HA.out.bnd fun h0 a ha _=>by obtain ⟨rfl,rfl,hk⟩:=ha;exact ⟨_,by rw [af_less,if_neg (fun e=>e hk)];rfl,(tr_tri _).symm⟩,hd9,hm9⟩
theorem deed_max {d:Nat} (HD:DoC (ev d) d):DeedC d 12 92:=by
 intro w0 A c E b l S n ov w k r hcx hd hg hkl ho hrn hx hd24
 have HBD:Hid (body (ev d) (nd l k) (l.drop (k+1)) S n=bnd (bnd (prt (ev d) [-1,-1] (l.drop (k+1))) alk) (af 12) S n):=by show _=_;exact (congrFun (congrFun (body_prt ho (by decide) (by decide) (by decide) (by decide) (by decide) (by decide)) S) n).trans (congrFun (congrFun (alk_bnd _ (fun l h=>(af_max l).trans (by rw [if_pos h];rfl))) S) n)
 have HP:=qq (alike_any HD hcx (hd.old (box1 w vbox)) hg hkl hx (by decide) hd24)
 have hb0:Box w0 b E ov w.heap.size zz (w.alloc vbox):=Box.made hd (by omega) 28 zz
 have hm0:Mv b ov w ov (w.alloc vbox):=Mv.of (box1 w vbox)
 have HB0:=qq hb0;have HM0:=qq hm0
 clear hcx hd hg hx ho hrn hd24 HD hb0 hm0
 go_enter Tryz.func92,Tryz.ntmps92
 go_wp2_with fail
 refine (HP.out).mono ?_
 rintro e w3 ⟨p,q,x,S1,n1,ov1,rfl,ha,r0,r1,hgd,hd3,hm3⟩
 have HA:=qq ha;have HD3:=qq hd3
 clear r0 r1 hgd
 have HX3:=qq (HB0.out.mv hm3);have HM3:=qq (HM0.out.trans hm3)
 have hlZ:=HX3.out.blk.lt
 clear ha hd3 hm3 HP HB0 HM0
 have HO:=qq (order_va p q)
 obtain ⟨o,ho⟩:∃ o,ord p q=o:=⟨_,rfl⟩
 have HOO:=qq ho
 rw [ho] at HO
 clear ho
 go_wp2_with fail
 refine (HO.out _).mono ?_
 rintro e w4 ⟨rfl,hb⟩
 have HD4:=qq (((HD3.out.old (box1 _ (.cells p 28))).old (box1 _ (.cells q 28))).old hb)
 have HM4:=qq (((HM3.out.old (box1 _ (.cells p 28))).old (box1 _ (.cells q 28))).old hb)
 have HX4:=qq (((HX3.out.old (box1 _ (.cells p 28))).old (box1 _ (.cells q 28))).old hb)
 have HA4:Hid (Box w0 b E ov1 (w3.heap.size) p w4):=by
  have h:=Box.made HD3.out (by omega) 28 p
  exact ((h.old (box1 _ (.cells q 28)))).old hb
 have HB4:Hid (Box w0 b E ov1 (w3.heap.size+1) q w4):=by
  have h:=Box.made (HD3.out.old (box1 _ (.cells p 28))) (by omega) 28 q
  simp only [World.size_alloc] at h
  exact (h).old hb
 clear hb HD3 HM3 HX3  
 by_cases hgt:0<o
 · have HG:=qq hgt
   obtain ⟨qA0,qA1,qA2,qA3,qA4⟩:=ck5 HA4.out.blk
   obtain ⟨cX0,cX1,cX2,cX3,cX4,zX0,zX1,zX2,zX3,zX4,hltX⟩:=HX4.out.fiv
   go_wp2_with fail
   refine dend0 (P:=bodyPost _ _ _ _ _) HD4.out HM4.out HX4.out (by omega) _ _ _ _ _ ?_
   clear qA0 qA1 qA2 qA3 qA4 cX0 cX1 cX2 cX3 cX4 zX0 zX1 zX2 zX3 zX4 HD4 HM4 HX4 HA4 HB4 
   intro w9 hd9 hm9 cX0 cX1 cX2 cX3 cX4
   refine bodyPost_ret (v:=.tuple #[.agg p,.int .i64 x]) (by simp [results,Tryz.results92,go_sem,cX0,cX1,cX2,cX3,cX4]) rfl ⟨p,x,S1,n1,ov1,rfl,by rw [HBD.out];exact HA.out.bnd fun h0 a ha _=>by obtain ⟨rfl,rfl,hk⟩:=ha;exact ⟨_,by rw [af_max,if_neg (fun e=>e hk),HOO.out,if_pos HG.out];rfl,rfl⟩,hd9,hm9⟩
 · have HG:=qq hgt
   obtain ⟨qB0,qB1,qB2,qB3,qB4⟩:=ck5 HB4.out.blk
   obtain ⟨cX0,cX1,cX2,cX3,cX4,zX0,zX1,zX2,zX3,zX4,hltX⟩:=HX4.out.fiv
   go_wp2_with fail
   refine dend0 (P:=bodyPost _ _ _ _ _) HD4.out HM4.out HX4.out (by omega) _ _ _ _ _ ?_
   clear qB0 qB1 qB2 qB3 qB4 cX0 cX1 cX2 cX3 cX4 zX0 zX1 zX2 zX3 zX4 HD4 HM4 HX4 HA4 HB4 
   intro w9 hd9 hm9 cX0 cX1 cX2 cX3 cX4
   refine bodyPost_ret (v:=.tuple #[.agg q,.int .i64 x]) (by simp [results,Tryz.results92,go_sem,cX0,cX1,cX2,cX3,cX4]) rfl ⟨q,x,S1,n1,ov1,rfl,by rw [HBD.out];exact HA.out.bnd fun h0 a ha _=>by obtain ⟨rfl,rfl,hk⟩:=ha;exact ⟨_,by rw [af_max,if_neg (fun e=>e hk),HOO.out,if_neg (fun e=>by have:=HG.out;omega)];rfl,rfl⟩,hd9,hm9⟩
theorem deed_min {d:Nat} (HD:DoC (ev d) d):DeedC d 13 93:=by
 intro w0 A c E b l S n ov w k r hcx hd hg hkl ho hrn hx hd24
 have HBD:Hid (body (ev d) (nd l k) (l.drop (k+1)) S n=bnd (bnd (prt (ev d) [-1,-1] (l.drop (k+1))) alk) (af 13) S n):=by show _=_;exact (congrFun (congrFun (body_prt ho (by decide) (by decide) (by decide) (by decide) (by decide) (by decide)) S) n).trans (congrFun (congrFun (alk_bnd _ (fun l h=>(af_min l).trans (by rw [if_pos h];rfl))) S) n)
 have HP:=qq (alike_any HD hcx (hd.old (box1 w vbox)) hg hkl hx (by decide) hd24)
 have hb0:Box w0 b E ov w.heap.size zz (w.alloc vbox):=Box.made hd (by omega) 28 zz
 have hm0:Mv b ov w ov (w.alloc vbox):=Mv.of (box1 w vbox)
 have HB0:=qq hb0;have HM0:=qq hm0
 clear hcx hd hg hx ho hrn hd24 HD hb0 hm0
 go_enter Tryz.func93,Tryz.ntmps93
 go_wp2_with fail
 refine (HP.out).mono ?_
 rintro e w3 ⟨p,q,x,S1,n1,ov1,rfl,ha,r0,r1,hgd,hd3,hm3⟩
 have HA:=qq ha;have HD3:=qq hd3
 clear r0 r1 hgd
 have HX3:=qq (HB0.out.mv hm3);have HM3:=qq (HM0.out.trans hm3)
 have hlZ:=HX3.out.blk.lt
 clear ha hd3 hm3 HP HB0 HM0
 have HO:=qq (order_va p q)
 obtain ⟨o,ho⟩:∃ o,ord p q=o:=⟨_,rfl⟩
 have HOO:=qq ho
 rw [ho] at HO
 clear ho
 go_wp2_with fail
 refine (HO.out _).mono ?_
 rintro e w4 ⟨rfl,hb⟩
 have HD4:=qq (((HD3.out.old (box1 _ (.cells p 28))).old (box1 _ (.cells q 28))).old hb)
 have HM4:=qq (((HM3.out.old (box1 _ (.cells p 28))).old (box1 _ (.cells q 28))).old hb)
 have HX4:=qq (((HX3.out.old (box1 _ (.cells p 28))).old (box1 _ (.cells q 28))).old hb)
 have HA4:Hid (Box w0 b E ov1 (w3.heap.size) p w4):=by
  have h:=Box.made HD3.out (by omega) 28 p
  exact ((h.old (box1 _ (.cells q 28)))).old hb
 have HB4:Hid (Box w0 b E ov1 (w3.heap.size+1) q w4):=by
  have h:=Box.made (HD3.out.old (box1 _ (.cells p 28))) (by omega) 28 q
  simp only [World.size_alloc] at h
  exact (h).old hb
 clear hb HD3 HM3 HX3  
 by_cases hgt:0<o
 · have HG:=qq hgt
   obtain ⟨qB0,qB1,qB2,qB3,qB4⟩:=ck5 HB4.out.blk
   obtain ⟨cX0,cX1,cX2,cX3,cX4,zX0,zX1,zX2,zX3,zX4,hltX⟩:=HX4.out.fiv
   go_wp2_with fail
   refine dend0 (P:=bodyPost _ _ _ _ _) HD4.out HM4.out HX4.out (by omega) _ _ _ _ _ ?_
   clear qB0 qB1 qB2 qB3 qB4 cX0 cX1 cX2 cX3 cX4 zX0 zX1 zX2 zX3 zX4 HD4 HM4 HX4 HA4 HB4 
   intro w9 hd9 hm9 cX0 cX1 cX2 cX3 cX4
   refine bodyPost_ret (v:=.tuple #[.agg q,.int .i64 x]) (by simp [results,Tryz.results93,go_sem,cX0,cX1,cX2,cX3,cX4]) rfl ⟨q,x,S1,n1,ov1,rfl,by rw [HBD.out];exact HA.out.bnd fun h0 a ha _=>by obtain ⟨rfl,rfl,hk⟩:=ha;exact ⟨_,by rw [af_min,if_neg (fun e=>e hk),HOO.out,if_pos HG.out];rfl,rfl⟩,hd9,hm9⟩
 · have HG:=qq hgt
   obtain ⟨qA0,qA1,qA2,qA3,qA4⟩:=ck5 HA4.out.blk
   obtain ⟨cX0,cX1,cX2,cX3,cX4,zX0,zX1,zX2,zX3,zX4,hltX⟩:=HX4.out.fiv
   go_wp2_with fail
   refine dend0 (P:=bodyPost _ _ _ _ _) HD4.out HM4.out HX4.out (by omega) _ _ _ _ _ ?_
   clear qA0 qA1 qA2 qA3 qA4 cX0 cX1 cX2 cX3 cX4 zX0 zX1 zX2 zX3 zX4 HD4 HM4 HX4 HA4 HB4 
   intro w9 hd9 hm9 cX0 cX1 cX2 cX3 cX4
   refine bodyPost_ret (v:=.tuple #[.agg p,.int .i64 x]) (by simp [results,Tryz.results93,go_sem,cX0,cX1,cX2,cX3,cX4]) rfl ⟨p,x,S1,n1,ov1,rfl,by rw [HBD.out];exact HA.out.bnd fun h0 a ha _=>by obtain ⟨rfl,rfl,hk⟩:=ha;exact ⟨_,by rw [af_min,if_neg (fun e=>e hk),HOO.out,if_neg (fun e=>by have:=HG.out;omega)];rfl,rfl⟩,hd9,hm9⟩
end Go.Proofs.YtgakcpcpfkoaiaaGreatDoor.Ev

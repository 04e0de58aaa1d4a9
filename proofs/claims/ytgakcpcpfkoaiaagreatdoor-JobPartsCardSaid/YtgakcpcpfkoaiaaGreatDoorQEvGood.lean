/-
  A text of this claim: EvGood.
-/
import Derived.Test.YtgakcpcpfkoaiaaGreatDoorQ1
import Derived.Test.YtgakcpcpfkoaiaaGreatDoorQ2
namespace Go.Proofs.YtgakcpcpfkoaiaaGreatDoor.Ev
open Ov Tp Ga Va Ex
structure Gd (S:St) (n:Nat):Prop where
 key:S.key.length≤4096
 val:rt S.val=true
 acc:rt S.acc=true
 i:-9007199254740992≤S.i∧S.i≤9007199254740992
 it:rt S.it=true
 out:S.out.length≤64
 fuel:n≤100000
theorem rt_all {v:Va} (h:rt v=true):(-9007199254740992≤v.n∧v.n≤9007199254740992)∧v.s.length≤4096∧rb (pt v)=true∧(v.k=0∨v.k=1∨v.k=2):=by
 rcases rt_yes h with ⟨h0,h1,h2,h3,h4,h5⟩ | ⟨h0,h1,h2,h3,h4⟩ | ⟨h0,h1,h2,h3⟩
 · exact ⟨⟨h1,h2⟩,by rw [h3];simp,by unfold pt;rw [h4,h5];rfl,.inl h0⟩
 · exact ⟨by omega,h2,by unfold pt;rw [h3,h4];rfl,.inr (.inl h0)⟩
 · exact ⟨by omega,by rw [h2];simp,h3,.inr (.inr h0)⟩
theorem rt_nv {n:Int} (h:-9007199254740992≤n∧n≤9007199254740992):rt (nv n)=true:=decide_eq_true (.inl ⟨rfl,h.1,h.2,rfl,rfl,rfl⟩)
theorem rt_tv {s:List UInt8} (h:s.length≤4096):rt (tv s)=true:=decide_eq_true (.inr (.inl ⟨rfl,rfl,h,rfl,rfl⟩))
theorem rt_pv {x y:Int} (h:rb ⟨x,y⟩=true):rt (pv x y)=true:=decide_eq_true (.inr (.inr ⟨rfl,rfl,rfl,h⟩))
theorem rt_tr (b:Bool):rt (tr b)=true:=by cases b <;> rfl
theorem rt_vz:rt vz=true:=rfl
theorem chk_right {v u:Va} (h:chk v=.inr u):rt u=true:=by
 unfold chk at h
 split at h
 · rename_i hv;injection h with h;rw [← h];exact hv
 · cases h
theorem qf_rest {a b:Int} (hb:b ≠ 0):(0<b→0≤a - qf a b * b∧a - qf a b * b<b)∧(b<0→b<a - qf a b * b∧a - qf a b * b≤0):=by
 have h1:=Int.mul_tdiv_add_tmod a b
 rw [Int.mul_comm] at h1
 have h2:(0≤a→0≤a.tmod b)∧(a≤0→a.tmod b≤0):=⟨fun h=>Int.tmod_nonneg b h,fun h=>by
  have:=Int.tmod_nonneg b (show 0≤-a by omega)
  rw [Int.neg_tmod] at this;omega⟩
 have h3:(0<b→-b<a.tmod b∧a.tmod b<b)∧(b<0→b<a.tmod b∧a.tmod b < -b):=by
  have g:=Int.natAbs_tmod a b
  have g2:=Nat.mod_lt a.natAbs (show 0<b.natAbs by omega)
  rw [← g] at g2
  omega
 unfold qf
 split
 · rename_i h
   obtain ⟨h4,h5⟩:=h
   rw [Int.sub_mul,Int.one_mul]
   generalize a.tdiv b * b=p at *
   generalize a.tmod b=r at *
   have h6:(a<0∧¬ b<0)∨(¬ a<0∧b<0):=by
    by_cases x:a<0 <;> by_cases y:b<0
    · exact absurd (by simp [x,y]) h5
    · exact .inl ⟨x,y⟩
    · exact .inr ⟨x,y⟩
    · exact absurd (by simp [x,y]) h5
   omega
 · rename_i h
   generalize a.tdiv b * b=p at *
   generalize a.tmod b=r at *
   by_cases h4:r=0
   · omega
   · have h6:(a<0∧b<0)∨(¬ a<0∧¬ b<0):=by
      by_cases x:a<0 <;> by_cases y:b<0
      · exact .inl ⟨x,y⟩
      · exact absurd ⟨h4,by simp [x,y]⟩ h
      · exact absurd ⟨h4,by simp [x,y]⟩ h
      · exact .inr ⟨x,y⟩
     omega
theorem nums_right {o:Int} {a b:Int} {v:Va} (_ha:-9007199254740992≤a∧a≤9007199254740992) (hb:-9007199254740992≤b∧b≤9007199254740992) (h:nums o a b=.inr v):rt v=true:=by
 unfold nums at h
 split at h
 · exact chk_right h
 split at h
 · exact chk_right h
 split at h
 · exact chk_right h
 split at h
 · cases h
 rename_i h0
 split at h
 · exact chk_right h
 · injection h with h
   rw [← h]
   have:=qf_rest (a:=a) h0
   exact rt_nv (by omega)
theorem spots_right {o:Int} {a b:Pt} {v:Va} (ha:rb a=true) (hb:rb b=true) (h:spots o a b=.inr v):rt v=true:=by
 unfold spots at h
 split at h
 · exact chk_right h
 split at h
 · exact chk_right h
 split at h
 · exact chk_right h
 split at h
 · cases h
 rename_i h0
 split at h
 · injection h with h;rw [← h];exact rt_pv (Pt.quo_right ha h0)
 · injection h with h;rw [← h];exact rt_pv (Pt.rest_right hb h0)
theorem rk_right {o:Int} {a b v:Va} (ha:rt a=true) (hb:rt b=true) (h:rk o a b=.inr v):rt v=true:=by
 unfold rk at h
 split at h
 · cases h
 split at h
 · exact nums_right (rt_all ha).1 (rt_all hb).1 h
 split at h
 · exact spots_right (rt_all ha).2.2.1 (rt_all hb).2.2.1 h
 · cases h
theorem sp_le (s:List UInt8):(sp s).length≤s.length:=(List.dropWhile_sublist _).length_le
theorem bh_le (s:List UInt8):(st s).length+(bh s).length≤s.length:=by
 have h:=sp_le s
 have:(sp s).length=(st s).length+(bh s).length:=by
  unfold st bh
  rw [← List.length_append,List.takeWhile_append_dropWhile]
 omega
theorem wdF_le (f:Nat):∀ s:List UInt8,(wdF f s).length≤s.length∧∀ x ∈ wdF f s,x.length≤s.length:=by
 induction f with
 | zero=>intro s;exact ⟨Nat.zero_le _,fun x h=>by cases h⟩
 | succ f ih =>
   intro s
   unfold wdF
   split
   · exact ⟨Nat.zero_le _,fun x h=>by cases h⟩
   · rename_i h0
     have h1:=bh_le s
     have h2:0<(st s).length:=List.length_pos_iff.2 h0
     have h3:=ih (bh s)
     refine ⟨by rw [List.length_cons];omega,fun x hx=>?_⟩
     rcases List.mem_cons.1 hx with rfl | hx
     · omega
     · have:=h3.2 x hx;omega
theorem wr_short {v:Va} (h:rt v=true) (hk:v.k ≠ 1):(wr v).length≤4096:=by
 have h1:=rt_all h
 have h2:=rb_yes h1.2.2.1
 unfold pt at h2
 dsimp only at h2
 unfold wr
 rw [if_neg hk]
 split
 · have:=Lib.itoa_length_le v.x (by omega) (by omega)
   have:=Lib.itoa_length_le v.y (by omega) (by omega)
   simp;omega
 · have:=Lib.itoa_length_le v.n (by omega) (by omega)
   omega
theorem numOf_right {s:List UInt8} {v:Va} (h:numOf s=.inr v):rt v=true:=by
 unfold numOf at h
 split at h
 · rename_i hc
   injection h with h
   rw [← h]
   exact (pz_ok (l:=s) (v:=(pz s).1) (z:=(pz s).2.1) (by
    have:=hc.1
    exact Prod.ext rfl (Prod.ext rfl this))).1
 · cases h
theorem ite_or {α:Type} {c:Prop} [Decidable c] {x y z:α} (h:(if c then x else y)=z):(c∧x=z)∨(¬ c∧y=z):=by
 split at h
 · exact .inl ⟨‹_›,h⟩
 · exact .inr ⟨‹_›,h⟩
theorem pu_right {o:Int} {a b c v:Va} (ha:rt a=true) (hb:rt b=true) (h:pu o a b c=.inr v):rt v=true:=by
 have ga:=rt_all ha
 have gr:=rb_yes ga.2.2.1
 unfold pt at gr
 dsimp only at gr
 unfold pu at h
 rcases ite_or h with ⟨_,h⟩ | ⟨_,h⟩
 · exact rk_right ha hb h
 rcases ite_or h with ⟨_,h⟩ | ⟨_,h⟩
 · split at h
   · injection h with h;rw [← h];exact rt_nv (by omega)
   split at h
   · injection h with h;rw [← h];exact rt_pv (rb_of (by dsimp only;omega))
   · cases h
 rcases ite_or h with ⟨_,h⟩ | ⟨_,h⟩
 · split at h
   · cases h
   · injection h with h;rw [← h];exact rt_tr _
 rcases ite_or h with ⟨_,h⟩ | ⟨_,h⟩
 · injection h with h;rw [← h];exact rt_tr _
 rcases ite_or h with ⟨_,h⟩ | ⟨_,h⟩
 · injection h with h;rw [← h];exact rt_tr _
 rcases ite_or h with ⟨_,h⟩ | ⟨_,h⟩
 · split at h
   · cases h
   · injection h with h;rw [← h];split <;> assumption
 rcases ite_or h with ⟨_,h⟩ | ⟨_,h⟩
 · split at h
   · cases h
   · injection h with h;rw [← h];split <;> assumption
 rcases ite_or h with ⟨_,h⟩ | ⟨_,h⟩
 · split at h
   · cases h
   · injection h with h;rw [← h];exact rt_tv (by rw [List.length_append];omega)
 rcases ite_or h with ⟨_,h⟩ | ⟨_,h⟩
 · injection h with h;rw [← h];exact rt_nv (by omega)
 rcases ite_or h with ⟨_,h⟩ | ⟨_,h⟩
 · split at h
   · cases h
   · injection h with h;rw [← h];exact rt_tv (by rw [List.length_drop,List.length_take];omega)
 rcases ite_or h with ⟨_,h⟩ | ⟨_,h⟩
 · split at h
   · cases h
   split at h
   · rename_i x hx
     injection h with h;rw [← h]
     have:=(wdF_le (a.s.length+1) a.s).2 x (List.mem_of_getElem? hx)
     exact rt_tv (by omega)
   · cases h
 rcases ite_or h with ⟨_,h⟩ | ⟨_,h⟩
 · injection h with h;rw [← h]
   have:=(wdF_le (a.s.length+1) a.s).1
   exact rt_nv (by unfold wds;omega)
 rcases ite_or h with ⟨_,h⟩ | ⟨_,h⟩
 · exact numOf_right h
 rcases ite_or h with ⟨_,h⟩ | ⟨_,h⟩
 · split at h
   · injection h with h;rw [← h];exact ha
   · injection h with h;rw [← h];exact rt_tv (wr_short ha ‹_›)
 rcases ite_or h with ⟨_,h⟩ | ⟨_,h⟩
 · exact chk_right h
 rcases ite_or h with ⟨_,h⟩ | ⟨_,h⟩
 · injection h with h;rw [← h];exact rt_nv (by omega)
 rcases ite_or h with ⟨_,h⟩ | ⟨_,h⟩
 · injection h with h;rw [← h];exact rt_nv (by omega)
 rcases ite_or h with ⟨_,h⟩ | ⟨_,h⟩
 · injection h with h;rw [← h]
   have h1:=le_sq (a:=a.x) (b:=16777216) gr.1.1 gr.1.2
   have h2:=le_sq (a:=a.y) (b:=16777216) gr.2.1 gr.2.2
   have h3:=sq_nonneg a.x
   have h4:=sq_nonneg a.y
   exact rt_nv (by omega)
 rcases ite_or h with ⟨_,h⟩ | ⟨_,h⟩
 · injection h with h;rw [← h];exact rt_pv (rb_of (by dsimp only;omega))
 · injection h with h;rw [← h];exact hb
def GdM {α:Type} (f:M α) (P:α→Prop):Prop:=∀ S n a S1 n1,Gd S n→f S n=.ok a S1 n1→P a∧Gd S1 n1
theorem GdM.ret {α:Type} {a:α} {P:α→Prop} (h:P a):GdM (ret a) P:=by
 intro S n b S1 n1 hg e
 injection e with e1 e2 e3
 subst e1;subst e2;subst e3
 exact ⟨h,hg⟩
theorem GdM.fail {α:Type} {x:Int} {P:α→Prop}:GdM (fail x) P:=by
 intro S n b S1 n1 hg e
 cases e
theorem GdM.bnd {α β:Type} {f:M α} {g:α→M β} {P:α→Prop} {Q:β→Prop} (hf:GdM f P) (hg:∀ a,P a→GdM (g a) Q):GdM (bnd f g) Q:=by
 intro S n b S1 n1 h e
 unfold Ev.bnd at e
 cases hc:f S n with
 | er x=>rw [hc] at e;cases e
 | ok a S2 n2 =>
   rw [hc] at e
   obtain ⟨h1,h2⟩:=hf S n a S2 n2 h hc
   exact hg a h1 S2 n2 b S1 n1 h2 e
theorem GdM.ite {α:Type} {c:Prop} [Decidable c] {f g:M α} {P:α→Prop} (hf:c→GdM f P) (hg:¬ c→GdM g P):GdM (if c then f else g) P:=by
 split
 · exact hf ‹_›
 · exact hg ‹_›
theorem GdM.lift {x:Int ⊕ Va} {P:Va→Prop} (h:∀ v,x=.inr v→P v):GdM (lift x) P:=by
 cases x with
 | inl e=>exact GdM.fail
 | inr v=>exact GdM.ret (h v rfl)
def AllR (l:List Va):Prop:=∀ v ∈ l,rt v=true
theorem AllR.at {l:List Va} (h:AllR l) (j:Nat):rt (l.getD j vz)=true:=by
 rw [List.getD_eq_getElem?_getD]
 cases hc:l[j]? with
 | none=>exact rt_vz
 | some v=>exact h v (List.mem_of_getElem? hc)
theorem AllR.snoc {l:List Va} {v:Va} (h:AllR l) (hv:rt v=true):AllR (l++[v]):=by
 intro u hu
 rcases List.mem_append.1 hu with hu | hu
 · exact h u hu
 · rw [List.mem_singleton.1 hu];exact hv
theorem emit_good {k:List UInt8} {v:Va} (h:rt v=true):GdM (emitM k v) (fun a=>rt a=true):=by
 intro S n b S1 n1 hg e
 unfold emitM at e
 split at e
 · cases e
 · injection e with e1 e2 e3
   subst e1;subst e2;subst e3
   exact ⟨h,hg.key,hg.val,hg.acc,hg.i,hg.it,by rw [List.length_append,List.length_singleton];omega,hg.fuel⟩
theorem ap_good (o:Int) {l:List Va} (h:AllR l):GdM (ap o l) (fun a=>rt a=true):=by
 unfold ap
 refine GdM.ite (fun _=>GdM.fail) fun _=>GdM.ite (fun _=>GdM.ite (fun _=>GdM.fail) fun _=>emit_good (h.at 1)) fun _=>GdM.lift fun v hv=>pu_right (h.at 0) (h.at 1) hv
theorem tick_good:GdM tick (fun _=>True):=by
 intro S n b S1 n1 hg e
 cases n with
 | zero=>cases e
 | succ n =>
   injection e with e1 e2 e3
   subst e2;subst e3
   exact ⟨trivial,hg.key,hg.val,hg.acc,hg.i,hg.it,hg.out,by have:=hg.fuel;omega⟩
theorem nmd_good (k:Int):GdM (nmd k) (fun a=>rt a=true):=by
 intro S n b S1 n1 hg e
 injection e with e1 e2 e3
 subst e1;subst e2;subst e3
 refine ⟨?_,hg⟩
 split
 · exact rt_tv hg.key
 split
 · exact hg.val
 split
 · exact hg.acc
 split
 · exact rt_nv hg.i
 · exact hg.it
theorem setI_good {k:Int} (h:-9007199254740992≤k∧k≤9007199254740992):GdM (setI k) (fun _=>True):=by
 intro S n b S1 n1 hg e
 injection e with e1 e2 e3
 subst e2;subst e3
 exact ⟨trivial,hg.key,hg.val,hg.acc,h,hg.it,hg.out,hg.fuel⟩
theorem withI_good {f:M Va} {P:Va→Prop} (h:GdM f P):GdM (withI f) P:=by
 intro S n b S1 n1 hg e
 unfold withI at e
 cases hc:f S n with
 | er x=>rw [hc] at e;cases e
 | ok a S2 n2 =>
   rw [hc] at e
   injection e with e1 e2 e3
   subst e1;subst e2;subst e3
   obtain ⟨h1,h2⟩:=h S n a S2 n2 hg hc
   exact ⟨h1,h2.key,h2.val,h2.acc,hg.i,h2.it,h2.out,h2.fuel⟩
theorem withIt_good {v:Va} {f:M Va} {P:Va→Prop} (hv:rt v=true) (h:GdM f P):GdM (withIt v f) P:=by
 intro S n b S1 n1 hg e
 unfold withIt at e
 cases hc:f { S with it:=v } n with
 | er x=>rw [hc] at e;cases e
 | ok a S2 n2 =>
   rw [hc] at e
   injection e with e1 e2 e3
   subst e1;subst e2;subst e3
   obtain ⟨h1,h2⟩:=h { S with it:=v } n a S2 n2 ⟨hg.key,hg.val,hg.acc,hg.i,hv,hg.out,hg.fuel⟩ hc
   exact ⟨h1,h2.key,h2.val,h2.acc,h2.i,hg.it,h2.out,h2.fuel⟩
theorem lp_good {g:M Va} (h:GdM g (fun a=>rt a=true)):∀ (t:Nat) (k:Int) (v:Va),0≤k→k+t≤9007199254740992→rt v=true→GdM (lp g t k v) (fun a=>rt a=true)
 | 0,_,_,_,_,hv=>GdM.ret hv
 | t+1,k,_,h0,h1,_=>by
   rw [lp_succ]
   exact (setI_good (by omega)).bnd fun _ _=>h.bnd fun v hv=>lp_good h t (k+1) v (by omega) (by omega) hv
theorem va_good {d:Nat} {f:List No→M Va} (hf:∀ l r,ex d l=some r→GdM (f l) (fun a=>rt a=true)) (hd:d≤25) :
 ∀ (k:Nat) (r r':List No) (acc:List Va),it (ex d) k r=some r'→AllR acc→GdM (va f k r acc) AllR
 | 0,_,_,_,_,ha=>GdM.ret ha
 | k+1,r,r',acc,h,ha=>by
   rw [it_succ] at h
   obtain ⟨r1,h1,h2⟩:=Option.bind_eq_some_iff.1 h
   rw [va_succ,nx_of h1 hd]
   exact (hf r r1 h1).bnd fun v hv=>va_good hf hd k r1 r' _ h2 (ha.snoc hv)
theorem body_good {d:Nat} (hf:∀ l r,ex d l=some r→GdM (ev d l) (fun a=>rt a=true)) (hd:d≤25) {n:No} {r r':List No} (hn:rn n=true) (h:it (ex d) (pa n.o) r=some r') :
 GdM (body (ev d) n r) (fun a=>rt a=true):=by
 unfold body
 refine GdM.ite (fun h0=>?_) fun h0=>GdM.ite (fun _=>nmd_good _) fun h1=>GdM.ite (fun h11=>?_) fun _=>GdM.ite (fun h28=>?_) fun _=>GdM.ite (fun h29=>?_) fun _=>?_
 · rcases rn_cases hn with ⟨_,g⟩ | ⟨g,_⟩ | ⟨g,_⟩
   · exact GdM.ret g
   · omega
   · omega
 · rw [h11] at h
   change it (ex d) 3 r=some r' at h
   rw [it_succ] at h
   obtain ⟨r1,e1,h⟩:=Option.bind_eq_some_iff.1 h
   rw [it_succ] at h
   obtain ⟨r2,e2,h⟩:=Option.bind_eq_some_iff.1 h
   rw [it_succ] at h
   obtain ⟨r3,e3,h⟩:=Option.bind_eq_some_iff.1 h
   rw [nx_of e1 hd,nx_of e2 hd]
   exact (hf _ _ e1).bnd fun a _=>GdM.ite (fun _=>GdM.fail) fun _=>GdM.ite (fun _=>hf _ _ e3) fun _=>hf _ _ e2
 · rw [h28] at h
   change it (ex d) 2 r=some r' at h
   rw [it_succ] at h
   obtain ⟨r1,e1,h⟩:=Option.bind_eq_some_iff.1 h
   rw [it_succ] at h
   obtain ⟨r2,e2,h⟩:=Option.bind_eq_some_iff.1 h
   rw [nx_of e1 hd]
   exact (hf _ _ e1).bnd fun a ha=>GdM.ite (fun _=>GdM.fail) fun _=>GdM.ite (fun _=>GdM.fail) fun h0=>withI_good (lp_good (hf _ _ e2) _ _ _ (Int.le_refl 0) (by have:=(rt_all ha).1;omega) rt_vz)
 · rw [h29] at h
   change it (ex d) 2 r=some r' at h
   rw [it_succ] at h
   obtain ⟨r1,e1,h⟩:=Option.bind_eq_some_iff.1 h
   rw [it_succ] at h
   obtain ⟨r2,e2,h⟩:=Option.bind_eq_some_iff.1 h
   rw [nx_of e1 hd]
   exact (hf _ _ e1).bnd fun a ha=>withIt_good ha (hf _ _ e2)
 · exact (va_good hf hd _ _ _ _ h (fun v hv=>by cases hv)).bnd fun l hl=>ap_good _ hl
theorem ev_good:∀ (d:Nat),d≤25→∀ l r,ex d l=some r→GdM (ev d l) (fun a=>rt a=true)
 | 0,_,_,_,h=>by cases h
 | d+1,hd,l,r,h=>by
   cases l with
   | nil=>cases h
   | cons n t =>
     rw [ex_cons] at h
     split at h
     · rename_i hn
       rw [ev_cons]
       exact tick_good.bnd fun _ _=>body_good (ev_good d (by omega)) (by omega) hn h
     · cases h
end Go.Proofs.YtgakcpcpfkoaiaaGreatDoor.Ev

/-
  Small texts of this claim, together: VaCut, OvPre, OvText, OvOwn, OvTail, VaVal, JoMath, JoSmall, JoName, EvMath, OvFloat, GaSmall, GaAdd, GaMul, GaNear, OvClone, OvBuild, OvBld, VaWrite, CrMath, JoAns, TpOne, ErPz.
-/
import Derived.Test.YtgakcpcpfkoaiaaGreatDoorQ1
import Derived.Shelf.Strings.Prefix
import Derived.Deep.RegionLaw
import Derived.StillTail
import Derived.WalkKit
import Derived.ProofKit
import Derived.Lib.SmallJoins
import Derived.OpenShut
import Derived.ShutString
import Derived.Test.YtgakcpcpfkoaiaaGreatDoorRows
import Derived.Laws.ComplexArith
import Derived.Lib.Hide
import Derived.Shelf.Pu.Clone
import Derived.Shelf.Strings.Builder1
import Derived.Maps.OwnSet
import Derived.RegionTactic
import Derived.ChangeAlike
set_option maxHeartbeats 2000000
set_option maxRecDepth 100000
namespace Go.Proofs.YtgakcpcpfkoaiaaGreatDoor.Va
open Go.ChangeShapes Go.WideShapes Go.ChangeAt Go.RowKit Ov Tp
def JD (s:ByteArray) (w:World) (a':Act) (w':World):Prop:=∃ (k n:Nat) (u7 u8 u9 u10 u11 u12 u13 u14 u15 u16 u17 u18 u19 u20 u21 u22 u23 u24 u25 u26 u27 u28 u29 u30 u31 u32 u33 u34 u35 u36 u37 u38 u39 u40 u41 u42:Value),
 k≤s.size∧k≤tw s.data.toList∧n=sat (s.data.toList.take k)∧w'=w ∧
 a'={ tmps:=#[.string s,undef,.int .i64 0,.int .i64 0,.int .i64 0,.int .i64 (n:Int),.int .i64 (k:Int),u7,u8,u9,u10,u11,u12,u13,u14,u15,u16,u17,u18,u19,u20,u21,u22,u23,u24,u25,u26,u27,u28,u29,u30,u31,u32,u33,u34,u35,u36,u37,u38,u39,u40,u41,u42],defers:=[] }
def muD (s:ByteArray) (a:Act) (_:World):Nat:=s.size - (intOf (a.tmps.getD 6 undef)).toNat
def cdv (r:Nat × Nat × Nat):Value:=.tuple #[.int .i64 (r.1:Int),.int .i64 (r.2.1:Int),.int .i64 (r.2.2:Int)]
theorem sat_le (l:List UInt8):sat l≤9007199254740993:=by rw [sat_dv];omega
theorem sat_take {s:ByteArray} {k:Nat} (h:k<s.size):sat (s.data.toList.take (k+1))=min (10 * sat (s.data.toList.take k)+(s[k].toNat - 48)) 9007199254740993:=by
 rw [take_snoc s k h,sat_snoc]
theorem head_at {s:ByteArray} (h:0<s.size):s.data.toList.head? = some s[0]:=by
 have hl:0<s.data.toList.length:=by simpa using h
 rw [List.head?_eq_getElem?,List.getElem?_eq_getElem hl];rfl
theorem empty_of {s:ByteArray} (h:s.size=0):s.toList=[]:=by
 rw [ByteArray.toList_eq];exact List.eq_nil_of_length_eq_zero (by simpa using h)
theorem full_of {s:ByteArray} (h:s.size ≠ 0):s.toList ≠ []:=by
 rw [ByteArray.toList_eq];intro e
 have h1:=congrArg List.length e
 have h2:s.data.toList.length=s.size:=by simp
 rw [h2] at h1;exact h h1
theorem cd_end {s:ByteArray} {k:Nat} (hk:tw s.data.toList=k) (hs:s.size ≠ 0):cd s.data.toList=if k=0∨(1<k∧(s[0]'(by omega)).toNat=48) then (0,0,6) else (sat (s.data.toList.take k),k,0):=by
 unfold cd
 rw [if_neg (by rw [← ByteArray.toList_eq];exact full_of hs),hk,head_at (by omega)]
 have e:(some (s[0]'(by omega))=some (48:UInt8))↔(s[0]'(by omega)).toNat=48:=by
  constructor
  · intro h;rw [Option.some.inj h];rfl
  · intro h;rw [UInt8.toNat_inj.1 (show (s[0]'(by omega)).toNat=(48:UInt8).toNat from h)]
 simp only [e]
theorem cutDigits_any (s:ByteArray) (w:World) (hs:s.size≤281474976710656) :
 Calls Tryz.prog 182 #[.string s] w fun e w'=>e=.returned (cdv (cd s.data.toList))∧w=w':=by
 go_enter Tryz.func182,Tryz.ntmps182
 go_wp2
 refine wp_scope_once 0 (JD s w) (muD s) rfl (fun NX=>?_) ?_
 · go_wp2_with fail
   go_step3
   rename_i hK
   exact hK _ _ (NX.out _ _ ⟨0,0,_,_,_,_,_,_,_,_,_,_,_,_,_,_,_,_,_,_,_,_,_,_,_,_,_,_,_,_,_,_,_,_,_,_,_,_,by omega,by omega,by simp [sat],rfl,rfl⟩)
 · rintro a' w' ⟨k,n,u7,u8,u9,u10,u11,u12,u13,u14,u15,u16,u17,u18,u19,u20,u21,u22,u23,u24,u25,u26,u27,u28,u29,u30,u31,u32,u33,u34,u35,u36,u37,u38,u39,u40,u41,u42,hk,htw,hn,rfl,rfl⟩
   have HN:=qq hn
   have hnb:n≤9007199254740993:=by rw [hn];exact sat_le _
   clear hn
   by_cases hd:∃ h:k<s.size,dg s[k]=true
   · obtain ⟨hlt,hd⟩:=hd
     have HT:=qq (tw_yes (l:=s.data.toList) (k:=k) (by simpa using hlt) htw hd)
     have HS:=qq (sat_take hlt)
     obtain ⟨c,hc⟩:∃ c:UInt8,s[k]=c:=⟨_,rfl⟩
     rw [hc] at HS hd
     have HG:=qq (isDigit_any c)
     rw [hd] at HG
     obtain ⟨b1,b2⟩:48≤c.toNat∧c.toNat≤57:=of_decide_eq_true hd
     clear hd htw
     go_wp2_with fail
     refine (HG.out _).mono ?_
     rintro e w' ⟨rfl,rfl⟩
     have HM:Hid (min (10 * (n:Int)+((c.toNat:Int) - 48)) 9007199254740993=((min (10 * n+(c.toNat - 48)) 9007199254740993:Nat):Int)):=by show _=_;omega
     go_wp2_with fail
     go_step3
     refine ⟨rfl,⟨k+1,min (10 * n+(c.toNat - 48)) 9007199254740993,_,_,_,_,_,_,_,_,_,_,_,_,_,_,_,_,_,_,_,_,_,_,_,_,_,_,_,_,_,_,_,_,_,_,_,_,by omega,HT.out,by rw [HS.out,← HN.out],rfl,by rw [HM.out];rfl⟩,?_⟩
     simp [muD,intOf];omega
   · have HK:Hid (tw s.data.toList=k):=by
      show _=_
      by_cases hlt:k<s.size
      · exact tw_no (by simpa using hlt) htw (by
         rcases Bool.eq_false_or_eq_true (dg s[k]) with e | e
         · exact absurd ⟨hlt,e⟩ hd
         · exact e)
      · have:=tw_le s.data.toList
        have h2:s.data.toList.length=s.size:=by simp
        omega
     clear htw
     by_cases hz:s.size=0
     · have h1:=empty_of hz
       have h2:¬ (k:Int)<(s.size:Int):=by omega
       have HE:Hid (cd s.data.toList=(0,0,2)):=by
        show _=_
        unfold cd;rw [if_pos (by rw [← ByteArray.toList_eq];exact h1)]
       clear hd
       go_wp2_with fail
       simp only [Exit.jump]
       go_ret3
       exact ⟨by rw [HE.out];rfl,rfl⟩
     · have h1:=full_of hz
       have h1':s.toList.isEmpty=false:=by simpa using h1
       have HC:=qq (cd_end HK.out hz)
       have h3:0<s.size:=by omega
       obtain ⟨c0,hc0⟩:∃ c:UInt8,s[0]'h3=c:=⟨_,rfl⟩
       rw [hc0] at HC
       by_cases k0:k=0
       · subst k0
         have HE:Hid (cd s.data.toList=(0,0,6)):=by
          show _=_
          rw [HC.out,if_pos (.inl rfl)]
         clear HC HK
         have hdn:dg c0=false:=by
          rcases Bool.eq_false_or_eq_true (dg c0) with e | e
          · exact absurd ⟨h3,by rw [hc0];exact e⟩ hd
          · exact e
         have HG:=qq (isDigit_any c0)
         rw [hdn] at HG
         clear hdn hd
         go_wp2_with fail
         refine (HG.out _).mono ?_
         rintro e w' ⟨rfl,rfl⟩
         go_wp2_with fail
         simp only [Exit.jump]
         go_ret3
         exact ⟨by rw [HE.out];rfl,rfl⟩
       · have g0:((k:Int) == 0)=false:=by rw [beq_eq_false_iff_ne];omega
         by_cases k1:1<k
         · have g1:(1:Int)<(k:Int):=by omega
           by_cases k2:c0.toNat=48
           · have g2:((c0.toNat:Int) == 48)=true:=by rw [beq_iff_eq];omega
             have HE:Hid (cd s.data.toList=(0,0,6)):=by
              show _=_
              rw [HC.out,if_pos (.inr ⟨k1,k2⟩)]
             clear HC HK k2
             by_cases hlt:k<s.size
             · have hdn:dg s[k]=false:=by
                rcases Bool.eq_false_or_eq_true (dg s[k]) with e | e
                · exact absurd ⟨hlt,e⟩ hd
                · exact e
               obtain ⟨c,hc⟩:∃ c:UInt8,s[k]=c:=⟨_,rfl⟩
               rw [hc] at hdn
               have HG:=qq (isDigit_any c)
               rw [hdn] at HG
               clear hdn hd
               go_wp2_with fail
               refine (HG.out _).mono ?_
               rintro e w' ⟨rfl,rfl⟩
               go_wp2_with fail
               simp only [Exit.jump]
               go_ret3
               exact ⟨by rw [HE.out];rfl,rfl⟩
             · clear hd
               go_wp2_with fail
               simp only [Exit.jump]
               go_ret3
               exact ⟨by rw [HE.out];rfl,rfl⟩
           · have g2:((c0.toNat:Int) == 48)=false:=by rw [beq_eq_false_iff_ne];omega
             have HE:Hid (cd s.data.toList=(n,k,0)):=by
              show _=_
              rw [HC.out,if_neg (by omega),HN.out]
             clear HC HK k2
             by_cases hlt:k<s.size
             · have hdn:dg s[k]=false:=by
                rcases Bool.eq_false_or_eq_true (dg s[k]) with e | e
                · exact absurd ⟨hlt,e⟩ hd
                · exact e
               obtain ⟨c,hc⟩:∃ c:UInt8,s[k]=c:=⟨_,rfl⟩
               rw [hc] at hdn
               have HG:=qq (isDigit_any c)
               rw [hdn] at HG
               clear hdn hd
               go_wp2_with fail
               refine (HG.out _).mono ?_
               rintro e w' ⟨rfl,rfl⟩
               go_wp2_with fail
               simp only [Exit.jump]
               go_ret3
               exact ⟨by rw [HE.out];rfl,rfl⟩
             · clear hd
               go_wp2_with fail
               simp only [Exit.jump]
               go_ret3
               exact ⟨by rw [HE.out];rfl,rfl⟩
         · have g1:¬ (1:Int)<(k:Int):=by omega
           have HE:Hid (cd s.data.toList=(n,k,0)):=by
            show _=_
            rw [HC.out,if_neg (by omega),HN.out]
           clear HC HK
           by_cases hlt:k<s.size
           · have hdn:dg s[k]=false:=by
              rcases Bool.eq_false_or_eq_true (dg s[k]) with e | e
              · exact absurd ⟨hlt,e⟩ hd
              · exact e
             obtain ⟨c,hc⟩:∃ c:UInt8,s[k]=c:=⟨_,rfl⟩
             rw [hc] at hdn
             have HG:=qq (isDigit_any c)
             rw [hdn] at HG
             clear hdn hd
             go_wp2_with fail
             refine (HG.out _).mono ?_
             rintro e w' ⟨rfl,rfl⟩
             go_wp2_with fail
             simp only [Exit.jump]
             go_ret3
             exact ⟨by rw [HE.out];rfl,rfl⟩
           · clear hd
             go_wp2_with fail
             simp only [Exit.jump]
             go_ret3
             exact ⟨by rw [HE.out];rfl,rfl⟩
end Go.Proofs.YtgakcpcpfkoaiaaGreatDoor.Va
namespace Go.Proofs.YtgakcpcpfkoaiaaGreatDoor.Ov
open Go.ChangeShapes Go.WideShapes Go.ChangeAt Go.RowKit Go.Shelf
def preRen:Ren:=⟨fun | 99=>174 | 206=>183 | n=>n,fun | 3=>3 | 4=>4 | 9=>9 | n=>n,fun n=>n⟩
theorem preLays:Lays.n99 Tryz.prog preRen :=
 { mixed:=by kernel_rfl
   f99:=by kernel_rfl
   f206:=by kernel_rfl
   t3:=by kernel_rfl
   a3:=fun _=>by kernel_rfl
   z3:=fun _=>by kernel_rfl
   v3:=fun _=>by kernel_rfl
   t4:=by kernel_rfl
   a4:=fun _=>by kernel_rfl
   z4:=fun _=>by kernel_rfl
   v4:=fun _=>by kernel_rfl
   t9:=by kernel_rfl
   a9:=fun _=>by kernel_rfl
   z9:=fun _=>by kernel_rfl
   v9:=fun _=>by kernel_rfl }
theorem prefix_any (s:ByteArray) (c:UInt8) (w:World) :
 Calls Tryz.prog 174 #[.string s,.string ⟨#[c]⟩] w fun e w'=>e=.returned (.bool (decide (s.data.toList.head? = some c)))∧w=w' :=
 (Any.strings_HasPrefix preLays s ⟨#[c]⟩ w).mono fun _ _ ⟨he,hw⟩=>⟨by
   rw [he]
   have e:Lib.hasPrefix s.data.toList [c]=decide (s.data.toList.head? = some c):=by
    unfold Lib.hasPrefix
    cases s.data.toList with
    | nil=>rfl
    | cons a t=>rw [Bool.eq_iff_iff];simp [List.isPrefixOf];exact eq_comm
   exact congrArg (fun b=>Ending.returned (.bool b)) e,hw.symm⟩
end Go.Proofs.YtgakcpcpfkoaiaaGreatDoor.Ov
namespace Go.Proofs.YtgakcpcpfkoaiaaGreatDoor.Ov
open Go.ChangeShapes Go.WideShapes Go.ChangeAt Go.RowKit
theorem info8:(Tryz.prog.info? 5).map (fun i=>(i.zero,i.size,i.bytes))=some (some (.int .u8 0),1,1):=by kernel_rfl
theorem run_text {w:World} {b o c:Nat} {l:List UInt8} {m:Nat} (hm:m=l.length) (h:∀ j (hj:j<l.length),w.cell? ⟨b,o+j,none⟩=some (.int .u8 (l[j].toNat:Int))) :
 (convert 123 9 (.slice (some ⟨b,o,none⟩) m c)).run Tryz.prog w=.ok (.string (tx l)) w:=by
 have:=Lib.run_convert_whole (P:=Tryz.prog) w 123 5 9 Tryz.underlying123 Tryz.underlying5 Tryz.underlying9 b o (tx l) (fun i hi=>by
  rw [h i (by rwa [tx_size] at hi)];rfl) c
 rw [tx_size,← hm] at this
 exact this
theorem step_own {P:Program} (w:World) {ops:Array Oper} {o:Oper} {a:Act} {K:Act→World→Prop} {Q:Exit→Act→World→Prop} {E:Prop} (hgd:o.guard=none) (s x:Operand) (t:TypeId)
 (ho:o.op=.call { callee:=.builtin .append,args:=#[s,x],argTypes:=#[t,t] })
 (base:Nat) (e:TypeId) (i:TypeInfo) (z:Value) (size bytes:Nat) (ht:P.underlying t=some (.slice e)) (hi:P.info? e=some i) (hz:i.zero=some z)
 (hsize:i.size=size) (hby:i.bytes=bytes) (hzs:z.cells.size=size) (hsz:0<size)
 (v:Value) (n:Nat) (xs:List Value) (hs:a.eval s=v) (hown:w.ownsRow base e size v n xs)
 (ad:Addr) (m c:Nat) (news:List Value) (hx:a.eval x=.slice (some ad) m c) (hl:news.length=m * size) (hnews:∀ j u,news[j]? = some u→w.cell? (ad.add j)=some u) (h1:∀ u ∈ news,u.oneCell'=true)
 (h63:n+m≤maxLen) (hbytes:(n+m) * bytes≤140737488355328) (hbase:base≤w.heap.size)
 (h:∀ v' w',w'.ownsRow base e size v' (n+m) (xs++news)→w.grownBy w' v.ownBlock→(v'=.slice none 0 0↔v=.slice none 0 0∧m=0)→K (a.put o.dst v') w') :
 if Region.wanted o (yielded ops a.tmps)=true then Oper.wp P o a w K Q else E:=by
 have hw:Region.wanted o (yielded ops a.tmps)=true:=by simp [Region.wanted,hgd]
 rw [if_pos hw]
 exact wp_append_own w s x t ho base e i z size bytes ht hi hz hsize hby hzs hsz v n xs hs hown ad m c news hx hl hnews h1 h63 hbytes hbase h
theorem one_news (w:World) (v:Value) (ty:TypeId):∀ j u,[v][j]? = some u→(w.alloc (.cells #[v] ty)).cell? ((⟨w.heap.size,0,none⟩:Addr).add j)=some u:=by
 intro a u ha
 match a,ha with
 | 0,ha =>
   simp at ha;subst ha
   simp [Addr.add]
theorem one_one {v:Value} (h:v.oneCell'=true):∀ u ∈ [v],u.oneCell'=true:=by
 intro u hu;simp at hu;subst hu;exact h
theorem one_base {w w':World} (h:w.heap.size≤w'.heap.size) (o:Obj):w.heap.size≤(w'.alloc o).heap.size:=by simp;omega
def vals (l:List UInt8):List Value:=l.map fun b=>Value.int .u8 (b.toNat:Int)
theorem vals_snoc (l:List UInt8) (b:UInt8):vals (l++[b])=vals l++[.int .u8 (b.toNat:Int)]:=by simp [vals]
theorem vals_get (l:List UInt8) (j:Nat) (h:j<l.length):(vals l)[j]? = some (.int .u8 (l[j].toNat:Int)):=by simp [vals,h]
theorem run_own_text {w:World} {base m:Nat} {v:Value} {l:List UInt8} (hm:m=l.length) (h:w.ownsRow base 5 1 v m (vals l)) (q:Over w):(convert 123 9 v).run Tryz.prog q.val=.ok (.string (tx l)) q.val:=by
 subst hm
 rcases h.2 with ⟨e1,e2⟩ | ⟨g,cap,cur,rfl,_⟩
 · subst e1
   have hl:l=[]:=by
    cases l with
    | nil=>rfl
    | cons b l=>exact absurd e2 (by simp)
   subst hl
   rw [run_convert_bytes_nil q.val 123 5 Tryz.underlying123 Tryz.underlying5 0 0 9 Tryz.underlying9]
   rfl
 · exact run_text rfl fun j hj=>over_cell q (by rw [Nat.zero_add,h.cellAt j (by omega)];exact vals_get l j hj)
section
variable {P:Program} {ops:Array Oper} {md:Region.Mode} {C:World→Prop}
def Heads (P:Program) (md:Region.Mode) (ops:Array Oper) (C:World→Prop) (n:Nat) (L:Array Bool→Act→Prop):Nat→Array Bool→Act→Prop
 | 0,listed,a=>L listed a
 | f+1,listed,a=>Region.ready md ops listed ≠ []∧∀ i ∈ Region.ready md ops listed,i<n∧qOp P ops C i (Heads P md ops C n L f (listed.setIfInBounds i true)) a
theorem Heads.any {n g:Nat} {L:Array Bool→Act→Prop} {Q':Exit→Act→World→Prop} (hL:∀ listed a w,C w→L listed a→wpAny P md ops Q' g listed a w) :
 ∀ (f:Nat) (listed:Array Bool) (a:Act) (w:World),C w→Heads P md ops C n L f listed a→wpAny P md ops Q' (f+g) listed a w
 | 0,listed,a,w,hw,h=>by rw [Nat.zero_add];exact hL _ _ _ hw h
 | f+1,listed,a,w,hw,h=>by
   rw [show f+1+g=(f+g)+1 by omega]
   exact ⟨fun h0=>absurd h0 h.1,fun i hi=>wpOp_of_qOp hw (fun a' w' hw' h'=>Heads.any hL f _ a' w' hw' h') (h.2 i hi).2⟩
theorem Heads.first {n i:Nat} {oi:Oper} {v:Value} {L:Array Bool→Act→Prop} (hi:ops[i]? = some oi) (hsel:∀ (j:Nat) (o:Oper) cs b,ops[j]? = some o→o.op ≠ .select cs b)
 (hs:Region.sinkB md ops n=true) (hc:Region.chainB md ops n=true) (hn:n<ops.size) (hin:i<n) (hdone:∀ listed a,L listed a→∀ j ∈ Region.ready md ops listed,n≤j) (f:Nat) :
 ∀ (listed:Array Bool) (a:Act),HeadInv md ops n listed →
  (∀ j oj,ops[j]? = some oj→j ≠ i→listed.getD j true=false→(∀ e ∈ oj.after,Region.binds md e=true→e.on ≠ i)→oi.apart ops oj=true) →
  i ∈ Region.ready md ops listed→YieldsIn P ops C oi v a →
  Heads P md ops C n L f (listed.setIfInBounds i true) (a.put oi.dst v)→Heads P md ops C n L (f+1) listed a:=by
 induction f with
 | zero =>
   intro listed a inv hfree hr hy H
   have hun:=(mem_ready.1 hr).1
   refine ⟨List.ne_nil_of_mem hr,fun j hj=>?_⟩
   have hjn:j<n:=Nat.lt_of_not_le fun h=>tail_waits hs hc hn inv _ i rfl hin hun j h hj
   refine ⟨hjn,?_⟩
   rcases Nat.decEq j i with e | rfl
   · exact absurd (hdone _ _ H j (ready_mono hj e)) (by omega)
   · exact hy.qOp hi H
 | succ f ih =>
   intro listed a inv hfree hr hy H
   have hun:=(mem_ready.1 hr).1
   refine ⟨List.ne_nil_of_mem hr,fun j hj=>?_⟩
   have hjn:j<n:=Nat.lt_of_not_le fun h=>tail_waits hs hc hn inv _ i rfl hin hun j h hj
   refine ⟨hjn,?_⟩
   rcases Nat.decEq j i with e | rfl
   · obtain ⟨hjun,oj,hoj,hall⟩:=mem_ready.1 hj
     have hnot:∀ e ∈ oj.after,Region.binds md e=true→e.on ≠ i:=by
      intro d hd hb he
      have h1:=hall d hd hb
      rw [he,getD_both hun] at h1
      cases h1
     refine qOp_mono (fun a' h3=>ih (listed.setIfInBounds j true) a' (inv.set hj hjn) ?_ (ready_mono hr (Ne.symm e)) h3.1 ?_)
      (qOp_put hoj (hfree j oj hoj e hjun hnot) (fun cs b=>hsel i oi cs b hi) (fun cs b=>hsel j oj cs b hoj) hy (H.2 j (ready_mono hj e)).2)
     · intro k ok hk hki hku hno
       refine hfree k ok hk hki ?_ hno
       rcases Nat.decEq j k with d | rfl
       · rwa [getD_set_ne true d] at hku
       · exact hjun
     · rw [Array.setIfInBounds_comm _ _ e];exact h3.2
   · exact hy.qOp hi H
theorem Heads.lex {n g:Nat} {Lq:Act→Prop} (hsel:Region.noSelect ops=true) (hs:Region.sinkB md ops n=true) (hc:Region.chainB md ops n=true) (hn:n<ops.size) :
 ∀ (l:List Oper) (k:Nat) (listed:Array Bool) (a:Act),(∀ j,j<l.length→l[j]? = ops[k+j]?)→k+l.length=n→HeadInv md ops n listed →
 Region.lexHead md ops g l.length k listed=true→wpQuiet P ops C Lq l a →
 Heads P md ops C n (fun listed' a'=>Region.seqB md ops g n listed'=true∧Lq a') l.length listed a
 | [],k,listed,a,_,hk,_,hB,h=>by
   obtain rfl:k=n:=by simpa using hk
   exact ⟨by simpa [Region.lexHead] using hB,h⟩
 | o :: l,k,listed,a,hl,hk,inv,hB,h=>by
   have h0:ops[k]? = some o:=by simpa using (hl 0 (by simp)).symm
   simp only [List.length_cons,Region.lexHead,Bool.and_eq_true] at hB
   obtain ⟨⟨hr,hf⟩,hB'⟩:=hB
   have hr':k ∈ Region.ready md ops listed:=by simpa using hr
   have hk':k+1+l.length=n:=by rw [← hk,List.length_cons];omega
   have hkn:k<n:=by omega
   obtain ⟨v,hy,hK⟩:=yieldsIn_of_qOp h0 (show qOp P ops C k (wpQuiet P ops C Lq l) a by unfold qOp;simp only [h0];exact h)
   exact Heads.first h0 (Region.noSelect_spec hsel) hs hc hn hkn (fun listed' a' hL=>seqB_ready hL.1) l.length listed a inv (Region.free_spec h0 hf) hr' hy
    (Heads.lex hsel hs hc hn l (k+1) _ _ (fun j hj=>by have:=hl (j+1) (by simp;omega);simpa [Nat.add_assoc,Nat.add_comm 1 j] using this) hk' (inv.set hr' hkn) hB' hK)
theorem wp_quiet_tail {id:Nat} {Q:Exit→Act→World→Prop} {a:Act} {w:World} {l:List Oper} (n:Nat) (hm:P.follows .mixedOrders=true) (hB:Region.lexTailB .any l.toArray n=true) (hC:C { w with drawn:=w.drawn+1 })
 (h:wpQuiet P l.toArray C (fun a'=>∀ w',C w'→wpList P l.toArray Q (l.drop n) a' w') (l.take n) a):(Code.region id l.toArray true).wp P Q a w:=by
 simp only [Region.lexTailB,Bool.and_eq_true,decide_eq_true_eq] at hB
 obtain ⟨⟨⟨⟨hsel,hn⟩,hs⟩,hc⟩,hlex⟩:=hB
 have hn':n<l.length:=by simpa using hn
 have htl:(l.take n).length=n:=by simp;omega
 have hdl:(l.drop n).length=l.toArray.size - n:=by simp
 have inv0:HeadInv .any l.toArray n (Array.replicate l.toArray.size false) :=
  ⟨by simp,fun j oj _ hl=>(by rw [getD_replicate_false] at hl;cases hl),fun t _ ht=>getD_in (by simpa using ht) (getD_replicate_false _ _)⟩
 have H:=Heads.lex (md:=.any) (g:=l.toArray.size - n) hsel hs hc hn (l.take n) 0 _ a (fun j hj=>by
  have hj':j<n:=by rw [htl] at hj;exact hj
  simp [hj']) (by simpa using htl) inv0 (by rw [htl];exact hlex) h
 refine wp_region_any hm ?_
 have H2:=Heads.any (Q':=Q) (g:=l.toArray.size - n) (fun listed a' w' hw hL=>by
  have h1:=wpAny_of_seq (md:=.any) (Q':=Q) (l.drop n) n listed a' w' (fun j=>by simp [List.getElem?_drop]) (by rw [hdl];exact hL.1) (hL.2 w' hw)
  rwa [hdl] at h1) _ _ _ _ hC H
 rw [htl,show n+(l.toArray.size - n)=l.toArray.size by omega] at H2
 exact H2
end
theorem wp_over_tail {P:Program} {id:Nat} {Q:Exit→Act→World→Prop} {a:Act} {w:World} {l:List Oper} (n:Nat) (hm:P.follows .mixedOrders=true) (hB:Region.lexTailB .any l.toArray n=true)
 (h:wpQuiet P l.toArray (fun w'=>∃ q:Over w,w'=q.val) (fun a'=>∀ w',(∃ q:Over w,w'=q.val)→wpList P l.toArray Q (l.drop n) a' w') (l.take n) a):(Code.region id l.toArray true).wp P Q a w :=
 wp_quiet_tail (C:=fun w'=>∃ q:Over w,w'=q.val) n hm hB ⟨⟨w.drew,below_drewN (Below.refl _ _) 1⟩,rfl⟩ h
end Go.Proofs.YtgakcpcpfkoaiaaGreatDoor.Ov
namespace Go.Proofs.YtgakcpcpfkoaiaaGreatDoor.Va
open Go.ChangeShapes Go.WideShapes Go.ChangeAt Go.RowKit Ov Tp
section
variable {H:Type} {enc:TypeId × Value→H} {w:World} {base:Nat} {spare:Nat→Bool} {held:Bool}
theorem val_of {r:Reach} {b0:Nat} {v:Value} {d:DataW H} {p:List MemPlace} (hv:Value.okWide Tryz.prog w r b0 28 v) (h:DataW.Trod enc Tryz.prog w base spare held 28 v d p) :
 ∃ (k n:Int) (s:ByteArray) (x y:Int),v=.agg #[.int .i64 k,.int .i64 n,.string s,.int .i64 x,.int .i64 y] ∧
  d=.agg [.lit (.int .i64 k),.lit (.int .i64 n),.lit (.string s.data.toList),.agg [.lit (.int .i64 x),.lit (.int .i64 y)]]∧p=[] ∧
  (Lit.int .i64 k).wf=true∧(Lit.int .i64 n).wf=true∧s.size≤maxLen∧(Lit.int .i64 x).wf=true∧(Lit.int .i64 y).wf=true:=by
 have c1:Tryz.prog.cellsOf 3=1:=by kernel_rfl
 have c2:Tryz.prog.cellsOf 9=1:=by kernel_rfl
 have c3:Tryz.prog.cellsOf 26=2:=by kernel_rfl
 obtain ⟨cs,rfl,hsz⟩:=okWide_struct Tryz.underlying28 hv
 have hC:Tryz.prog.cellsOf 28=5:=by kernel_rfl
 obtain ⟨l⟩:=cs
 match l,hsz.trans hC with
 | [a0,a1,a2,a3,a4],_ =>
   obtain ⟨fuel,hf⟩:=h
   obtain ⟨y0,y1,y2,y3,m,hx,_,h0,h1,h2,h3⟩:=Joins.trod_struct4 Tryz.underlying28 hf
   simp only [Prod.mk.injEq] at hx
   simp only [c1,c2,c3,Value.cells] at h0 h1 h2 h3
   obtain ⟨k,e0,rfl,w0⟩:=DataW.trod_int Tryz.underlying3 h0
   obtain ⟨n,e1,rfl,w1⟩:=DataW.trod_int Tryz.underlying3 h1
   obtain ⟨s,e2,rfl,w2⟩:=DataW.trod_string Tryz.underlying9 h2
   obtain ⟨z0,z1,m',hz,_,g0,g1⟩:=trod_struct2 Tryz.underlying26 h3
   simp only [c1] at g0 g1
   obtain ⟨x,f0,rfl,u0⟩:=DataW.trod_int Tryz.underlying3 g0
   obtain ⟨y,f1,rfl,u1⟩:=DataW.trod_int Tryz.underlying3 g1
   have e3:[a0]=[Value.int .i64 k]:=e0
   have e4:[a1]=[Value.int .i64 n]:=e1
   have e5:[a2]=[Value.string s]:=e2
   have e6:[a3]=[Value.int .i64 x]:=f0
   have e7:[a4]=[Value.int .i64 y]:=f1
   obtain rfl:a0=.int .i64 k:=by simpa using e3
   obtain rfl:a1=.int .i64 n:=by simpa using e4
   obtain rfl:a2=.string s:=by simpa using e5
   obtain rfl:a3=.int .i64 x:=by simpa using e6
   obtain rfl:a4=.int .i64 y:=by simpa using e7
   subst hz
   exact ⟨k,n,s,x,y,rfl,hx.1,by simpa using hx.2,w0,w1,w2,u0,u1⟩
theorem shut_val {k n x y:Int} {s:ByteArray} (w0:(Lit.int .i64 k).wf=true) (w1:(Lit.int .i64 n).wf=true) (w2:s.size≤maxLen) (w3:(Lit.int .i64 x).wf=true) (w4:(Lit.int .i64 y).wf=true) :
 DataW.Trod enc Tryz.prog w base spare held 28 (.agg #[.int .i64 k,.int .i64 n,.string s,.int .i64 x,.int .i64 y]) (.agg [.lit (.int .i64 k),.lit (.int .i64 n),.lit (.string s.data.toList),.agg [.lit (.int .i64 x),.lit (.int .i64 y)]]) []:=by
 have c1:Tryz.prog.cellsOf 3=1:=by kernel_rfl
 have c2:Tryz.prog.cellsOf 9=1:=by kernel_rfl
 have c3:Tryz.prog.cellsOf 26=2:=by kernel_rfl
 have c4:Tryz.prog.cellsOf 28=5:=by kernel_rfl
 have hs:DataW.trod enc Tryz.prog w base spare held 2 9 [.string s]=some (.lit (.string s.data.toList),[]):=by simp [DataW.trod,Tryz.underlying9,w2]
 have hp:=trod_struct2_mk (enc:=enc) (P:=Tryz.prog) (w:=w) (base:=base) (spare:=spare) (held:=held) (n:=1) (cs:=[.int .i64 x,.int .i64 y]) (y0:=(.lit (.int .i64 x),[])) (y1:=(.lit (.int .i64 y),[]))
  Tryz.underlying26 (by simp [c3]) (by simp only [c1];exact trod_int_mk 0 Tryz.underlying3 w3) (by simp only [c1];exact trod_int_mk 0 Tryz.underlying3 w4)
 have ht:=Joins.trod_struct4_mk (enc:=enc) (P:=Tryz.prog) (w:=w) (base:=base) (spare:=spare) (held:=held) (n:=2) (cs:=[.int .i64 k,.int .i64 n,.string s,.int .i64 x,.int .i64 y])
  (y0:=(.lit (.int .i64 k),[])) (y1:=(.lit (.int .i64 n),[])) (y2:=(.lit (.string s.data.toList),[])) (y3:=(.agg [.lit (.int .i64 x),.lit (.int .i64 y)],[]))
  Tryz.underlying28 (by simp [c4]) (by simp only [c1];exact trod_int_mk 1 Tryz.underlying3 w0) (by simp only [c1];exact trod_int_mk 1 Tryz.underlying3 w1) (by simp only [c2];exact hs)
  (by simp only [c3];simpa using hp)
 exact ⟨_,by simpa [Value.cells] using ht⟩
end
end Go.Proofs.YtgakcpcpfkoaiaaGreatDoor.Va
namespace Go.Proofs.YtgakcpcpfkoaiaaGreatDoor.Jo
open Ov Ga Va
def wSum:List UInt8:=[115,117,109]
def wMax:List UInt8:=[109,97,120]
def wMin:List UInt8:=[109,105,110]
def wGcd:List UInt8:=[103,99,100]
def isF (w:List UInt8):Bool:=decide (w=wSum∨w=wMax∨w=wMin∨w=wGcd)
def rg (n b:Int):Int:=(n+b) % (2 * b) - b
def vz0:Va:=⟨0,0,[],0,0⟩
def pp (v:Va):Pt:=⟨v.x,v.y⟩
def vp (p:Pt):Va:=⟨2,0,[],p.x,p.y⟩
def vn (n:Int):Va:=⟨0,n,[],0,0⟩
def okk (w:List UInt8) (k:Int):Bool:=decide (w=wMax∨w=wMin∨k=0∨k=2)
def opf (w:List UInt8) (a b:Va):Va :=
 if w=wMax∨w=wMin then (if decide (ord a b<0)=decide (w=wMax) then b else a)
 else if a.k=0 then vn (if w=wSum then rg (a.n+b.n) 9007199254740992 else (Int.gcd a.n b.n:Int))
 else vp (if w=wSum then ⟨rg (a.x+b.x) 16777216,rg (a.y+b.y) 16777216⟩ else Pt.cg (pp a) (pp b))
def fo (w:List UInt8) (a b:Va):Va × Int :=
 if isF w=true∧rt a=true∧rt b=true then
  if a.k=b.k∧okk w a.k=true then (opf w a b,0) else (vz0,13)
 else (vz0,1)
theorem rt_k0 {v:Va} (h:rt v=true) (hk:v.k=0):(-9007199254740992≤v.n∧v.n≤9007199254740992)∧v=vn v.n:=by
 obtain ⟨k,n,s,x,y⟩:=v
 rcases rt_yes h with ⟨h0,h1,h2,h3,h4,h5⟩ | ⟨h0,_⟩ | ⟨h0,_⟩
 · simp only at h0 h1 h2 h3 h4 h5 ⊢;subst h0 h3 h4 h5;exact ⟨⟨h1,h2⟩,rfl⟩
 · simp only at h0 hk;omega
 · simp only at h0 hk;omega
theorem rt_k2 {v:Va} (h:rt v=true) (hk:v.k=2):rb (pp v)=true∧v=vp (pp v):=by
 obtain ⟨k,n,s,x,y⟩:=v
 rcases rt_yes h with ⟨h0,_⟩ | ⟨h0,_⟩ | ⟨h0,h1,h2,h3⟩
 · simp only at h0 hk;omega
 · simp only at h0 hk;omega
 · simp only at h0 h1 h2 h3 ⊢;subst h0 h1 h2;exact ⟨h3,rfl⟩
theorem fo_yes {w:List UInt8} {a b:Va} (h:isF w=true∧rt a=true∧rt b=true):fo w a b=if a.k=b.k∧okk w a.k=true then (opf w a b,0) else (vz0,13):=if_pos h
theorem fo_no {w:List UInt8} {a b:Va} (h:¬ (isF w=true∧rt a=true∧rt b=true)):fo w a b=(vz0,1):=if_neg h
end Go.Proofs.YtgakcpcpfkoaiaaGreatDoor.Jo
namespace Go.Proofs.YtgakcpcpfkoaiaaGreatDoor.Jo
open Go.ChangeShapes Go.WideShapes Go.ChangeAt Go.RowKit Ov Ga Va
theorem below_box {w0 w:World} (h:Below w0.heap.size w0 w) (o:Obj):Below w0.heap.size w0 (w.alloc o):=h.alloc h.size o
theorem rest_emod {n b:Int} (hb:0<b):(n.tmod b+b).tmod b=n % b:=by
 by_cases h:0≤n
 · rw [Int.tmod_eq_emod_of_nonneg h,Int.tmod_eq_emod_of_nonneg (by have:=Int.emod_nonneg n (show b ≠ 0 by omega);omega),Int.add_emod_right,Int.emod_emod]
 · have h2:=Int.lt_tmod_of_pos n hb
   rw [Int.tmod_eq_emod_of_nonneg (by omega),Int.add_emod_right]
   conv=>rhs;rw [← Int.tmod_add_mul_tdiv n b,Int.add_mul_emod_self_left]
theorem rest_any (n b:Int) (hb:0<b∧b≤18014398509481984) (w:World):Calls Tryz.prog 24 #[.int .i64 n,.int .i64 b] w (Gives (.int .i64 (n % b)) w):=by
 have h1:=Int.lt_tmod_of_pos n hb.1
 have h2:=Int.tmod_lt_of_pos n hb.1
 have h3:wrap64 (n.tmod b+b)=n.tmod b+b:=IntWalk.wrap64_in _ (by omega)
 have h4:=rest_emod (n:=n) hb.1
 have h5:(b == 0)=false:=beq_eq_false_iff_ne.2 (by omega)
 go_enter Tryz.func24,Tryz.ntmps24
 go_wp2_with fail
 go_ret
 exact ⟨rfl,Below.refl _ _⟩
theorem round_any (n b:Int) (hb:0<b∧b≤9007199254740992) (hn:-36028797018963968≤n∧n≤36028797018963968) (w:World):Calls Tryz.prog 38 #[.int .i64 n,.int .i64 b] w (Gives (.int .i64 (rg n b)) w):=by
 have HC:=qq (fun w=>rest_any (n+b) (2 * b) ⟨by omega,by omega⟩ w)
 have h1:wrap64 (n+b)=n+b:=IntWalk.wrap64_in _ (by omega)
 have h2:wrap64 (2 * b)=2 * b:=IntWalk.wrap64_in _ (by omega)
 have h3:=Int.emod_nonneg (n+b) (show 2 * b ≠ 0 by omega)
 have h4:=Int.emod_lt_of_pos (n+b) (show 0<2 * b by omega)
 have h5:wrap64 ((n+b) % (2 * b) - b)=rg n b:=IntWalk.wrap64_in _ (by omega)
 clear h3 h4 hb hn
 go_enter Tryz.func38,Tryz.ntmps38
 go_wp2_with fail
 refine (HC.out _).mono ?_
 rintro e w1 ⟨rfl,hb⟩
 have HB:=qq hb;clear hb
 go_wp2_with fail
 go_ret
 exact ⟨by rw [h5];rfl,HB.out⟩
theorem isF_text (s:ByteArray):isF s.data.toList=(s.toList == [115,117,109] || s.toList == [109,97,120] || s.toList == [109,105,110] || s.toList == [103,99,100]):=by
 rw [ByteArray.toList_eq,Bool.eq_iff_iff]
 unfold isF wSum wMax wMin wGcd
 rw [decide_eq_true_iff]
 simp only [Bool.or_eq_true,beq_iff_eq,or_assoc]
theorem isF_any (s:ByteArray) (w:World):Calls Tryz.prog 12 #[.string s] w (Gives (.bool (isF s.data.toList)) w):=by
 go_enter Tryz.func12,Tryz.ntmps12
 go_wp2_with fail
 all_goals
  go_ret
  refine ⟨?_,Below.refl _ _⟩
  rw [isF_text];simp_all
theorem gcd_tmod (a b:Int):Int.gcd b (a.tmod b)=Int.gcd a b:=by
 rw [Int.gcd_comm a b]
 have h:a=a.tmod b+b * a.tdiv b:=(Int.tmod_add_mul_tdiv a b).symm
 conv=>rhs;rw [h]
 rw [Int.gcd_add_mul_left_right]
def JC (a b:Int) (w:World) (a':Act) (w':World):Prop:=∃ (p q:Int) (u2 u3 u5 u6 u7 u8 u9 u10 u11 u12 u13 u14:Value),
 (-9007199254740992≤p∧p≤9007199254740992)∧(-9007199254740992≤q∧q≤9007199254740992)∧Int.gcd p q=Int.gcd a b∧Below w.heap.size w w' ∧
 a'={ tmps:=#[.int .i64 p,.int .i64 q,u2,u3,.int .i64 0,u5,u6,u7,u8,u9,u10,u11,u12,u13,u14],defers:=[] }
def muC (a':Act) (_:World):Nat:=match a'.tmps[1]! with
 | .int _ q=>q.natAbs
 | _=>0
theorem common_any (a b:Int) (ha:-9007199254740992≤a∧a≤9007199254740992) (hb:-9007199254740992≤b∧b≤9007199254740992) (w:World):Calls Tryz.prog 39 #[.int .i64 a,.int .i64 b] w (Gives (.int .i64 (Int.gcd a b:Int)) w):=by
 have HA:=qq ha;have HH:=qq hb;clear ha hb
 go_enter Tryz.func39,Tryz.ntmps39
 go_wp2_with fail
 refine wp_scope_once 0 (JC a b w) muC rfl (fun NX=>?_) ?_
 · go_wp2_with fail
   go_step3
   rename_i hK
   exact hK _ _ (NX.out _ _ ⟨a,b,_,_,_,_,_,_,_,_,_,_,_,_,HA.out,HH.out,rfl,Below.refl _ _,rfl⟩)
 · rintro a' w' ⟨p,q,u2,u3,u5,u6,u7,u8,u9,u10,u11,u12,u13,u14,hp,hq,hg,hbl,rfl⟩
   have HP:=qq hp;have HQ:=qq hq;have HG:=qq hg;have HB:=qq hbl;clear hp hq hg hbl
   by_cases h0:q=0
   · subst h0
     have HE:Hid (max p (wrap64 (-p))=(Int.gcd a b:Int)):=by
      show _=_
      have:=HP.out
      rw [IntWalk.wrap64_in _ (by omega),← HG.out,Int.gcd_zero_right];omega
     go_wp2_with fail
     go_ret
     exact ⟨by rw [HE.out];rfl,HB.out⟩
   · have h1:(q == 0)=false:=beq_eq_false_iff_ne.2 h0
     go_wp2_with fail
     go_region
     go_wp2_with fail
     go_step3
     have h2:(p.tmod q).natAbs<q.natAbs:=by rw [Int.natAbs_tmod];exact Nat.mod_lt _ (by omega)
     have hq:=HQ.out
     exact ⟨rfl,⟨q,p.tmod q,_,_,_,_,_,_,_,_,_,_,_,_,HQ.out,by omega,by rw [gcd_tmod];exact HG.out,HB.out.drew,rfl⟩,h2⟩
def nb1 (c:UInt8):Bool:=!((c<97 || 122<c) && (c<48 || 57<c))
def nmOk (s:List UInt8):Bool:=s.all nb1 && (!s.isEmpty && decide (s.length≤16))
def wn1 (n most:Int):Bool:=decide (1≤n) && decide (n≤most)
theorem within_any (n most:Int) (w:World):Calls Tryz.prog 74 #[.int .i64 n,.int .i64 most] w (Gives (.bool (wn1 n most)) w):=by
 go_enter Tryz.func74,Tryz.ntmps74
 go_wp2_with fail
 all_goals
  go_ret
  refine ⟨?_,Below.refl _ _⟩
  show Ending.returned (.bool _)=Ending.returned (.bool _)
  congr 2
  unfold wn1
  rw [Bool.eq_iff_iff];simp;try omega
theorem nb1_int (c:UInt8):nb1 c=!((decide ((c.toNat:Int)<97) || decide (122<(c.toNat:Int))) && (decide ((c.toNat:Int)<48) || decide (57<(c.toNat:Int)))):=by
 unfold nb1
 rw [Bool.eq_iff_iff]
 simp [UInt8.lt_iff_toNat_lt];omega
theorem nmOk_bad {s:ByteArray} {k:Nat} (h:k<s.size) {c:UInt8} (hc:s[k]=c) (hn:nb1 c=false):nmOk s.data.toList=false:=by
 have h2:s.data.toList.all nb1=false:=by
  rw [List.all_eq_false]
  exact ⟨c,by rw [← hc];exact List.getElem_mem (l:=s.data.toList) (n:=k) (by simpa using h),by rw [hn];decide⟩
 unfold nmOk;rw [h2,Bool.false_and]
theorem all_more {s:ByteArray} {k:Nat} (h:k<s.size) {c:UInt8} (hc:s[k]=c) (hn:nb1 c=true) (hall:(s.data.toList.take k).all nb1=true):(s.data.toList.take (k+1)).all nb1=true:=by
 have e:s.data.toList.take (k+1)=s.data.toList.take k++[c]:=by
  rw [List.take_succ_eq_append_getElem (by simpa using h)];rw [← hc];rfl
 rw [e,List.all_append,hall];simp [hn]
theorem name_any (s:ByteArray) (hs:s.size≤9223372036854775807) (w:World):Calls Tryz.prog 45 #[.string s] w (Gives (.bool (nmOk s.data.toList)) w):=by
 go_enter Tryz.func45,Tryz.ntmps45
 go_wp2_with fail
 go_loop [6] (fun i=>∃ k:Nat,k≤s.size∧i=.int .i64 (k:Int)∧(s.data.toList.take k).all nb1=true) (fun i=>s.size - (intOf i).toNat)
 case atStart=>exact ⟨0,Nat.zero_le _,rfl,rfl⟩
 case round =>
  obtain ⟨k,hk,rfl,hall⟩:=hrel
  have HA:=qq hall;clear hall
  by_cases hlt:k<s.size
  · obtain ⟨c,hc⟩:∃ c:UInt8,s[k]=c:=⟨_,rfl⟩
    have hcl:=c.toNat_lt
    have HC:=qq hc
    have HN:=qq (nb1_int c)
    go_wp2_with fail
    all_goals first
     | (refine ⟨⟨k+1,by omega,by go_num,all_more hlt HC.out ?_ HA.out⟩,by simp [intOf];omega⟩
        rw [HN.out];simp only [Bool.not_eq_true',Bool.and_eq_false_iff,Bool.or_eq_false_iff,decide_eq_false_iff_not];omega)
     | (go_ret
        refine ⟨?_,Below.refl _ _⟩
        rw [nmOk_bad hlt HC.out (by rw [HN.out];simp only [Bool.not_eq_false',Bool.and_eq_true,Bool.or_eq_true,decide_eq_true_eq];omega)];rfl)
  · obtain rfl:k=s.size:=by omega
    have HE:Hid (nmOk s.data.toList=(!s.toList.isEmpty && decide (s.size≤16))):=by
     show _=_
     have h:=HA.out
     rw [List.take_of_length_le (by simp)] at h
     unfold nmOk;rw [h,Bool.true_and,ByteArray.toList_eq];simp
    go_wp2_with fail
    all_goals
     go_ret
     refine ⟨?_,Below.refl _ _⟩
     rw [HE.out]
     show Ending.returned (.bool _)=Ending.returned (.bool _)
     congr 2
     rw [Bool.eq_iff_iff];simp_all;try omega
end Go.Proofs.YtgakcpcpfkoaiaaGreatDoor.Jo
namespace Go.Proofs.YtgakcpcpfkoaiaaGreatDoor.Ev
open Ov Tp Ga Va Ex
structure St where
 key:List UInt8
 val:Va
 acc:Va
 i:Int
 it:Va
 out:List (List UInt8 × Va)
inductive Rs (α:Type) where
 | er (x:Int)
 | ok (a:α) (S:St) (n:Nat)
abbrev M (α:Type):=St→Nat→Rs α
def tv (s:List UInt8):Va:=⟨1,0,s,0,0⟩
def pv (x y:Int):Va:=⟨2,0,[],x,y⟩
def tr (b:Bool):Va:=if b=true then nv 1 else nv 0
def ret {α:Type} (a:α):M α:=fun S n=>.ok a S n
def fail {α:Type} (x:Int):M α:=fun _ _=>.er x
def bnd {α β:Type} (f:M α) (g:α→M β):M β:=fun S n=>match f S n with | .er x=>.er x | .ok a S1 n1=>g a S1 n1
def tick:M Unit:=fun S n=>match n with | 0=>.er 15 | n+1=>.ok () S n
def nmd (k:Int):M Va:=fun S n=>.ok (if k=0 then tv S.key else if k=1 then S.val else if k=2 then S.acc else if k=3 then nv S.i else S.it) S n
def setI (k:Int):M Unit:=fun S n=>.ok () { S with i:=k } n
def withI {α:Type} (f:M α):M α:=fun S n=>match f S n with | .er x=>.er x | .ok a S1 n1=>.ok a { S1 with i:=S.i } n1
def withIt {α:Type} (v:Va) (f:M α):M α:=fun S n=>match f { S with it:=v } n with | .er x=>.er x | .ok a S1 n1=>.ok a { S1 with it:=S.it } n1
def emitM (k:List UInt8) (v:Va):M Va:=fun S n=>if 64≤S.out.length then .er 22 else .ok v { S with out:=S.out++[(k,v)] } n
def lift {α:Type} (x:Int ⊕ α):M α:=match x with | .inl e=>fail e | .inr v=>ret v
def chk (v:Va):Int ⊕ Va:=if rt v=true then .inr v else .inl 14
def qf (a b:Int):Int:=if a.tmod b ≠ 0∧((a<0) ≠ (b<0)) then a.tdiv b - 1 else a.tdiv b
def nums (o a b:Int):Int ⊕ Va :=
 if o=2 then chk (nv (a+b)) else if o=3 then chk (nv (a - b)) else if o=4 then chk (nv (a * b))
 else if b=0 then .inl 16 else if o=5 then chk (nv (qf a b)) else .inr (nv (a - qf a b * b))
def spots (o:Int) (a b:Pt):Int ⊕ Va :=
 if o=2 then chk (pv (a.add b).x (a.add b).y) else if o=3 then chk (pv (a.sub b).x (a.sub b).y) else if o=4 then chk (pv (a.mul b).x (a.mul b).y)
 else if b=Pt.zero then .inl 16 else if o=5 then .inr (pv (a.quo b).x (a.quo b).y) else .inr (pv (a.rest b).x (a.rest b).y)
def pt (v:Va):Pt:=⟨v.x,v.y⟩
def rk (o:Int) (a b:Va):Int ⊕ Va:=if a.k ≠ b.k then .inl 13 else if a.k=0 then nums o a.n b.n else if a.k=2 then spots o (pt a) (pt b) else .inl 13
def isB (c:UInt8):Bool:=c == 32
def sp (s:List UInt8):List UInt8:=s.dropWhile isB
def st (s:List UInt8):List UInt8:=(sp s).takeWhile fun c=>!isB c
def bh (s:List UInt8):List UInt8:=(sp s).dropWhile fun c=>!isB c
def wdF:Nat→List UInt8→List (List UInt8)
 | 0,_=>[]
 | f+1,s=>if st s=[] then [] else st s :: wdF f (bh s)
def wds (s:List UInt8):List (List UInt8):=wdF (s.length+1) s
def numOf (s:List UInt8):Int ⊕ Va:=if (pz s).2.2=0∧(pz s).2.1=s.length∧(pz s).1.k=0 then .inr (pz s).1 else .inl 6
def ask (o:Int):List Int :=
 if o=10 then [0] else if o=14 then [1,1] else if o=15∨o=18∨o=19 then [1] else if o=16 then [1,0,0] else if o=17 then [1,0]
 else if o=21 then [0,0] else if o=22∨o=23∨o=24∨o=25 then [2] else if o=26 then [1,-1] else if o=7∨o=20 then [-1] else [-1,-1]
def fits:List Int→List Va→Bool
 | [],_=>true
 | _ :: _,[]=>false
 | k :: ks,v :: vs=>(k == -1 || v.k == k) && fits ks vs
def at0 (l:List Va):Va:=l.getD 0 vz
def at1 (l:List Va):Va:=l.getD 1 vz
def at2 (l:List Va):Va:=l.getD 2 vz
def pu (o:Int) (a b c:Va):Int ⊕ Va :=
 if o=2∨o=3∨o=4∨o=5∨o=6 then rk o a b
 else if o=7 then (if a.k=0 then .inr (nv (-a.n)) else if a.k=2 then .inr (pv (-a.x) (-a.y)) else .inl 13)
 else if o=8 then (if a.k ≠ b.k then .inl 13 else .inr (tr (decide (ord a b<0))))
 else if o=9 then .inr (tr (decide (a=b)))
 else if o=10 then .inr (tr (decide (a.n=0)))
 else if o=12 then (if a.k ≠ b.k then .inl 13 else .inr (if 0<ord a b then a else b))
 else if o=13 then (if a.k ≠ b.k then .inl 13 else .inr (if 0<ord a b then b else a))
 else if o=14 then (if 4096<a.s.length+b.s.length then .inl 3 else .inr (tv (a.s++b.s)))
 else if o=15 then .inr (nv a.s.length)
 else if o=16 then (if b.n<0∨c.n<b.n∨(a.s.length:Int)<c.n then .inl 14 else .inr (tv ((a.s.take c.n.toNat).drop b.n.toNat)))
 else if o=17 then (if b.n<0 then .inl 14 else match (wds a.s)[b.n.toNat]? with | some x=>.inr (tv x) | none=>.inl 14)
 else if o=18 then .inr (nv (wds a.s).length)
 else if o=19 then numOf a.s
 else if o=20 then (if a.k=1 then .inr a else .inr (tv (wr a)))
 else if o=21 then chk (pv a.n b.n)
 else if o=22 then .inr (nv a.x)
 else if o=23 then .inr (nv a.y)
 else if o=24 then .inr (nv (a.x * a.x+a.y * a.y))
 else if o=25 then .inr (pv a.x (-a.y))
 else .inr b
def ap (o:Int) (l:List Va):M Va :=
 if fits (ask o) l=false then fail 13
 else if o=26 then (if 64<(at0 l).s.length then fail 3 else emitM (at0 l).s (at1 l))
 else lift (pu o (at0 l) (at1 l) (at2 l))
def nx (r:List No):List No:=(ex 25 r).getD []
def va (f:List No→M Va):Nat→List No→List Va→M (List Va)
 | 0,_,acc=>ret acc
 | k+1,r,acc=>bnd (f r) fun v=>va f k (nx r) (acc++[v])
def lp (g:M Va):Nat→Int→Va→M Va
 | 0,_,v=>ret v
 | t+1,k,_=>bnd (setI k) fun _=>bnd g fun v=>lp g t (k+1) v
def body (f:List No→M Va) (n:No) (r:List No):M Va :=
 if n.o=0 then ret n.v
 else if n.o=1 then nmd n.v.n
 else if n.o=11 then bnd (f r) fun a=>if a.k ≠ 0 then fail 13 else if a.n=0 then f (nx (nx r)) else f (nx r)
 else if n.o=28 then bnd (f r) fun a=>if a.k ≠ 0 then fail 13 else if a.n<0 then fail 14 else withI (lp (f (nx r)) a.n.toNat 0 vz)
 else if n.o=29 then bnd (f r) fun a=>withIt a (f (nx r))
 else bnd (va f (pa n.o) r []) fun l=>ap n.o l
def ev:Nat→List No→M Va
 | 0,_=>fail 15
 | _+1,[]=>fail 15
 | d+1,n :: r=>bnd tick fun _=>body (ev d) n r
theorem ev_cons (d:Nat) (n:No) (r:List No):ev (d+1) (n :: r)=bnd tick fun _=>body (ev d) n r:=rfl
theorem va_succ (f:List No→M Va) (k:Nat) (r:List No) (acc:List Va):va f (k+1) r acc=bnd (f r) fun v=>va f k (nx r) (acc++[v]):=rfl
theorem lp_succ (g:M Va) (t:Nat) (k:Int) (v:Va):lp g (t+1) k v=bnd (setI k) fun _=>bnd g fun v=>lp g t (k+1) v:=rfl
theorem nx_of {d:Nat} {r r':List No} (h:ex d r=some r') (hd:d≤25):nx r=r':=by unfold nx;rw [ex_more h hd];rfl
theorem bnd_assoc {α β γ:Type} (f:M α) (g:α→M β) (h:β→M γ):bnd (bnd f g) h=bnd f fun a=>bnd (g a) h:=by
 funext S n
 unfold bnd
 cases f S n <;> rfl
theorem bnd_er {α β:Type} {f:M α} {g:α→M β} {S:St} {n:Nat} {x:Int} (h:f S n=.er x):bnd f g S n=.er x:=by unfold bnd;rw [h]
theorem bnd_ok {α β:Type} {f:M α} {g:α→M β} {S S1:St} {n n1:Nat} {a:α} (h:f S n=.ok a S1 n1):bnd f g S n=g a S1 n1:=by unfold bnd;rw [h]
end Go.Proofs.YtgakcpcpfkoaiaaGreatDoor.Ev
namespace Go.Proofs.YtgakcpcpfkoaiaaGreatDoor.Ov
open Ieee
theorem log2_shift {v:Nat} (hv:v ≠ 0) (k:Nat):(v * 2 ^ k).log2=v.log2+k:=by
 have h2:0<2 ^ k:=Nat.two_pow_pos k
 rw [Nat.log2_eq_iff (Nat.mul_ne_zero hv (Nat.ne_of_gt h2))]
 refine ⟨?_,?_⟩
 · rw [Nat.pow_add];exact Nat.mul_le_mul_right _ (Nat.log2_self_le hv)
 · rw [show v.log2+k+1=v.log2+1+k by omega,Nat.pow_add];exact Nat.mul_lt_mul_of_pos_right Nat.lt_log2_self h2
theorem cut_whole (way:Toward) (s:Bool) (v k:Nat):way.cut s (v * 2 ^ k) k=v:=by
 have h2:0<2 ^ k:=Nat.two_pow_pos k
 have hg:(v * 2 ^ k) / (1 <<< min k ((v * 2 ^ k).log2+2))=v∧(v * 2 ^ k) % (1 <<< min k ((v * 2 ^ k).log2+2))=0∧1 <<< min k ((v * 2 ^ k).log2+2) ≠ 0:=by
  by_cases hv:v=0
  · subst hv;simp
  · rw [log2_shift hv,Nat.min_eq_left (by omega),Nat.one_shiftLeft]
    exact ⟨Nat.mul_div_cancel _ h2,Nat.mul_mod_left _ _,Nat.ne_of_gt h2⟩
 obtain ⟨h1,h3,h4⟩:=hg
 unfold Toward.cut
 simp only [h1,h3]
 generalize 1 <<< min k ((v * 2 ^ k).log2+2)=g at *
 cases way <;> simp [h4]
def DIs (d:Datum) (n:Int):Prop:=∃ (s:Bool) (v k:Nat),d=.number s (v * 2 ^ k) (-(k:Int))∧n=if s then -(v:Int) else v
theorem DIs.num (s:Bool) (v k:Nat):DIs (.number s (v * 2 ^ k) (-(k:Int))) (if s then -(v:Int) else v):=⟨s,v,k,rfl,rfl⟩
theorem dsw:Ieee.double.signWeight=9223372036854775808:=by decide +kernel
theorem dbi:Ieee.double.binade=4503599627370496:=by decide +kernel
theorem din:Ieee.double.infRung=9218868437227405312:=by decide +kernel
theorem dlp:Ieee.double.leastPlace=-1074:=by decide +kernel
theorem dfb:Ieee.double.fractionBits=52:=rfl
theorem rung_mod {e m B:Nat} (h:m<B):(e * B+(B+m)) % B=m∧(e * B+(B+m)) / B - 1=e:=by
 have e1:e * B+(B+m)=m+(e+1) * B:=by rw [Nat.add_mul,Nat.one_mul];omega
 rw [e1,Nat.add_mul_mod_self_right,Nat.mod_eq_of_lt h,Nat.add_mul_div_right _ _ (by omega),Nat.div_eq_of_lt h]
 exact ⟨rfl,by omega⟩
theorem read_word (s:Bool) (e m:Nat) (he:e<2046) (hm:m<4503599627370496) :
 Ieee.double.read (Ieee.double.word s (e * 4503599627370496+(4503599627370496+m)))=.number s (4503599627370496+m) (-1074+(e:Int)):=by
 have hw:Ieee.double.word s (e * 4503599627370496+(4503599627370496+m))=(if s then 1 else 0) * 9223372036854775808+(e * 4503599627370496+(4503599627370496+m)):=by
  unfold Format.word;rw [dsw];cases s <;> simp
 unfold Format.read
 simp only [hw,dsw,dbi,din,dlp]
 obtain ⟨b,hb⟩:∃ b:Nat,b=if s then 1 else 0:=⟨_,rfl⟩
 rw [← hb]
 have hb1:b<2∧(b=1↔s=true):=by subst hb;cases s <;> simp
 clear hw hb
 have h1:(b * 9223372036854775808+(e * 4503599627370496+(4503599627370496+m))) % 9223372036854775808=e * 4503599627370496+(4503599627370496+m):=by omega
 have h2:((b * 9223372036854775808+(e * 4503599627370496+(4503599627370496+m))) / 9223372036854775808 % 2 == 1)=s:=by
  have:(b * 9223372036854775808+(e * 4503599627370496+(4503599627370496+m))) / 9223372036854775808 % 2=b:=by omega
  rw [this,Bool.eq_iff_iff,beq_iff_eq];exact hb1.2
 rw [h1,h2,if_neg (by omega),if_pos (by omega)]
 obtain ⟨h3,h4⟩:=rung_mod (e:=e) hm
 rw [h3,h4]
theorem read_zero (s:Bool):Ieee.double.read (Ieee.double.word s 0)=.number s 0 (-1074):=by
 cases s <;> decide +kernel
theorem nearest_read (s:Bool) (v k:Nat) (hv:v<9007199254740992):∃ j:Nat,Ieee.double.read (Ieee.double.nearest s (v * 2 ^ k) (-(k:Int)))=.number s (v * 2 ^ j) (-(j:Int)):=by
 by_cases h0:v=0
 · subst h0
   obtain ⟨j,hj⟩:∃ j:Nat,-(j:Int)=-1074:=⟨1074,rfl⟩
   refine ⟨j,?_⟩
   rw [Nat.zero_mul,Nat.zero_mul,hj]
   exact read_zero s
 · have hL:v.log2<53:=(Nat.log2_lt h0).2 hv
   obtain ⟨d,hd⟩:∃ d,d=52 - v.log2:=⟨_,rfl⟩
   have hp:0<2 ^ k:=Nat.two_pow_pos k
   have hne:v * 2 ^ k ≠ 0:=Nat.mul_ne_zero h0 (Nat.ne_of_gt hp)
   have hlo:4503599627370496≤v * 2 ^ d:=by
    have h1:2 ^ v.log2 * 2 ^ d≤v * 2 ^ d:=Nat.mul_le_mul_right _ (Nat.log2_self_le h0)
    rw [← Nat.pow_add,show v.log2+d=52 by omega] at h1;exact h1
   have hhi:v * 2 ^ d<9007199254740992:=by
    have h1:v * 2 ^ d<2 ^ (v.log2+1) * 2 ^ d:=Nat.mul_lt_mul_of_pos_right Nat.lt_log2_self (Nat.two_pow_pos d)
    rw [← Nat.pow_add,show v.log2+1+d=53 by omega] at h1;exact h1
   refine ⟨d,?_⟩
   have hlast:max (-(k:Int)+((v * 2 ^ k).log2:Nat) - (Ieee.double.fractionBits:Nat)) Ieee.double.leastPlace=-(d:Int):=by
    rw [log2_shift h0,dfb,dlp];omega
   have hk:Toward.even.cut s ((v * 2 ^ k) <<< (-(k:Int) - -(d:Int)).toNat) (-(d:Int) - -(k:Int)).toNat=v * 2 ^ d:=by
    rcases Nat.le_total k d with h | h
    · rw [show (-(d:Int) - -(k:Int)).toNat=0 by omega,show (-(k:Int) - -(d:Int)).toNat=d - k by omega,Nat.shiftLeft_eq,Nat.mul_assoc,← Nat.pow_add,show k+(d - k)=d by omega]
      have:=cut_whole .even s (v * 2 ^ d) 0
      rwa [Nat.pow_zero,Nat.mul_one] at this
    · rw [show (-(d:Int) - -(k:Int)).toNat=k - d by omega,show (-(k:Int) - -(d:Int)).toNat=0 by omega,Nat.shiftLeft_zero]
      have:=cut_whole .even s (v * 2 ^ d) (k - d)
      rwa [Nat.mul_assoc,← Nat.pow_add,show d+(k - d)=k by omega] at this
   unfold Format.nearest
   simp only [if_neg hne]
   rw [hlast,hk,dlp,dbi,din]
   obtain ⟨m,hm⟩:∃ m,v * 2 ^ d=4503599627370496+m:=⟨v * 2 ^ d - 4503599627370496,by omega⟩
   rw [hm,show (-(d:Int) - -1074).toNat=1074 - d by omega,Nat.min_eq_left (by omega),read_word s (1074 - d) m (by omega) (by omega)]
   have:-1074+((1074 - d:Nat):Int)=-(d:Int):=by omega
   rw [this]
theorem DIs.write {d:Datum} {n:Int} (h:DIs d n) (hn:n.natAbs<9007199254740992):DIs (Ieee.double.read (Ieee.double.write d)) n:=by
 obtain ⟨s,v,k,rfl,rfl⟩:=h
 obtain ⟨j,hj⟩:=nearest_read s v k (by cases s <;> simpa using hn)
 exact ⟨s,v,j,hj,rfl⟩
theorem signed_whole (s:Bool) (v i k:Nat) (h:i≤k):signed s (v * 2 ^ i) (k - i)=(if s then -(v:Int) else v) * ((2 ^ k:Nat):Int):=by
 unfold signed
 rw [Nat.shiftLeft_eq,Nat.mul_assoc,← Nat.pow_add,show i+(k - i)=k by omega]
 cases s <;> simp [Int.neg_mul]
theorem DIs.opposite {d:Datum} {n:Int} (h:DIs d n):DIs d.opposite (-n):=by
 obtain ⟨s,v,k,rfl,rfl⟩:=h
 refine ⟨!s,v,k,rfl,?_⟩
 cases s <;> simp
theorem DIs.sum {d e:Datum} {n m:Int} (h:DIs d n) (g:DIs e m):∃ x,d.sum e=some x∧DIs x (n+m):=by
 obtain ⟨s,v,i,rfl,hn⟩:=h
 obtain ⟨t,u,j,rfl,hm⟩:=g
 obtain ⟨k,hk⟩:∃ k,k=max i j:=⟨_,rfl⟩
 have hb:min (-(i:Int)) (-(j:Int))=-(k:Int):=by omega
 have h1:(-(i:Int) - -(k:Int)).toNat=k - i:=by omega
 have h2:(-(j:Int) - -(k:Int)).toNat=k - j:=by omega
 have hp:(0:Int)<((2 ^ k:Nat):Int):=by have:=Nat.two_pow_pos k;omega
 have ht:signed s (v * 2 ^ i) (k - i)+signed t (u * 2 ^ j) (k - j)=(n+m) * ((2 ^ k:Nat):Int):=by
  rw [signed_whole s v i k (by omega),signed_whole t u j k (by omega),← hn,← hm,Int.add_mul]
 refine ⟨_,rfl,?_⟩
 simp only [hb,h1,h2,ht]
 refine ⟨if (n+m) * ((2 ^ k:Nat):Int)=0 then s && t else decide ((n+m) * ((2 ^ k:Nat):Int)<0),(n+m).natAbs,k,?_,?_⟩
 · rw [Int.natAbs_mul,Int.natAbs_natCast]
 · by_cases h0:n+m=0
   · rw [h0];simp
   · have hne:(n+m) * ((2 ^ k:Nat):Int) ≠ 0:=Int.mul_ne_zero h0 (by omega)
     rw [if_neg hne]
     by_cases hl:n+m<0
     · have:(n+m) * ((2 ^ k:Nat):Int)<0:=Int.mul_neg_of_neg_of_pos hl hp
       rw [if_pos (by simpa using this)];omega
     · have:¬ (n+m) * ((2 ^ k:Nat):Int)<0:=Int.not_lt.2 (Int.mul_nonneg (by omega) (by omega))
       rw [if_neg (by simpa using this)];omega
theorem DIs.product {d e:Datum} {n m:Int} (h:DIs d n) (g:DIs e m):∃ x,d.product e=some x∧DIs x (n * m):=by
 obtain ⟨s,v,i,rfl,rfl⟩:=h
 obtain ⟨t,u,j,rfl,rfl⟩:=g
 refine ⟨_,rfl,s ^^ t,v * u,i+j,?_,?_⟩
 · congr 1
   · rw [Nat.pow_add];exact Nat.mul_mul_mul_comm ..
   · omega
 · cases s <;> cases t <;> simp [Int.neg_mul,Int.mul_neg]
theorem DIs.toInt {d:Datum} {n:Int} (h:DIs d n):d.toInt .zero=some n:=by
 obtain ⟨s,v,k,rfl,rfl⟩:=h
 have e:Toward.zero.cut s ((v * 2 ^ k) <<< (-(k:Int)).toNat) (- -(k:Int)).toNat=v:=by
  rw [show (-(k:Int)).toNat=0 by omega,show (- -(k:Int)).toNat=k by omega,Nat.shiftLeft_zero]
  exact cut_whole .zero s v k
 unfold Datum.toInt Datum.integral
 simp only [e]
 unfold signed
 rw [Nat.shiftLeft_zero]
def Is (b:Nat) (n:Int):Prop:=DIs (Ieee.double.read b) n
theorem Is.ofInt {n:Int} (h:n.natAbs<9007199254740992):Is (floatOfInt .f64 n) n:=by
 refine DIs.write (d:=.number (n<0) n.natAbs 0) ⟨decide (n<0),n.natAbs,0,by simp,?_⟩ h
 by_cases h0:n<0
 · rw [if_pos (by simpa using h0)];omega
 · rw [if_neg (by simpa using h0)];omega
theorem Is.zero:Is 0 0:=by
 show DIs (Ieee.double.read 0) 0
 obtain ⟨j,hj⟩:∃ j:Nat,-(j:Int)=-1074:=⟨1074,rfl⟩
 have:Ieee.double.read 0=.number false (0 * 2 ^ j) (-(j:Int)):=by rw [Nat.zero_mul,hj];decide +kernel
 rw [this];exact DIs.num false 0 j
theorem Is.one:Is 4607182418800017408 1:=by
 show DIs (Ieee.double.read 4607182418800017408) 1
 have:Ieee.double.read 4607182418800017408=.number false (1 * 2 ^ 52) (-((52:Nat):Int)):=by decide +kernel
 rw [this];exact DIs.num false 1 52
theorem Is.toInt {b:Nat} {n:Int} (h:Is b n) (lo:-9007199254740992<n) (hi:n<9007199254740992):floatToIntVal .f64 b .i64=some n:=by
 have e:(FloatKind.f64.decode b).toInt .zero=some n:=DIs.toInt h
 unfold floatToIntVal
 rw [e]
 have h1:IntKind.i64.min≤n:=by show (-9223372036854775808:Int)≤n;omega
 have h2:n≤IntKind.i64.max:=by show n≤(9223372036854775807:Int);omega
 simp only [h1,h2,and_self,if_true]
theorem Is.add {x y:Nat} {n m:Int} (h:Is x n) (g:Is y m) (hb:(n+m).natAbs<9007199254740992):∃ r,floatBits .add .f64 x y=some r∧Is r (n+m):=by
 obtain ⟨d,hd,hi⟩:=DIs.sum h g
 refine ⟨Ieee.double.write d,?_,hi.write hb⟩
 show ((Ieee.double.read x).sum (Ieee.double.read y)).map Ieee.double.write=_
 rw [hd];rfl
theorem Is.sub {x y:Nat} {n m:Int} (h:Is x n) (g:Is y m) (hb:(n - m).natAbs<9007199254740992):∃ r,floatBits .sub .f64 x y=some r∧Is r (n - m):=by
 obtain ⟨d,hd,hi⟩:=DIs.sum h (DIs.opposite g)
 rw [← Int.sub_eq_add_neg] at hi
 refine ⟨Ieee.double.write d,?_,hi.write hb⟩
 show ((Ieee.double.read x).sum (Ieee.double.read y).opposite).map Ieee.double.write=_
 rw [hd];rfl
theorem Is.mul {x y:Nat} {n m:Int} (h:Is x n) (g:Is y m) (hb:(n * m).natAbs<9007199254740992):∃ r,floatBits .mul .f64 x y=some r∧Is r (n * m):=by
 obtain ⟨d,hd,hi⟩:=DIs.product h g
 refine ⟨Ieee.double.write d,?_,hi.write hb⟩
 show ((Ieee.double.read x).product (Ieee.double.read y)).map Ieee.double.write=_
 rw [hd];rfl
theorem cmul {a b c d:Nat} {x y u v:Int} (ha:Is a x) (hb:Is b y) (hc:Is c u) (hd:Is d v) (h1:(x * u).natAbs<4503599627370496) (h2:(y * v).natAbs<4503599627370496)
 (h3:(x * v).natAbs<4503599627370496) (h4:(y * u).natAbs<4503599627370496):∃ re im,cMulBits a b c d=some (re,im)∧Is re (x * u - y * v)∧Is im (x * v+y * u):=by
 obtain ⟨r1,e1,i1⟩:=ha.mul hc (by omega)
 obtain ⟨r2,e2,i2⟩:=hb.mul hd (by omega)
 obtain ⟨r3,e3,i3⟩:=i1.sub i2 (by omega)
 obtain ⟨r4,e4,i4⟩:=ha.mul hd (by omega)
 obtain ⟨r5,e5,i5⟩:=hb.mul hc (by omega)
 obtain ⟨r6,e6,i6⟩:=i4.add i5 (by omega)
 refine ⟨r3,r6,?_,i3,i6⟩
 unfold cMulBits
 simp only [e1,e2,e3,e4,e5,e6,Option.bind_some]
theorem csub {a b c d:Nat} {x y u v:Int} (ha:Is a x) (hb:Is b y) (hc:Is c u) (hd:Is d v) (h1:(x - u).natAbs<9007199254740992) (h2:(y - v).natAbs<9007199254740992) :
 ∃ re im,cSumBits .sub .f64 a b c d=some (re,im)∧Is re (x - u)∧Is im (y - v):=by
 obtain ⟨r1,e1,i1⟩:=ha.sub hc h1
 obtain ⟨r2,e2,i2⟩:=hb.sub hd h2
 refine ⟨r1,r2,?_,i1,i2⟩
 unfold cSumBits
 simp only [e1,e2,Option.bind_some]
end Go.Proofs.YtgakcpcpfkoaiaaGreatDoor.Ov
namespace Go.Proofs.YtgakcpcpfkoaiaaGreatDoor.Ga
open Go.ChangeShapes Go.WideShapes Go.ChangeAt Go.RowKit Ov
theorem if_yes (x y:Int) (w:World) (h:rb ⟨x,y⟩=true):Calls Tryz.prog 159 #[.agg #[.int .i64 x,.int .i64 y]] w fun e w'=>e=.returned (.tuple #[.agg #[.int .i64 x,.int .i64 y],.int .i64 0])∧Below w.heap.size w w':=by
 have HX:=qq (right_any x y);rw [h] at HX;clear h
 go_enter Tryz.func159,Tryz.ntmps159
 go_wp2_with fail
 refine (HX.out _).mono ?_
 rintro e w1 ⟨rfl,hb⟩
 have HB:=qq hb
 obtain ⟨hc,hf⟩:=bcell hb
 have hz:w.heap.size+1<w1.heap.size:=by have:=hb.size;simp at this;omega
 clear hb
 go_wp2_with fail
 refine bodyPost_ret (v:=.tuple #[.agg #[.int .i64 x,.int .i64 y],.int .i64 0]) (by simp [results,Tryz.results159,go_sem,hc]) rfl ⟨rfl,?_⟩
 exact ((Below.next (((Below.refl _ _).alloc (Nat.le_refl _) _).alloc (by simp) _) HB.out).setCell (by simp) _).setCell (by simp) _
theorem if_no (x y:Int) (w:World) (h:rb ⟨x,y⟩=false):Calls Tryz.prog 159 #[.agg #[.int .i64 x,.int .i64 y]] w fun e w'=>e=.returned (.tuple #[.agg #[.int .i64 0,.int .i64 0],.int .i64 14])∧Below w.heap.size w w':=by
 have HX:=qq (right_any x y);rw [h] at HX;clear h
 go_enter Tryz.func159,Tryz.ntmps159
 go_wp2_with fail
 refine (HX.out _).mono ?_
 rintro e w1 ⟨rfl,hb⟩
 have HB:=qq hb
 obtain ⟨hc,hf⟩:=bcell hb
 have hz:w.heap.size+1<w1.heap.size:=by have:=hb.size;simp at this;omega
 clear hb
 go_wp2_with fail
 refine bodyPost_ret (v:=.tuple #[.agg #[.int .i64 0,.int .i64 0],.int .i64 14]) (by simp [results,Tryz.results159,go_sem,hc]) rfl ⟨rfl,?_⟩
 exact ((Below.next (((Below.refl _ _).alloc (Nat.le_refl _) _).alloc (by simp) _) HB.out).setCell (by simp) _).setCell (by simp) _
theorem complex_any (x y:Int) (w:World):Calls Tryz.prog 119 #[.agg #[.int .i64 x,.int .i64 y]] w fun e w'=>e=.returned (.complex .f64 (floatOfInt .f64 x) (floatOfInt .f64 y))∧Below w.heap.size w w':=by
 go_enter Tryz.func119,Tryz.ntmps119
 go_wp2_with fail
 go_ret
 exact ⟨rfl,(Below.refl _ _).alloc (Nat.le_refl _) _⟩
theorem spot_any {re im:Nat} {x y:Int} (hx:Is re x) (hy:Is im y) (bx:-9007199254740992<x∧x<9007199254740992) (by_:-9007199254740992<y∧y<9007199254740992) (w:World) :
 Calls Tryz.prog 118 #[.complex .f64 re im] w fun e w'=>e=.returned (.agg #[.int .i64 x,.int .i64 y])∧Below w.heap.size w w':=by
 have r1:∀ w:World,(convert 158 3 (.float .f64 re)).run Tryz.prog w=.ok (.int .i64 x) w:=fun w=>run_convert_float_int w 158 3 .f64 .i64 re x (by rw [Tryz.underlying158];rfl) Tryz.underlying3 (hx.toInt bx.1 bx.2)
 have r2:∀ w:World,(convert 158 3 (.float .f64 im)).run Tryz.prog w=.ok (.int .i64 y) w:=fun w=>run_convert_float_int w 158 3 .f64 .i64 im y (by rw [Tryz.underlying158];rfl) Tryz.underlying3 (hy.toInt by_.1 by_.2)
 clear hx hy bx by_
 go_enter Tryz.func118,Tryz.ntmps118
 go_wp2_with fail
 refine bodyPost_ret (v:=.agg #[.int .i64 x,.int .i64 y]) (by simp [results,Tryz.results118,go_sem]) rfl ⟨rfl,?_⟩
 exact (Below.refl _ _).alloc (Nat.le_refl _) _
theorem mirror_any {x y:Int} (by_:-16777216≤y∧y≤16777216) (w:World):Calls Tryz.prog 120 #[.agg #[.int .i64 x,.int .i64 y]] w fun e w'=>e=.returned (.agg #[.int .i64 x,.int .i64 (-y)])∧Below w.heap.size w w':=by
 obtain ⟨h1,h2⟩:=by_
 go_enter Tryz.func120,Tryz.ntmps120
 go_wp2_with fail
 refine bodyPost_ret (v:=.agg #[.int .i64 x,.int .i64 (-y)]) (by simp [results,Tryz.results120,go_sem]) rfl ⟨rfl,?_⟩
 exact ((Below.refl _ _).alloc (Nat.le_refl _) _).alloc (by simp) _
theorem norm_any {x y:Int} (bx:-16777216≤x∧x≤16777216) (by_:-16777216≤y∧y≤16777216) (w:World):Calls Tryz.prog 121 #[.agg #[.int .i64 x,.int .i64 y]] w fun e w'=>e=.returned (.int .i64 (x * x+y * y))∧Below w.heap.size w w':=by
 obtain ⟨h1,h2⟩:=mul_big bx bx
 obtain ⟨h3,h4⟩:=mul_big by_ by_
 clear bx by_
 go_enter Tryz.func121,Tryz.ntmps121
 go_wp2_with fail
 go_ret
 exact ⟨rfl,(Below.refl _ _).alloc (Nat.le_refl _) _⟩
def ans (ok:Bool) (p:Pt):Value:=if ok then .tuple #[.agg #[.int .i64 p.x,.int .i64 p.y],.int .i64 0] else .tuple #[.agg #[.int .i64 0,.int .i64 0],.int .i64 14]
theorem ans_true (p:Pt):ans true p=.tuple #[.agg #[.int .i64 p.x,.int .i64 p.y],.int .i64 0]:=rfl
theorem ans_false (p:Pt):ans false p=.tuple #[.agg #[.int .i64 0,.int .i64 0],.int .i64 14]:=rfl
theorem if_any (x y:Int) (w:World):Calls Tryz.prog 159 #[.agg #[.int .i64 x,.int .i64 y]] w (Gives (ans (rb ⟨x,y⟩) ⟨x,y⟩) w):=by
 cases h:rb ⟨x,y⟩
 · exact if_no x y w h
 · exact if_yes x y w h
theorem add_any (x y u v:Int) (w:World):Calls Tryz.prog 129 #[.agg #[.int .i64 x,.int .i64 y],.agg #[.int .i64 u,.int .i64 v]] w (Gives (ans (rb ⟨x,y⟩ && rb ⟨u,v⟩ && rb (Pt.add ⟨x,y⟩ ⟨u,v⟩)) (Pt.add ⟨x,y⟩ ⟨u,v⟩)) w):=by
 have HR:=qq (both_any x y u v)
 by_cases hr:(rb ⟨x,y⟩ && rb ⟨u,v⟩)=true
 · have h12:=hr;rw [Bool.and_eq_true] at h12
   obtain ⟨⟨x1,x2⟩,y1,y2⟩:=rb_yes h12.1
   obtain ⟨⟨u1,u2⟩,v1,v2⟩:=rb_yes h12.2
   simp only at x1 x2 y1 y2 u1 u2 v1 v2
   rw [hr] at HR ⊢
   clear h12 hr
   rw [Bool.true_and]
   have HI:=qq (if_any (x+u) (y+v))
   have HE:Hid (Pt.add ⟨x,y⟩ ⟨u,v⟩=⟨x+u,y+v⟩):=rfl
   rw [HE.out];clear HE
   cases hk:rb ⟨x+u,y+v⟩
   all_goals
    rw [hk] at HI
    clear hk
    first | rw [ans_true] at HI ⊢ | rw [ans_false] at HI ⊢
    go_enter Tryz.func129,Tryz.ntmps129
    go_wp2_with fail
    refine (HR.out _).mono ?_
    rintro e w1 ⟨rfl,hb⟩
    have HB:=qq hb
    obtain ⟨hc,hf⟩:=bcell hb
    have hz:w.heap.size+2<w1.heap.size:=by have:=hb.size;simp at this;omega
    clear hb
    go_wp2_with fail
    refine (HI.out _).mono ?_
    rintro e w2 ⟨rfl,hb⟩
    have HB2:=qq (Below.next (Below.next (below3 w _ _ _) HB.out) hb)
    have hz2:w.heap.size+2<w2.heap.size:=by have:=hb.size;omega
    have hf2:w2.frozen? ⟨w.heap.size+2,0,none⟩=w1.frozen? ⟨w.heap.size+2,0,none⟩:=hb.frozen (p:=⟨w.heap.size+2,0,none⟩) hz
    have hf3:w2.frozen? ⟨w.heap.size+2,1,none⟩=w1.frozen? ⟨w.heap.size+2,1,none⟩:=hb.frozen (p:=⟨w.heap.size+2,1,none⟩) hz
    have hc2:w2.cell? ⟨w.heap.size+2,0,none⟩=w1.cell? ⟨w.heap.size+2,0,none⟩:=hb.cell (p:=⟨w.heap.size+2,0,none⟩) hz
    have hc3:w2.cell? ⟨w.heap.size+2,1,none⟩=w1.cell? ⟨w.heap.size+2,1,none⟩:=hb.cell (p:=⟨w.heap.size+2,1,none⟩) hz
    clear hb
    go_wp2_with fail
    refine bodyPost_ret (v:=_) (by simp [results,Tryz.results129,go_sem,hc2,hc3,hc]) rfl ⟨rfl,?_⟩
    exact (HB2.out.setCell (by first | (simp;done) | (simp;omega)) _).setCell (by first | (simp;done) | (simp;omega)) _
 · have hr2:(rb ⟨x,y⟩ && rb ⟨u,v⟩)=false:=by simpa using hr
   rw [hr2] at HR ⊢
   clear hr hr2
   rw [Bool.false_and,ans_false]
   go_enter Tryz.func129,Tryz.ntmps129
   go_wp2_with fail
   refine (HR.out _).mono ?_
   rintro e w1 ⟨rfl,hb⟩
   have HB:=qq hb
   obtain ⟨hc,hf⟩:=bcell hb
   have hz:w.heap.size+2<w1.heap.size:=by have:=hb.size;simp at this;omega
   clear hb
   go_wp2_with fail
   refine bodyPost_ret (v:=.tuple #[.agg #[.int .i64 0,.int .i64 0],.int .i64 14]) (by simp [results,Tryz.results129,go_sem,hc]) rfl ⟨rfl,?_⟩
   exact ((Below.next (below3 w _ _ _) HB.out).setCell (by first | (simp;done) | (simp;omega)) _).setCell (by first | (simp;done) | (simp;omega)) _
theorem sub_any (x y u v:Int) (w:World):Calls Tryz.prog 131 #[.agg #[.int .i64 x,.int .i64 y],.agg #[.int .i64 u,.int .i64 v]] w (Gives (ans (rb ⟨x,y⟩ && rb ⟨u,v⟩ && rb (Pt.sub ⟨x,y⟩ ⟨u,v⟩)) (Pt.sub ⟨x,y⟩ ⟨u,v⟩)) w):=by
 have HR:=qq (both_any x y u v)
 by_cases hr:(rb ⟨x,y⟩ && rb ⟨u,v⟩)=true
 · have h12:=hr;rw [Bool.and_eq_true] at h12
   obtain ⟨⟨x1,x2⟩,y1,y2⟩:=rb_yes h12.1
   obtain ⟨⟨u1,u2⟩,v1,v2⟩:=rb_yes h12.2
   simp only at x1 x2 y1 y2 u1 u2 v1 v2
   rw [hr] at HR ⊢
   clear h12 hr
   rw [Bool.true_and]
   have HI:=qq (if_any (x - u) (y - v))
   have HE:Hid (Pt.sub ⟨x,y⟩ ⟨u,v⟩=⟨x - u,y - v⟩):=rfl
   rw [HE.out];clear HE
   cases hk:rb ⟨x - u,y - v⟩
   all_goals
    rw [hk] at HI
    clear hk
    first | rw [ans_true] at HI ⊢ | rw [ans_false] at HI ⊢
    go_enter Tryz.func131,Tryz.ntmps131
    go_wp2_with fail
    refine (HR.out _).mono ?_
    rintro e w1 ⟨rfl,hb⟩
    have HB:=qq hb
    obtain ⟨hc,hf⟩:=bcell hb
    have hz:w.heap.size+2<w1.heap.size:=by have:=hb.size;simp at this;omega
    clear hb
    go_wp2_with fail
    refine (HI.out _).mono ?_
    rintro e w2 ⟨rfl,hb⟩
    have HB2:=qq (Below.next (Below.next (below3 w _ _ _) HB.out) hb)
    have hz2:w.heap.size+2<w2.heap.size:=by have:=hb.size;omega
    have hf2:w2.frozen? ⟨w.heap.size+2,0,none⟩=w1.frozen? ⟨w.heap.size+2,0,none⟩:=hb.frozen (p:=⟨w.heap.size+2,0,none⟩) hz
    have hf3:w2.frozen? ⟨w.heap.size+2,1,none⟩=w1.frozen? ⟨w.heap.size+2,1,none⟩:=hb.frozen (p:=⟨w.heap.size+2,1,none⟩) hz
    have hc2:w2.cell? ⟨w.heap.size+2,0,none⟩=w1.cell? ⟨w.heap.size+2,0,none⟩:=hb.cell (p:=⟨w.heap.size+2,0,none⟩) hz
    have hc3:w2.cell? ⟨w.heap.size+2,1,none⟩=w1.cell? ⟨w.heap.size+2,1,none⟩:=hb.cell (p:=⟨w.heap.size+2,1,none⟩) hz
    clear hb
    go_wp2_with fail
    refine bodyPost_ret (v:=_) (by simp [results,Tryz.results131,go_sem,hc2,hc3,hc]) rfl ⟨rfl,?_⟩
    exact (HB2.out.setCell (by first | (simp;done) | (simp;omega)) _).setCell (by first | (simp;done) | (simp;omega)) _
 · have hr2:(rb ⟨x,y⟩ && rb ⟨u,v⟩)=false:=by simpa using hr
   rw [hr2] at HR ⊢
   clear hr hr2
   rw [Bool.false_and,ans_false]
   go_enter Tryz.func131,Tryz.ntmps131
   go_wp2_with fail
   refine (HR.out _).mono ?_
   rintro e w1 ⟨rfl,hb⟩
   have HB:=qq hb
   obtain ⟨hc,hf⟩:=bcell hb
   have hz:w.heap.size+2<w1.heap.size:=by have:=hb.size;simp at this;omega
   clear hb
   go_wp2_with fail
   refine bodyPost_ret (v:=.tuple #[.agg #[.int .i64 0,.int .i64 0],.int .i64 14]) (by simp [results,Tryz.results131,go_sem,hc]) rfl ⟨rfl,?_⟩
   exact ((Below.next (below3 w _ _ _) HB.out).setCell (by first | (simp;done) | (simp;omega)) _).setCell (by first | (simp;done) | (simp;omega)) _
theorem natAbs_big {n:Int} (h:-281474976710656≤n∧n≤281474976710656):n.natAbs<4503599627370496:=by omega
theorem run_cmul {x y u v:Int} (hx:-16777216≤x∧x≤16777216) (hy:-16777216≤y∧y≤16777216) (hu:-16777216≤u∧u≤16777216) (hv:-16777216≤v∧v≤16777216) :
 ∃ re im,(∀ w:World,(binOp .mul 126 (.complex .f64 (floatOfInt .f64 x) (floatOfInt .f64 y)) (.complex .f64 (floatOfInt .f64 u) (floatOfInt .f64 v))).run Tryz.prog w=.ok (.complex .f64 re im) w) ∧
  Is re (x * u - y * v)∧Is im (x * v+y * u):=by
 obtain ⟨re,im,h,h1,h2⟩:=cmul (Is.ofInt (n:=x) (by omega)) (Is.ofInt (n:=y) (by omega)) (Is.ofInt (n:=u) (by omega)) (Is.ofInt (n:=v) (by omega))
  (natAbs_big (mul_big hx hu)) (natAbs_big (mul_big hy hv)) (natAbs_big (mul_big hx hv)) (natAbs_big (mul_big hy hu))
 exact ⟨re,im,fun w=>run_complex_mul w _ _ _ _ _ _ _ h,h1,h2⟩
theorem mul_any (x y u v:Int) (w:World):Calls Tryz.prog 133 #[.agg #[.int .i64 x,.int .i64 y],.agg #[.int .i64 u,.int .i64 v]] w (Gives (ans (rb ⟨x,y⟩ && rb ⟨u,v⟩ && rb (Pt.mul ⟨x,y⟩ ⟨u,v⟩)) (Pt.mul ⟨x,y⟩ ⟨u,v⟩)) w):=by
 have HR:=qq (both_any x y u v)
 by_cases hr:(rb ⟨x,y⟩ && rb ⟨u,v⟩)=true
 · have h12:=hr;rw [Bool.and_eq_true] at h12
   obtain ⟨hx,hy⟩:=rb_yes h12.1
   obtain ⟨hu,hv⟩:=rb_yes h12.2
   obtain ⟨re,im,hm,i1,i2⟩:=run_cmul hx hy hu hv
   have m1:=mul_big hx hu;have m2:=mul_big hy hv;have m3:=mul_big hx hv;have m4:=mul_big hy hu
   have HS:=qq (spot_any i1 i2 (by omega) (by omega))
   rw [hr] at HR ⊢
   clear h12 hr hx hy hu hv i1 i2 m1 m2 m3 m4
   rw [Bool.true_and]
   have HI:=qq (if_any (x * u - y * v) (x * v+y * u))
   have HE:Hid (Pt.mul ⟨x,y⟩ ⟨u,v⟩=⟨x * u - y * v,x * v+y * u⟩):=rfl
   rw [HE.out];clear HE
   generalize x * u - y * v=p at *
   generalize x * v+y * u=q at *
   have HC:=qq (complex_any x y)
   have HD:=qq (complex_any u v)
   generalize floatOfInt .f64 x=fx at *
   generalize floatOfInt .f64 y=fy at *
   generalize floatOfInt .f64 u=fu at *
   generalize floatOfInt .f64 v=fv at *
   cases hk:rb ⟨p,q⟩
   all_goals
    rw [hk] at HI
    clear hk
    first | rw [ans_true] at HI ⊢ | rw [ans_false] at HI ⊢
    go_enter Tryz.func133,Tryz.ntmps133
    go_wp2_with fail
    refine (HR.out _).mono ?_
    rintro e w1 ⟨rfl,hb⟩
    have HB:=qq (Below.next (below3 w _ _ _) hb)
    obtain ⟨hc,hf⟩:=bcell hb
    have hz:w.heap.size+2<w1.heap.size:=by have:=hb.size;simp at this;omega
    clear hb
    go_wp2_with fail
    have k1:∀ r:Over w1,r.val.cell? ⟨w.heap.size,0,none⟩=some (.int .i64 x):=fun r=>over_cell r (by rw [hc _ _ (by simp;omega)];simp [go_sem])
    have k2:∀ r:Over w1,r.val.cell? ⟨w.heap.size,1,none⟩=some (.int .i64 y):=fun r=>over_cell r (by rw [hc _ _ (by simp;omega)];simp [go_sem])
    have k3:∀ r:Over w1,r.val.cell? ⟨w.heap.size+1,0,none⟩=some (.int .i64 u):=fun r=>over_cell r (by rw [hc _ _ (by simp)];simp [go_sem])
    have k4:∀ r:Over w1,r.val.cell? ⟨w.heap.size+1,1,none⟩=some (.int .i64 v):=fun r=>over_cell r (by rw [hc _ _ (by simp)];simp [go_sem])
    refine wp_over_tail 9 (by kernel_rfl) (by kernel_rfl) ?_
    simp only [List.take_succ_cons,List.take_zero,List.drop_succ_cons,List.drop_zero]
    repeat (go_big_quiet_step (first
     | with_reducible exact over_make _ (HC.out _)
     | with_reducible exact over_make _ (HD.out _)
     | with_reducible exact over_make _ (HS.out _)
     | with_reducible exact over_gives _ (HI.out _)))
    refine wpQuiet_nil ?_
    rintro w2 ⟨⟨w2,hb⟩,rfl⟩
    have HB2:=qq (Below.next HB.out hb)
    have hz2:w.heap.size+2<w2.heap.size:=by have:=hb.size;omega
    have hf2:w2.frozen? ⟨w.heap.size+2,0,none⟩=w1.frozen? ⟨w.heap.size+2,0,none⟩:=hb.frozen (p:=⟨w.heap.size+2,0,none⟩) hz
    have hf3:w2.frozen? ⟨w.heap.size+2,1,none⟩=w1.frozen? ⟨w.heap.size+2,1,none⟩:=hb.frozen (p:=⟨w.heap.size+2,1,none⟩) hz
    have hc2:w2.cell? ⟨w.heap.size+2,0,none⟩=w1.cell? ⟨w.heap.size+2,0,none⟩:=hb.cell (p:=⟨w.heap.size+2,0,none⟩) hz
    have hc3:w2.cell? ⟨w.heap.size+2,1,none⟩=w1.cell? ⟨w.heap.size+2,1,none⟩:=hb.cell (p:=⟨w.heap.size+2,1,none⟩) hz
    clear hb k1 k2 k3 k4
    go_wp2_with fail
    refine bodyPost_ret (v:=_) (by simp [results,Tryz.results133,go_sem,hc2,hc3,hc]) rfl ⟨rfl,?_⟩
    exact (HB2.out.setCell (by first | (simp;done) | (simp;omega)) _).setCell (by first | (simp;done) | (simp;omega)) _
 · have hr2:(rb ⟨x,y⟩ && rb ⟨u,v⟩)=false:=by simpa using hr
   rw [hr2] at HR ⊢
   clear hr hr2
   rw [Bool.false_and,ans_false]
   go_enter Tryz.func133,Tryz.ntmps133
   go_wp2_with fail
   refine (HR.out _).mono ?_
   rintro e w1 ⟨rfl,hb⟩
   have HB:=qq hb
   obtain ⟨hc,hf⟩:=bcell hb
   have hz:w.heap.size+2<w1.heap.size:=by have:=hb.size;simp at this;omega
   clear hb
   go_wp2_with fail
   refine bodyPost_ret (v:=.tuple #[.agg #[.int .i64 0,.int .i64 0],.int .i64 14]) (by simp [results,Tryz.results133,go_sem,hc]) rfl ⟨rfl,?_⟩
   exact ((Below.next (below3 w _ _ _) HB.out).setCell (by first | (simp;done) | (simp;omega)) _).setCell (by first | (simp;done) | (simp;omega)) _
theorem cut_cases (t d:Int) (hd:0<d):(0≤t.tmod d∧t.tdiv d=t / d∧t.tdiv d * d≤t)∨(t.tmod d<0∧t.tdiv d - 1=t / d∧t<t.tdiv d * d):=by
 have h1:=Int.mul_tdiv_add_tmod t d
 have h2:=Int.tmod_lt_of_pos t hd
 have h3:-d<t.tmod d:=by
  have:=Int.lt_tmod_of_pos t hd;omega
 generalize t.tdiv d=q at *
 generalize t.tmod d=r at *
 rw [Int.mul_comm] at h1
 by_cases hr:0≤r
 · refine .inl ⟨hr,?_,by omega⟩
   rw [← h1,show q * d+r=r+q * d by omega,Int.add_mul_ediv_right _ _ (by omega),Int.ediv_eq_zero_of_lt hr h2];omega
 · refine .inr ⟨by omega,?_,by omega⟩
   rw [← h1,show q * d+r=(r+d)+(q - 1) * d by rw [Int.sub_mul];omega,Int.add_mul_ediv_right _ _ (by omega),Int.ediv_eq_zero_of_lt (by omega) (by omega)];omega
theorem tdiv_le (t d M:Int) (h1:-M≤t) (h2:t≤M) (hM:0≤M):-M≤t.tdiv d∧t.tdiv d≤M:=by
 have h:(t.tdiv d).natAbs≤t.natAbs:=by rw [Int.natAbs_tdiv];exact Nat.div_le_self _ _
 omega
theorem nearest_any {n d:Int} (h1:-1125899906842624≤n) (h2:n≤1125899906842624) (h3:0<d) (h4:d≤1125899906842624) (w:World) :
 Calls Tryz.prog 122 #[.int .i64 n,.int .i64 d] w fun e w'=>e=.returned (.int .i64 (near n d))∧w=w':=by
 obtain ⟨t1,t2⟩:=tdiv_le (2 * n+d) (2 * d) 4503599627370496 (by omega) (by omega) (by omega)
 have hn:near n d=(2 * n+d) / (2 * d):=rfl
 rcases cut_cases (2 * n+d) (2 * d) (by omega) with ⟨c1,c2,_⟩ | ⟨c1,c2,_⟩
 · have HE:=qq (hn.trans c2.symm);clear hn c2
   go_enter Tryz.func122,Tryz.ntmps122
   go_wp2_with fail
   go_ret
   exact ⟨ret_int (by rw [HE.out]),rfl⟩
 · have HE:=qq (hn.trans c2.symm);clear hn c2
   go_enter Tryz.func122,Tryz.ntmps122
   go_wp2_with fail
   go_ret
   exact ⟨ret_int (by rw [HE.out]),rfl⟩
end Go.Proofs.YtgakcpcpfkoaiaaGreatDoor.Ga
namespace Go.Proofs.YtgakcpcpfkoaiaaGreatDoor.Ov
open Go.ChangeShapes Go.WideShapes Go.ChangeAt Go.RowKit Go.Shelf
def cloneRen:Ren:=⟨fun | 25=>67 | n=>n,fun | 0=>0 | 3=>3 | 4=>4 | 5=>5 | 9=>9 | 37=>123 | 47=>124 | n=>n,fun n=>n⟩
theorem cloneLays:LaysPu.n25 Tryz.prog cloneRen :=
 { mixed:=by kernel_rfl
   f25:=by kernel_rfl
   t0:=by kernel_rfl
   a0:=fun _=>by kernel_rfl
   z0:=fun _=>by kernel_rfl
   v0:=fun _=>by kernel_rfl
   i0:=by kernel_rfl
   t3:=by kernel_rfl
   a3:=fun _=>by kernel_rfl
   z3:=fun _=>by kernel_rfl
   v3:=fun _=>by kernel_rfl
   i3:=by kernel_rfl
   t4:=by kernel_rfl
   a4:=fun _=>by kernel_rfl
   z4:=fun _=>by kernel_rfl
   v4:=fun _=>by kernel_rfl
   i4:=by kernel_rfl
   t5:=by kernel_rfl
   a5:=fun _=>by kernel_rfl
   z5:=fun _=>by kernel_rfl
   v5:=fun _=>by kernel_rfl
   i5:=by kernel_rfl
   t9:=by kernel_rfl
   a9:=fun _=>by kernel_rfl
   z9:=fun _=>by kernel_rfl
   v9:=fun _=>by kernel_rfl
   i9:=by kernel_rfl
   t37:=by kernel_rfl
   a37:=fun _=>by kernel_rfl
   z37:=fun _=>by kernel_rfl
   v37:=fun _=>by kernel_rfl
   i37:=by kernel_rfl
   t47:=by kernel_rfl
   a47:=fun _=>by kernel_rfl
   z47:=fun _=>by kernel_rfl
   v47:=fun _=>by kernel_rfl
   i47:=by kernel_rfl }
theorem sclone_any (s:ByteArray) (w:World) (hs:s.size≤281474976710656) :
 Calls Tryz.prog 67 #[.string s] w fun e w'=>e=.returned (.string s)∧Below w.heap.size w w':=AnyPu.stringslite_Clone cloneLays s w hs
theorem clone_any (s:ByteArray) (w:World) (hs:s.size≤281474976710656) :
 Calls Tryz.prog 37 #[.string s] w fun e w'=>e=.returned (.string s)∧Below w.heap.size w w':=by
 go_enter Tryz.func37,Tryz.ntmps37
 go_wp2_with fail
 refine (sclone_any s _ hs).mono ?_
 rintro e w1 ⟨rfl,hb⟩
 have HB:=qq hb;clear hb
 go_wp2_with fail
 go_ret
 exact ⟨rfl,HB.out⟩
def Bld (B b:Nat) (l:List UInt8) (w:World):Prop:=Lib.IsBuilder 172 5 B b (Lib.byteCells l) w
def bwbRen:Ren:=⟨fun | 167=>175 | 240=>184 | 276=>187 | n=>n,fun | 0=>0 | 4=>4 | 5=>5 | 9=>9 | 20=>20 | 37=>123 | 70=>170 | 72=>172 | 75=>174 | 80=>176 | 164=>182 | n=>n,fun n=>n⟩
theorem bwbLays:Lays.n167 Tryz.prog bwbRen :=
 { mixed:=by kernel_rfl
   f167:=by kernel_rfl
   f240:=by kernel_rfl
   f276:=by kernel_rfl
   t0:=by kernel_rfl
   a0:=fun _=>by kernel_rfl
   z0:=fun _=>by kernel_rfl
   v0:=fun _=>by kernel_rfl
   t4:=by kernel_rfl
   a4:=fun _=>by kernel_rfl
   z4:=fun _=>by kernel_rfl
   v4:=fun _=>by kernel_rfl
   t5:=by kernel_rfl
   a5:=fun _=>by kernel_rfl
   z5:=fun _=>by kernel_rfl
   v5:=fun _=>by kernel_rfl
   t9:=by kernel_rfl
   a9:=fun _=>by kernel_rfl
   z9:=fun _=>by kernel_rfl
   v9:=fun _=>by kernel_rfl
   t20:=by kernel_rfl
   a20:=fun _=>by kernel_rfl
   z20:=fun _=>by kernel_rfl
   v20:=fun _=>by kernel_rfl
   t37:=by kernel_rfl
   a37:=fun _=>by kernel_rfl
   z37:=fun _=>by kernel_rfl
   v37:=fun _=>by kernel_rfl
   t70:=by kernel_rfl
   a70:=fun _=>by kernel_rfl
   z70:=fun _=>by kernel_rfl
   v70:=fun _=>by kernel_rfl
   t72:=by kernel_rfl
   a72:=fun _=>by kernel_rfl
   z72:=fun _=>by kernel_rfl
   v72:=fun _=>by kernel_rfl
   t75:=by kernel_rfl
   a75:=fun _=>by kernel_rfl
   z75:=fun _=>by kernel_rfl
   v75:=fun _=>by kernel_rfl
   t164:=by kernel_rfl
   a164:=fun _=>by kernel_rfl
   z164:=fun _=>by kernel_rfl
   v164:=fun _=>by kernel_rfl }
theorem bwbExtra:Builder.Extra Tryz.prog bwbRen :=
 { sizeBuilder:=by kernel_rfl
   liesBuilder:=by kernel_rfl
   t5:=by kernel_rfl
   a5:=fun _=>by kernel_rfl
   z5:=fun _=>by kernel_rfl
   v5:=fun _=>by kernel_rfl
   infoByte:=by kernel_rfl
   cellsByte:=by kernel_rfl
   sizeByte:=by kernel_rfl
   neB5:=by decide }
theorem byte_any (B b:Nat) (l:List UInt8) (c:UInt8) (w:World) (h:Bld B b l w) (hlen:l.length+1≤140737488355328) (hB:B≤w.heap.size) :
 Calls Tryz.prog 175 #[.pointer (some ⟨b,0,none⟩),.int .u8 (c.toNat:Int)] w fun e w'=>e=.returned .nilIface∧Bld B b (l++[c]) w'∧Below B w w' :=
 (Any.Builder_WriteByte bwbLays bwbExtra B b (Lib.byteCells l) (c.toNat:Int) w h (by rw [Lib.byteCells_length];exact hlen) hB).mono fun _ w' ⟨he,h1,hb⟩ =>
   ⟨he,by
    have e:Lib.byteCells (l++[c])=Lib.byteCells l++[.int .u8 (c.toNat:Int)]:=by simp [Lib.byteCells]
    rw [← e] at h1
    exact Or.inr h1,hb⟩
def bstRen:Ren:=⟨fun | 169=>177 | n=>n,fun | 0=>0 | 3=>3 | 5=>5 | 9=>9 | 37=>123 | 70=>170 | 72=>172 | 127=>124 | n=>n,fun n=>n⟩
theorem bstLays:Lays.n169 Tryz.prog bstRen :=
 { mixed:=by kernel_rfl
   f169:=by kernel_rfl
   t0:=by kernel_rfl
   a0:=fun _=>by kernel_rfl
   z0:=fun _=>by kernel_rfl
   v0:=fun _=>by kernel_rfl
   t3:=by kernel_rfl
   a3:=fun _=>by kernel_rfl
   z3:=fun _=>by kernel_rfl
   v3:=fun _=>by kernel_rfl
   t9:=by kernel_rfl
   a9:=fun _=>by kernel_rfl
   z9:=fun _=>by kernel_rfl
   v9:=fun _=>by kernel_rfl
   t37:=by kernel_rfl
   a37:=fun _=>by kernel_rfl
   z37:=fun _=>by kernel_rfl
   v37:=fun _=>by kernel_rfl
   t70:=by kernel_rfl
   a70:=fun _=>by kernel_rfl
   z70:=fun _=>by kernel_rfl
   v70:=fun _=>by kernel_rfl
   t72:=by kernel_rfl
   a72:=fun _=>by kernel_rfl
   z72:=fun _=>by kernel_rfl
   v72:=fun _=>by kernel_rfl
   t127:=by kernel_rfl
   a127:=fun _=>by kernel_rfl
   z127:=fun _=>by kernel_rfl
   v127:=fun _=>by kernel_rfl }
theorem bstExtra:Builder.Extra Tryz.prog bstRen :=
 { sizeBuilder:=by kernel_rfl
   liesBuilder:=by kernel_rfl
   t5:=by kernel_rfl
   a5:=fun _=>by kernel_rfl
   z5:=fun _=>by kernel_rfl
   v5:=fun _=>by kernel_rfl
   infoByte:=by kernel_rfl
   cellsByte:=by kernel_rfl
   sizeByte:=by kernel_rfl
   neB5:=by decide }
theorem string_any (B b:Nat) (l:List UInt8) (w:World) (h:Bld B b l w) (hB:B≤w.heap.size) :
 Calls Tryz.prog 177 #[.pointer (some ⟨b,0,none⟩)] w fun e w'=>e=.returned (.string (tx l))∧Below B w w' :=
 Any.Builder_String_any bstLays bstExtra B b l w h hB
end Go.Proofs.YtgakcpcpfkoaiaaGreatDoor.Ov
namespace Go.Proofs.YtgakcpcpfkoaiaaGreatDoor.Ov
open Go.ChangeShapes Go.WideShapes Go.ChangeAt Go.RowKit
theorem Bld.fresh (w:World):Bld w.heap.size w.heap.size [] (w.alloc (.cells #[.pointer none,.slice none 0 0] 172)):=Lib.fresh_isBuilder _ _ w
theorem Bld.cast {B b:Nat} {l l':List UInt8} {w:World} (h:Bld B b l w) (e:l=l'):Bld B b l' w:=e ▸ h
end Go.Proofs.YtgakcpcpfkoaiaaGreatDoor.Ov
namespace Go.Proofs.YtgakcpcpfkoaiaaGreatDoor.Va
open Go.ChangeShapes Go.WideShapes Go.ChangeAt Go.RowKit Ov
def six:ByteArray:=⟨#[48,49,50,51,52,53,54,55,56,57,97,98,99,100,101,102]⟩
theorem six_at:∀ i:Fin 16,six.data[i.val]? = some (hx i.val):=by decide
theorem run_six {z:Int} (n:Nat) (h:n<16) (hz:z=(n:Int)) (w:World):(Instr.index 9 (.string ⟨#[48,49,50,51,52,53,54,55,56,57,97,98,99,100,101,102]⟩) (.int .u8 z)).run Tryz.prog w=.ok (.int .u8 ((hx n).toNat:Int)) w:=by
 subst hz
 have hs:(n:Int)<((six.size:Nat):Int):=by show (n:Int)<16;omega
 refine (run_index_string w 9 six .u8 (n:Int) Tryz.underlying9).trans ?_
 rw [dif_pos ⟨by omega,hs⟩]
 have e:six[((n:Int)).toNat]'(by omega)=hx n:=by
  have:=six_at ⟨n,h⟩
  rw [Array.getElem?_eq_some_iff] at this
  obtain ⟨hlt,he⟩:=this
  rw [← he]
  simp only [Int.toNat_natCast]
  rfl
 rw [e]
theorem esc_take (s:ByteArray) (k:Nat) (h:k<s.size):esc (s.data.toList.take (k+1))=esc (s.data.toList.take k)++e1 s[k]:=by
 rw [take_snoc s k h,esc_append];unfold esc;simp
theorem writeText_any (s:ByteArray) (w:World) (hs:s.size≤4096) :
 Calls Tryz.prog 164 #[.string s] w (Gives (.string (tx (34 :: (esc s.data.toList++[34])))) w):=by
 go_enter Tryz.func164,Tryz.ntmps164
 go_wp2_with fail
 have D0:=qq (Bld.fresh w)
 have HB0:=qq (box1 w (.cells #[.pointer none,.slice none 0 0] 172))
 generalize w.alloc (.cells #[.pointer none,.slice none 0 0] 172)=w0 at *
 refine (byte_any w.heap.size w.heap.size [] 34 _ D0.out (by simp) HB0.out.size).mono ?_
 rintro e w1 ⟨rfl,hd,hb⟩
 have D1:=qq hd
 have HB1:=qq (HB0.out.trans hb)
 clear hd hb D0 HB0
 go_wp2_with fail
 go_loopw [8] (fun i wr=>∃ k:Nat,k≤s.size∧i=.int .i64 (k:Int)∧Bld w.heap.size w.heap.size (34 :: esc (s.data.toList.take k)) wr∧Below w.heap.size w wr) (fun i _=>s.size - (intOf i).toNat)
 case atStart=>exact ⟨0,Nat.zero_le _,rfl,D1.out,HB1.out⟩
 case round =>
  obtain ⟨k,hk,rfl,hd,hb⟩:=hrel
  have D1:=qq hd;have HB1:=qq hb;clear hd hb
  have hlen:(esc (s.data.toList.take k)).length≤12288:=by
   have h1:=esc_le (s.data.toList.take k)
   have h2:(s.data.toList.take k).length≤k:=List.length_take_le _ _
   omega
  by_cases hlt:k<s.size
  · have HS:=qq (esc_take s k hlt)
    obtain ⟨c,hc⟩:∃ c:UInt8,s[k]=c:=⟨_,rfl⟩
    rw [hc] at HS
    have HP:=qq (plain_any c)
    have hcl:=c.toNat_lt
    by_cases hp:pl c=true
    · have HE:Hid (e1 c=[c]):=if_pos hp
      rw [hp] at HP;clear hp
      generalize esc (s.data.toList.take k)=l at *
      go_wp2_with fail
      refine (HP.out _).mono ?_
      rintro e w' ⟨rfl,rfl⟩
      go_wp2_with fail
      refine (byte_any w.heap.size w.heap.size _ c _ D1.out (by simp;omega) HB1.out.size).mono ?_
      rintro e w2 ⟨rfl,hd,hb⟩
      have D2:=qq hd
      have HB2:=qq (HB1.out.trans hb)
      clear hd hb D1 HB1
      go_wp2_with fail
      go_roundw
      case rel=>exact ⟨k+1,by omega,by go_num,D2.out.cast (by rw [HS.out,HE.out];rfl),HB2.out⟩
      case measure=>simp [intOf];omega
    · have hp':pl c=false:=by simpa using hp
      have HE:Hid (e1 c=[92,hx (c.toNat / 16),hx (c.toNat % 16)]):=if_neg hp
      rw [hp'] at HP;clear hp hp'
      have hx1:=run_six (z:=(c.toNat:Int) / 16) (c.toNat / 16) (by omega) (by omega)
      have hx2:=run_six (z:=(c.toNat:Int) % 16) (c.toNat % 16) (by omega) (by omega)
      generalize esc (s.data.toList.take k)=l at *
      go_wp2_with fail
      refine (HP.out _).mono ?_
      rintro e w' ⟨rfl,rfl⟩
      go_wp2_with fail
      refine (byte_any w.heap.size w.heap.size _ 92 _ D1.out (by simp;omega) HB1.out.size).mono ?_
      rintro e w2 ⟨rfl,hd,hb⟩
      have D2:=qq hd
      have HB2:=qq (HB1.out.trans hb)
      clear hd hb D1 HB1
      go_wp2_with fail
      refine (byte_any w.heap.size w.heap.size _ (hx (c.toNat / 16)) _ D2.out (by simp;omega) HB2.out.size).mono ?_
      rintro e w3 ⟨rfl,hd,hb⟩
      have D3:=qq hd
      have HB3:=qq (HB2.out.trans hb)
      clear hd hb D2 HB2
      go_wp2_with fail
      refine (byte_any w.heap.size w.heap.size _ (hx (c.toNat % 16)) _ D3.out (by simp;omega) HB3.out.size).mono ?_
      rintro e w4 ⟨rfl,hd,hb⟩
      have D4:=qq hd
      have HB4:=qq (HB3.out.trans hb)
      clear hd hb D3 HB3
      go_wp2_with fail
      go_roundw
      case rel=>exact ⟨k+1,by omega,by go_num,D4.out.cast (by rw [HS.out,HE.out];simp),HB4.out⟩
      case measure=>simp [intOf];omega
  · have HT:Hid (s.data.toList.take k=s.data.toList):=List.take_of_length_le (by simp;omega)
    rw [HT.out] at D1 hlen
    generalize esc s.data.toList=l at *
    go_wp2_with fail
    refine (byte_any w.heap.size w.heap.size _ 34 _ D1.out (by simp;omega) HB1.out.size).mono ?_
    rintro e w2 ⟨rfl,hd,hb⟩
    have D2:=qq hd
    have HB2:=qq (HB1.out.trans hb)
    clear hd hb D1 HB1
    go_wp2_with fail
    refine (string_any _ _ _ _ D2.out HB2.out.size).mono ?_
    rintro e w3 ⟨rfl,hb⟩
    have HB3:=qq (HB2.out.trans hb)
    clear hb
    go_wp2_with fail
    go_ret
    exact ⟨rfl,HB3.out⟩
end Go.Proofs.YtgakcpcpfkoaiaaGreatDoor.Va
namespace Go.Proofs.YtgakcpcpfkoaiaaGreatDoor.Cr
def hv (n:Nat):Nat:=if n % 2=1 then (n / 2) ^^^ 3988292384 else n / 2
def hs:Nat→Nat→Nat | 0,n=>n | k+1,n=>hs k (hv n)
theorem xor_half (a b:Nat):(a ^^^ b) / 2=a / 2 ^^^ b / 2:=by
 have:=Nat.shiftRight_xor_distrib (a:=a) (b:=b) (i:=1)
 simpa [Nat.shiftRight_eq_div_pow] using this
theorem hv_form (n:Nat):hv n=n / 2 ^^^ 3988292384 * (n % 2):=by
 unfold hv
 by_cases h:n % 2=1
 · rw [if_pos h,h]
 · rw [if_neg h,show n % 2=0 by omega];simp
theorem hv_xor (a b:Nat):hv (a ^^^ b)=hv a ^^^ hv b:=by
 rw [hv_form,hv_form a,hv_form b,xor_half]
 have e:(a ^^^ b) % 2=(a % 2) ^^^ (b % 2):=by
  have:=Nat.xor_mod_two_pow (a:=a) (b:=b) (n:=1)
  simpa using this
 have e3:∀ u,u<2→∀ v,v<2→3988292384 * (u ^^^ v)=3988292384 * u ^^^ 3988292384 * v:=by decide
 rw [e,e3 (a % 2) (by omega) (b % 2) (by omega)]
 ac_rfl
theorem hs_xor (k a b:Nat):hs k (a ^^^ b)=hs k a ^^^ hs k b:=by
 induction k generalizing a b with
 | zero=>rfl
 | succ k ih=>rw [hs,hv_xor,ih];rfl
theorem hs_add (j k n:Nat):hs (j+k) n=hs k (hs j n):=by
 induction j generalizing n with
 | zero=>rw [Nat.zero_add];rfl
 | succ j ih=>rw [Nat.succ_add,hs,ih];rfl
theorem hv_lt {n:Nat} (h:n<4294967296):hv n<4294967296:=by
 unfold hv
 split
 · exact Nat.xor_lt_two_pow (n:=32) (by omega) (by omega)
 · omega
theorem hs_lt (k:Nat) {n:Nat} (h:n<4294967296):hs k n<4294967296:=by
 induction k generalizing n with
 | zero=>exact h
 | succ k ih=>exact ih (hv_lt h)
theorem hs0 (k:Nat):hs k 0=0:=by
 induction k with
 | zero=>rfl
 | succ k ih=>exact ih
theorem hv_two (n:Nat):hv (n * 2)=n:=by
 unfold hv;rw [if_neg (by omega)];omega
theorem hs_pow (k n:Nat):hs k (n * 2 ^ k)=n:=by
 induction k generalizing n with
 | zero=>simp [hs]
 | succ k ih=>rw [hs,Nat.pow_succ,← Nat.mul_assoc,hv_two,ih]
def st (n:Nat) (b:UInt8):Nat:=hs 8 (n ^^^ b.toNat)
theorem split8 (n:Nat):n=(n / 256 * 2 ^ 8) ^^^ (n % 256):=by
 apply Nat.eq_of_testBit_eq
 intro i
 have h1:(n / 256 * 2 ^ 8).testBit i=(decide (8≤i) && n.testBit i):=by
  rw [Nat.testBit_mul_two_pow]
  by_cases h:8≤i
  · have:(n / 256).testBit (i - 8)=n.testBit i:=by
     rw [show (256:Nat)=2 ^ 8 from rfl,Nat.testBit_div_two_pow]
     congr 1;omega
    simp [h,this]
  · simp [h]
 have h2:(n % 256).testBit i=(decide (i<8) && n.testBit i):=by
  rw [show (256:Nat)=2 ^ 8 from rfl,Nat.testBit_mod_two_pow]
 rw [Nat.testBit_xor,h1,h2]
 by_cases h:8≤i
 · simp [h,show ¬ i<8 by omega]
 · simp [h,show i<8 by omega]
theorem st_tab (n:Nat) (b:UInt8):st n b=n / 256 ^^^ hs 8 ((n % 256) ^^^ b.toNat):=by
 have:n ^^^ b.toNat=(n / 256 * 2 ^ 8) ^^^ ((n % 256) ^^^ b.toNat):=by
  rw [← Nat.xor_assoc,← split8]
 unfold st
 rw [this,hs_xor,hs_pow]
theorem st_lt {n:Nat} (b:UInt8) (h:n<4294967296):st n b<4294967296 :=
 hs_lt 8 (Nat.xor_lt_two_pow (n:=32) h (by have:=b.toNat_lt;omega))
def run (n:Nat) (l:List UInt8):Nat:=l.foldl st n
theorem run_lt {n:Nat} (l:List UInt8) (h:n<4294967296):run n l<4294967296:=by
 induction l generalizing n with
 | nil=>exact h
 | cons b l ih=>exact ih (st_lt b h)
theorem run_snoc (n:Nat) (l:List UInt8) (b:UInt8):run n (l++[b])=st (run n l) b:=by simp [run,List.foldl_append]
def nt (n:Nat):Nat:=4294967295 ^^^ n
theorem nt_lt {n:Nat} (h:n<4294967296):nt n<4294967296:=Nat.xor_lt_two_pow (n:=32) (by omega) h
def mo (s:Nat) (l:List UInt8):Nat:=nt (run (nt s) l)
def sm (l:List UInt8):Nat:=mo 0 l
theorem mo_lt {s:Nat} (l:List UInt8) (h:s<4294967296):mo s l<4294967296:=nt_lt (run_lt l (nt_lt h))
theorem sm_lt (l:List UInt8):sm l<4294967296:=by unfold sm;exact mo_lt l (by omega)
theorem sm_run (l:List UInt8):sm l=4294967295 ^^^ run 4294967295 l:=by
 unfold sm mo
 rw [show nt 0=4294967295 from Nat.xor_zero _];unfold nt;rfl
def by8 (x i:Nat):UInt8:=UInt8.ofNat (x / 2 ^ (8 * i))
def sb (x:Nat):List UInt8:=[by8 x 0,by8 x 1,by8 x 2,by8 x 3]
end Go.Proofs.YtgakcpcpfkoaiaaGreatDoor.Cr
namespace Go.Proofs.YtgakcpcpfkoaiaaGreatDoor.Jo
open Go.ChangeShapes Go.WideShapes Go.ChangeAt Go.RowKit Go.Maps Ov
end Go.Proofs.YtgakcpcpfkoaiaaGreatDoor.Jo
namespace Go.Proofs.YtgakcpcpfkoaiaaGreatDoor.Tp
open Go.ChangeShapes Go.WideShapes Go.ChangeAt Go.RowKit Ov
theorem one_text (q:World) (g:Nat) (x:Nat) (hx:x<256) (h:q.cell? ⟨g,0,none⟩=some (.int .u8 (x:Int))) :
 (convert 123 9 (.slice (some ⟨g,0,none⟩) 1 1)).run Tryz.prog q=.ok (.string (tx [UInt8.ofNat x])) q :=
 run_text rfl fun j hj=>by
  have:j=0:=by simp at hj;omega
  subst this
  rw [Nat.zero_add,h]
  show some (Value.int .u8 (x:Int))=some (Value.int .u8 (((UInt8.ofNat x).toNat:Nat):Int))
  rw [u8_nat hx]
end Go.Proofs.YtgakcpcpfkoaiaaGreatDoor.Tp
namespace Go.Proofs.YtgakcpcpfkoaiaaGreatDoor.Ev
open Ov Tp Ga Va Ex
def grow (n d:Nat):Nat:=if n≤9007199254740992 then n * 10+d else n
theorem grow_sat {n s d:Nat} (h:min n 9007199254740993=s):min (grow n d) 9007199254740993=min (10 * s+d) 9007199254740993:=by unfold grow;split <;> omega
theorem grow_le {n d:Nat} (h:n≤90071992547409929) (hd:d≤9):grow n d≤90071992547409929:=by unfold grow;split <;> omega
def NumAt (l:List UInt8) (i:Nat) (n k x:Int):Prop:=x=((cw l).2.2:Int)∧(x=0→k=((i+(cw l).2.1:Nat):Int)∧clamp n=(cw l).1∧-90071992547409929≤n∧n≤90071992547409929∧(cw l).2.1≤l.length)
theorem NumAt.er {l:List UInt8} {i:Nat} {x:Nat} (h:(cw l).2.2=x) (h0:x ≠ 0):NumAt l i 0 0 (x:Int):=⟨by rw [h],fun e=>absurd (show x=0 by omega) h0⟩
theorem na_short {i:Nat}:NumAt [] i 0 0 ((2:Nat):Int):=NumAt.er rfl (by decide)
theorem na_short' {i:Nat}:NumAt [45] i 0 0 ((2:Nat):Int):=NumAt.er rfl (by decide)
theorem cd_form {l:List UInt8} (h0:l ≠ []) (h:tw l=0∨(1<tw l∧l.head? = some 48)):cd l=(0,0,6):=by unfold cd;rw [if_neg h0,if_pos h]
theorem cd_good {l:List UInt8} (h0:l ≠ []) (h:¬ (tw l=0∨(1<tw l∧l.head? = some 48))):cd l=(sat (l.take (tw l)),tw l,0):=by unfold cd;rw [if_neg h0,if_neg h]
theorem na_form {l:List UInt8} {i:Nat} (h0:l ≠ []) (hn:l.head? ≠ some 45) (h:tw l=0∨(1<tw l∧l.head? = some 48)):NumAt l i 0 0 ((6:Nat):Int) :=
 NumAt.er (by unfold cw;rw [if_neg hn,cd_form h0 h]) (by decide)
theorem na_form' {l:List UInt8} {i:Nat} (h0:l ≠ []) (h:tw l=0∨l.head? = some 48):NumAt (45 :: l) i 0 0 ((6:Nat):Int):=by
 refine NumAt.er ?_ (by decide)
 unfold cw
 rw [if_pos (show (45 :: l).head? = some 45 from rfl),List.tail_cons]
 by_cases g:tw l=0∨(1<tw l∧l.head? = some 48)
 · rw [cd_form h0 g];rfl
 · rw [cd_good h0 g]
   have h1:l.head? = some 48:=h.resolve_left fun e=>g (.inl e)
   have h2:tw l=1:=by
    have:¬ 1<tw l:=fun e=>g (.inr ⟨e,h1⟩)
    have:tw l ≠ 0:=fun e=>g (.inl e)
    omega
   rw [h2]
   cases l with
   | nil=>exact absurd rfl h0
   | cons c t =>
     have:c=48:=Option.some.inj h1
     subst this;rfl
theorem na_ok {l:List UInt8} {i n:Nat} (h0:l ≠ []) (hn:l.head? ≠ some 45) (h:¬ (tw l=0∨(1<tw l∧l.head? = some 48))) (hs:min n 9007199254740993=sat (l.take (tw l))) (hb:n≤90071992547409929):NumAt l i (n:Int) ((i+tw l:Nat):Int) 0:=by
 have e:cw l=((sat (l.take (tw l)):Int),tw l,0):=by unfold cw;rw [if_neg hn,cd_good h0 h]
 refine ⟨by rw [e];rfl,fun _=>?_⟩
 rw [e]
 refine ⟨rfl,?_,by omega,by omega,tw_le l⟩
 show clamp (n:Int)=(sat (l.take (tw l)):Int)
 rw [← hs];unfold clamp;omega
theorem na_ok' {l:List UInt8} {i n:Nat} (h0:l ≠ []) (h:¬ (tw l=0∨l.head? = some 48)) (hs:min n 9007199254740993=sat (l.take (tw l))) (hb:n≤90071992547409929):NumAt (45 :: l) i (-(n:Int)) ((i+1+tw l:Nat):Int) 0:=by
 have hp:1≤sat (l.take (tw l)):=by
  rw [sat_dv,take_tw]
  have h1:1≤dv (l.takeWhile dg):=by
   have hne:l.takeWhile dg ≠ []:=fun e=>h (.inl (by unfold tw;rw [e];rfl))
   refine dv_pos hne (takeWhile_dg l) ?_
   cases l with
   | nil=>exact absurd rfl h0
   | cons c t =>
     by_cases hc:dg c=true
     · rw [List.takeWhile_cons_of_pos hc];exact fun e=>h (.inr e)
     · rw [List.takeWhile_cons_of_neg hc];exact fun e=>by simp at e
  omega
 have e:cw (45 :: l)=(-(sat (l.take (tw l)):Int),tw l+1,0):=by
  unfold cw
  rw [if_pos (show (45 :: l).head? = some 45 from rfl),List.tail_cons,cd_good h0 (fun g=>h (g.imp_right (·.2))),if_neg (fun h=>h rfl),if_neg (by show ¬ sat (l.take (tw l))=0;omega)]
 refine ⟨by rw [e];rfl,fun _=>?_⟩
 rw [e]
 have:=tw_le l
 refine ⟨by show _=((i+(tw l+1):Nat):Int);omega,?_,by omega,by omega,by show tw l+1≤(45 :: l).length;rw [List.length_cons];omega⟩
 show clamp (-(n:Int))=-(sat (l.take (tw l)):Int)
 rw [← hs];unfold clamp;omega
theorem no_quote {s:List UInt8} (h:s.head? = some 34):numOf s=.inl 6:=by
 unfold numOf
 rw [if_neg]
 rintro ⟨h1,h2,h3⟩
 have e:pz s=ctx s:=by unfold pz;rw [if_pos h]
 have e2:ctx s=((ctx s).1,(ctx s).2.1,0):=Prod.ext rfl (Prod.ext rfl (by rw [← e];exact h1))
 have:=(ctx_ok e2 h).2.1
 rw [e,this] at h3
 exact absurd h3 (by decide)
theorem no_word {s:List UInt8} (h:s.head? ≠ some 34) (h2:¬ (s.head? = some 45∨(∃ c,s.head? = some c∧dg c=true))):numOf s=.inl 6:=by
 unfold numOf pz
 rw [if_neg h,if_neg h2,if_neg (fun e=>absurd e.1 (by decide))]
theorem no_er {s:List UInt8} (h:s.head? = some 45∨(∃ c,s.head? = some c∧dg c=true)) (h34:s.head? ≠ some 34) (hx:(cw s).2.2 ≠ 0):numOf s=.inl 6:=by
 unfold numOf pz
 rw [if_neg h34,if_pos h]
 unfold cnum
 rw [if_pos hx,if_neg (fun e=>absurd e.1 hx)]
theorem no_colon {s:List UInt8} (h:s.head? = some 45∨(∃ c,s.head? = some c∧dg c=true)) (h34:s.head? ≠ some 34) (hx:(cw s).2.2=0) (hc:(s.drop (cw s).2.1).head? = some 58):numOf s=.inl 6:=by
 unfold numOf pz
 rw [if_neg h34,if_pos h]
 unfold cnum
 rw [if_neg (show ¬ (cw s).2.2 ≠ 0 from fun e=>e hx),if_pos hc]
 split
 · rename_i hy;rw [if_neg (fun e=>absurd e.1 hy)]
 · split
   · rw [if_neg (fun e=>absurd e.2.2 (by show ¬ (2:Int)=0;decide))]
   · rw [if_neg (fun e=>absurd e.1 (by show ¬ (14:Nat)=0;decide))]
theorem no_num {s:List UInt8} (h:s.head? = some 45∨(∃ c,s.head? = some c∧dg c=true)) (h34:s.head? ≠ some 34) (hx:(cw s).2.2=0) (hc:(s.drop (cw s).2.1).head? ≠ some 58) :
 numOf s=if rt (nv (cw s).1)=true∧(cw s).2.1=s.length then .inr (nv (cw s).1) else .inl 6:=by
 unfold numOf pz
 rw [if_neg h34,if_pos h]
 unfold cnum
 rw [if_neg (show ¬ (cw s).2.2 ≠ 0 from fun e=>e hx),if_neg hc]
 by_cases hr:rt (nv (cw s).1)=true
 · rw [if_pos (show rt ⟨0,(cw s).1,[],0,0⟩=true from hr)]
   by_cases hl:(cw s).2.1=s.length
   · rw [if_pos ⟨rfl,hl,rfl⟩,if_pos ⟨hr,hl⟩];rfl
   · rw [if_neg (fun e=>hl e.2.1),if_neg (fun e=>hl e.2)]
 · rw [if_neg (show ¬ rt ⟨0,(cw s).1,[],0,0⟩=true from hr),if_neg (fun e=>absurd e.1 (by show ¬ (14:Nat)=0;decide)),if_neg (fun e=>hr e.1)]
end Go.Proofs.YtgakcpcpfkoaiaaGreatDoor.Ev

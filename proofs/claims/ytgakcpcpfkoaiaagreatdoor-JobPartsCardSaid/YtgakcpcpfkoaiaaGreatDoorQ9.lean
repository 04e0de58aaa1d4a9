/-
  Small texts of this claim, together: JoPlain, JoMem, JoLaw, EvSteps, EvNamX, JoOf, JoRef, JoOnly, JoRight, JoRight2, JoRefG, JoRefC1, JoRefD1, JoRefE1, JoRefF1, EvFuelX, JoMore, ErDoA, ErRunN, JoArg.
-/
import Derived.Test.YtgakcpcpfkoaiaaGreatDoorQ1
import Derived.Test.YtgakcpcpfkoaiaaGreatDoorQ2
import Derived.Test.YtgakcpcpfkoaiaaGreatDoorQ5
import Derived.Test.YtgakcpcpfkoaiaaGreatDoorQEvRun
import Derived.Test.YtgakcpcpfkoaiaaGreatDoorQEvRun2
import Derived.Test.YtgakcpcpfkoaiaaGreatDoorQ3
import Derived.Deep.RegionHeld3
import Derived.ChangeKeysEq
import Derived.Test.YtgakcpcpfkoaiaaGreatDoorQJoFold2
import Derived.Test.YtgakcpcpfkoaiaaGreatDoorQVaRef
import Derived.Deep.Cut
import Derived.Test.YtgakcpcpfkoaiaaGreatDoorQErDo
import Derived.Test.YtgakcpcpfkoaiaaGreatDoorQErDoP
import Derived.Test.YtgakcpcpfkoaiaaGreatDoorQ8
import Derived.Test.YtgakcpcpfkoaiaaGreatDoorQErDoE
import Derived.Test.YtgakcpcpfkoaiaaGreatDoorQ6
set_option maxHeartbeats 4000000
set_option maxRecDepth 100000
namespace Go.Proofs.YtgakcpcpfkoaiaaGreatDoor.Jo
open Ov Va Ex Ev
structure Jb where
 nm:List UInt8
 t:Int
 p:Int
 k:Int
 n:Int
 f:Int
 m:List No
 b:List No
 r:List No
 fd:List UInt8
 cb:Bool
def numOk (j:Jb):Bool:=wn1 j.t 16 && wn1 j.p 16 && wn1 j.n 16 && wn1 j.k j.n && wn1 j.f 100000
def exOk (j:Jb):Bool:=Rt j.m && (j.b.isEmpty || Rt j.b) && (j.r.isEmpty || Rt j.r)
def fdOk (j:Jb):Bool:=if j.r.isEmpty then isF j.fd else j.fd.isEmpty
def hs (l:List No) (i:Nat):Bool:=Rt l && hasN l l.length i
def em (l:List No):Bool:=l.any fun n=>n.o == 26
def wdOk (j:Jb):Bool:=!hs j.m 2 && (!(hs j.b 1 || hs j.b 2 || hs j.b 3 || hs j.b 4) && (!em j.b && !em j.r))
def jr (j:Jb):Int :=
 if nmOk j.nm=false then 11 else if numOk j=false then 14 else if (exOk j && fdOk j)=false then 1 else if wdOk j=false then 10 else if (j.cb && j.fd.isEmpty)=true then 19 else 0
def pm (p:Int):Rs Va→Int × Int
 | .er x=>(0,x)
 | .ok v _ _=>if v.k=0 then (v.n % p,0) else (0,13)
def pt (j:Jb) (key:List UInt8):Int × Int :=
 if jr j ≠ 0 then (0,jr j) else if 64<key.length then (0,3) else if j.b.isEmpty then (((Cr.sm key:Nat):Int) % j.p,0) else
  pm j.p (rnX j.b key vz vz j.f)
def Nz (j:Jb) (key:List UInt8):Prop:=jr j=0→key.length≤64→¬ j.b.isEmpty=true→∀ x,rnX j.b key vz vz j.f=.er x→x ≠ 0
theorem jr_zero {j:Jb} (h:jr j=0):nmOk j.nm=true∧numOk j=true∧(exOk j && fdOk j)=true∧wdOk j=true∧(j.cb && j.fd.isEmpty)=false:=by
 unfold jr at h
 by_cases h1:nmOk j.nm=false
 · rw [if_pos h1] at h;cases h
 rw [if_neg h1] at h
 by_cases h2:numOk j=false
 · rw [if_pos h2] at h;cases h
 rw [if_neg h2] at h
 by_cases h3:(exOk j && fdOk j)=false
 · rw [if_pos h3] at h;cases h
 rw [if_neg h3] at h
 by_cases h4:wdOk j=false
 · rw [if_pos h4] at h;cases h
 rw [if_neg h4] at h
 by_cases h5:(j.cb && j.fd.isEmpty)=true
 · rw [if_pos h5] at h;cases h
 exact ⟨by simpa using h1,by simpa using h2,by simpa using h3,by simpa using h4,by simpa using h5⟩
theorem jr_of {j:Jb} (h1:nmOk j.nm=true) (h2:numOk j=true) (h3:(exOk j && fdOk j)=true) (h4:wdOk j=true) (h5:(j.cb && j.fd.isEmpty)=false):jr j=0:=by
 unfold jr;rw [h1,h2,h3,h4,h5];rfl
theorem wn1_in {n most:Int} (h:wn1 n most=true):1≤n∧n≤most:=by
 unfold wn1 at h;rw [Bool.and_eq_true] at h;exact ⟨of_decide_eq_true h.1,of_decide_eq_true h.2⟩
theorem wn1_of {n most:Int} (h1:1≤n) (h2:n≤most):wn1 n most=true:=by unfold wn1;rw [decide_eq_true h1,decide_eq_true h2];rfl
theorem numOk_in {j:Jb} (h:numOk j=true):(1≤j.t∧j.t≤16)∧(1≤j.p∧j.p≤16)∧(1≤j.n∧j.n≤16)∧(1≤j.k∧j.k≤j.n)∧1≤j.f∧j.f≤100000:=by
 unfold numOk at h
 simp only [Bool.and_eq_true] at h
 obtain ⟨⟨⟨⟨h1,h2⟩,h3⟩,h4⟩,h5⟩:=h
 exact ⟨wn1_in h1,wn1_in h2,wn1_in h3,wn1_in h4,wn1_in h5⟩
end Go.Proofs.YtgakcpcpfkoaiaaGreatDoor.Jo
namespace Go.Proofs.YtgakcpcpfkoaiaaGreatDoor.Jo
open Go.ChangeShapes Go.WideShapes Go.ChangeAt Go.RowKit Ov Va Ex Ev
structure JL (w:World) (j:Jb) (A1 A2 A3:Option Addr):Prop where
 m:Nds w A1 j.m
 b:Nds w A2 j.b
 r:Nds w A3 j.r
 lm:j.m.length≤4294967296
 lb:j.b.length≤4294967296
 lr:j.r.length≤4294967296
theorem JL.next {w w':World} {j:Jb} {A1 A2 A3:Option Addr} (h:JL w j A1 A2 A3) (k:Below w.heap.size w w'):JL w' j A1 A2 A3:=⟨h.m.next k,h.b.next k,h.r.next k,h.lm,h.lb,h.lr⟩
section
variable {w:World} {B:Nat} {x0 x1 x2 x3 x4 x5 x6 x7 x8 x9 x10:Value}
theorem elev (h:Blk w B [x0,x1,x2,x3,x4,x5,x6,x7,x8,x9,x10]):w.cell? ⟨B,0,none⟩=some x0∧w.cell? ⟨B,1,none⟩=some x1∧w.cell? ⟨B,2,none⟩=some x2∧w.cell? ⟨B,3,none⟩=some x3∧w.cell? ⟨B,4,none⟩=some x4∧w.cell? ⟨B,5,none⟩=some x5∧w.cell? ⟨B,6,none⟩=some x6∧w.cell? ⟨B,7,none⟩=some x7∧w.cell? ⟨B,8,none⟩=some x8∧w.cell? ⟨B,9,none⟩=some x9∧w.cell? ⟨B,10,none⟩=some x10 :=
 ⟨h.c 0 _ rfl,h.c 1 _ rfl,h.c 2 _ rfl,h.c 3 _ rfl,h.c 4 _ rfl,h.c 5 _ rfl,h.c 6 _ rfl,h.c 7 _ rfl,h.c 8 _ rfl,h.c 9 _ rfl,h.c 10 _ rfl⟩
theorem elet (h:Blk w B [x0,x1,x2,x3,x4,x5,x6,x7,x8,x9,x10]):w.frozen? ⟨B,0,none⟩=false∧w.frozen? ⟨B,1,none⟩=false∧w.frozen? ⟨B,2,none⟩=false∧w.frozen? ⟨B,3,none⟩=false∧w.frozen? ⟨B,4,none⟩=false∧w.frozen? ⟨B,5,none⟩=false∧w.frozen? ⟨B,6,none⟩=false∧w.frozen? ⟨B,7,none⟩=false∧w.frozen? ⟨B,8,none⟩=false∧w.frozen? ⟨B,9,none⟩=false∧w.frozen? ⟨B,10,none⟩=false :=
 ⟨h.f 0 _ rfl,h.f 1 _ rfl,h.f 2 _ rfl,h.f 3 _ rfl,h.f 4 _ rfl,h.f 5 _ rfl,h.f 6 _ rfl,h.f 7 _ rfl,h.f 8 _ rfl,h.f 9 _ rfl,h.f 10 _ rfl⟩
theorem made11 (w:World) (t:TypeId) (x0 x1 x2 x3 x4 x5 x6 x7 x8 x9 x10:Value):Blk (w.alloc (.cells #[x0,x1,x2,x3,x4,x5,x6,x7,x8,x9,x10] t)) w.heap.size [x0,x1,x2,x3,x4,x5,x6,x7,x8,x9,x10]:=Blk.made w t [x0,x1,x2,x3,x4,x5,x6,x7,x8,x9,x10] rfl
end
structure Sml (j:Jb):Prop where
 m:j.m.length<200
 b:j.b.length<200
 r:j.r.length<200
 nm:j.nm.length≤100
def SmQ (j:Jb) (w:World) (e:Ending) (w':World):Prop:=∃ q:Int,e=.returned (.int .i64 q)∧Below w.heap.size w w'∧(q=0∨(q=1∧Sml j))
structure JA (w:World) (j:Jb) (A1 A2 A3:Option Addr):Prop where
 m:Nds w A1 j.m
 b:Nds w A2 j.b
 r:Nds w A3 j.r
 lm:j.m.length≤maxLen
 lb:j.b.length≤maxLen
 lr:j.r.length≤maxLen
 ln:j.nm.length≤maxLen
theorem JA.next {w w':World} {j:Jb} {A1 A2 A3:Option Addr} (h:JA w j A1 A2 A3) (k:Below w.heap.size w w'):JA w' j A1 A2 A3:=⟨h.m.next k,h.b.next k,h.r.next k,h.lm,h.lb,h.lr,h.ln⟩
theorem JA.small {w:World} {j:Jb} {A1 A2 A3:Option Addr} (h:JA w j A1 A2 A3) (hs:Sml j):JL w j A1 A2 A3:=⟨h.m,h.b,h.r,by have:=hs.m;omega,by have:=hs.b;omega,by have:=hs.r;omega⟩
theorem small_any (j:Jb) (A1:Option Addr) (c1:Nat) (A2:Option Addr) (c2:Nat) (A3:Option Addr) (c3:Nat) (w:World) (hj:JA w j A1 A2 A3):Calls Tryz.prog 5 #[.agg #[.string (tx j.nm),.int .i64 j.t,.int .i64 j.p,.int .i64 j.k,.int .i64 j.n,.int .i64 j.f,.slice A1 j.m.length c1,.slice A2 j.b.length c2,.slice A3 j.r.length c3,.string (tx j.fd),.bool j.cb]] w (SmQ j w):=by
 have HJ:=qq (made11 w 24 (.string (tx j.nm)) (.int .i64 j.t) (.int .i64 j.p) (.int .i64 j.k) (.int .i64 j.n) (.int .i64 j.f) (.slice A1 j.m.length c1) (.slice A2 j.b.length c2) (.slice A3 j.r.length c3) (.string (tx j.fd)) (.bool j.cb))
 have HB:=qq (box1 w (.cells #[.string (tx j.nm),.int .i64 j.t,.int .i64 j.p,.int .i64 j.k,.int .i64 j.n,.int .i64 j.f,.slice A1 j.m.length c1,.slice A2 j.b.length c2,.slice A3 j.r.length c3,.string (tx j.fd),.bool j.cb] 24))
 have HA:=qq (hj.next HB.out)
 have hlm:=hj.lm;have hlb:=hj.lb;have hlr:=hj.lr;have hln:=hj.ln
 unfold maxLen at hlm hlb hlr hln
 clear hj
 go_enter Tryz.func5,Tryz.ntmps5
 obtain ⟨e0,e1,e2,e3,e4,e5,e6,e7,e8,e9,e10⟩:=elev HJ.out
 have HL:=qq (And.intro hlm (And.intro hlb (And.intro hlr hln)))
 clear hlm hlb hlr hln
 go_wp2_with fail
 go_loop [3,4] (fun N I=>∃ (k:Nat) (n:Int),k≤j.m.length∧k≤200∧N=.int .i64 n∧I=.int .i64 (k:Int)) (fun _ I=>200 - (intOf I).toNat)
 case atStart=>exact ⟨0,_,Nat.zero_le _,Nat.zero_le _,rfl,rfl⟩
 case round =>
  obtain ⟨k,n,hk,hk2,rfl,rfl⟩:=hrel
  rcases (show (k<j.m.length∧k<200)∨k=j.m.length∨(k=200∧200<j.m.length) by omega) with ⟨hlt,h2⟩ | rfl | ⟨rfl,h3⟩
  · have HN:=HA.out.m
    obtain ⟨G,O,hA⟩:=HN.shape (by omega)
    subst hA
    have a3:=HN.cell hlt 3 _ rfl
    clear HN
    generalize tx (nd j.m k).v.s=s at *
    go_wp2_with fail
    go_round
    case rel=>exact ⟨k+1,_,by omega,by omega,rfl,by go_num⟩
    case measure=>simp [intOf];omega
  all_goals
   clear hk hk2
   go_wp2_with fail
   go_loop [3,5] (fun N I=>∃ (k:Nat) (n:Int),k≤j.b.length∧k≤200∧N=.int .i64 n∧I=.int .i64 (k:Int)) (fun _ I=>200 - (intOf I).toNat)
   case atStart=>exact ⟨0,_,Nat.zero_le _,Nat.zero_le _,rfl,rfl⟩
   case round =>
    obtain ⟨k,n,hk,hk2,rfl,rfl⟩:=hrel
    rcases (show (k<j.b.length∧k<200)∨k=j.b.length∨(k=200∧200<j.b.length) by omega) with ⟨hlt,h2⟩ | rfl | ⟨rfl,h3⟩
    · have HN:=HA.out.b
      obtain ⟨G,O,hA⟩:=HN.shape (by omega)
      subst hA
      have a3:=HN.cell hlt 3 _ rfl
      clear HN
      generalize tx (nd j.b k).v.s=s at *
      go_wp2_with fail
      go_round
      case rel=>exact ⟨k+1,_,by omega,by omega,rfl,by go_num⟩
      case measure=>simp [intOf];omega
    all_goals
     clear hk hk2
     go_wp2_with fail
     go_loop [3,6] (fun N I=>∃ (k:Nat) (n:Int),k≤j.r.length∧k≤200∧N=.int .i64 n∧I=.int .i64 (k:Int)) (fun _ I=>200 - (intOf I).toNat)
     case atStart=>exact ⟨0,_,Nat.zero_le _,Nat.zero_le _,rfl,rfl⟩
     case round =>
      obtain ⟨k,n,hk,hk2,rfl,rfl⟩:=hrel
      rcases (show (k<j.r.length∧k<200)∨k=j.r.length∨(k=200∧200<j.r.length) by omega) with ⟨hlt,h2⟩ | rfl | ⟨rfl,h3⟩
      · have HN:=HA.out.r
        obtain ⟨G,O,hA⟩:=HN.shape (by omega)
        subst hA
        have a3:=HN.cell hlt 3 _ rfl
        clear HN
        generalize tx (nd j.r k).v.s=s at *
        go_wp2_with fail
        go_round
        case rel=>exact ⟨k+1,_,by omega,by omega,rfl,by go_num⟩
        case measure=>simp [intOf];omega
      all_goals
       clear hk hk2
       go_wp2_with fail
       go_wp2_with fail
       all_goals
        go_ret
        refine ⟨_,rfl,HB.out,?_⟩
        first
         | exact .inl rfl
         | (refine .inr ⟨rfl,?_⟩
            have hnm:(tx j.nm).size=j.nm.length:=tx_size _
            exact ⟨by simp_all;omega,by simp_all;omega,by simp_all;omega,by simp_all;omega⟩)
end Go.Proofs.YtgakcpcpfkoaiaaGreatDoor.Jo
namespace Go.Proofs.YtgakcpcpfkoaiaaGreatDoor.Ev
open Go.ChangeShapes Go.WideShapes Go.ChangeAt Go.RowKit Ov Va Ga Ex
theorem run_any (l:List No) (A:Option Addr) (c:Nat) (k:List UInt8) (v a:Va) (n:Int) (w:World) (hn:Nds w A l) (hkn:KN w) (ht:Tab w) (hl:l.length≤4294967296) :
 Calls Tryz.prog 26 #[.slice A l.length c,.agg #[.string (tx k),.int .i64 v.k,.int .i64 v.n,.string (tx v.s),.int .i64 v.x,.int .i64 v.y,.int .i64 a.k,.int .i64 a.n,.string (tx a.s),.int .i64 a.x,.int .i64 a.y],.int .i64 n] w (RunQ (rnX l k v a n) w):=by
 by_cases h:Rt l=true∧rEnv k v a=true∧0≤n∧n≤100000
 · obtain ⟨h1,h2,h3,h4⟩:=h
   obtain ⟨m,rfl⟩:∃ m:Nat,n=(m:Int):=⟨n.toNat,by omega⟩
   exact run_yes l A c k v a m w hn hkn ht hl h1 h2 (by omega)
 · exact run_no l A c k v a n w hn hkn ht hl h
end Go.Proofs.YtgakcpcpfkoaiaaGreatDoor.Ev
namespace Go.Proofs.YtgakcpcpfkoaiaaGreatDoor.Ev
open Go.ChangeShapes Go.WideShapes Go.ChangeAt Go.RowKit Ov Tp Ga Va Ex
theorem nds_puts {w:World} {p:Option Addr} {l:List No} {C:Nat} (vs:List Value):∀ (o:Nat),Nds w p l→(∀ a,p=some a→a.block ≠ C)→Nds (putL w C o vs) p l:=by
 intro o h hC hn
 obtain ⟨B,O,e,hc⟩:=h hn
 exact ⟨B,O,e,fun i j v hi hv=>(cell_puts_other (fun e2=>hC _ e e2.symm) vs o).trans (hc i j v hi hv)⟩
end Go.Proofs.YtgakcpcpfkoaiaaGreatDoor.Ev
namespace Go.Proofs.YtgakcpcpfkoaiaaGreatDoor.Jo
open Go.ChangeShapes Go.WideShapes Go.ChangeAt Go.RowKit Ov Va Ex Ev
theorem own_ne {w:World} {base size n c b:Nat} {e:TypeId} {A:Option Addr} {xs:List Value} (h:w.ownsRow base e size (.slice A n c) n xs) (hb:b<base):∀ a,A=some a→a.block ≠ b:=by
 intro a ha
 rcases h.2 with ⟨h1,_⟩ | ⟨g,cap,cur,h1,hg,_⟩
 · injection h1 with h1;rw [h1] at ha;cases ha
 · injection h1 with h1;rw [h1] at ha;injection ha with ha;rw [← ha];show g ≠ b;omega
def OfQ (j:Jb) (w:World) (e:Ending) (w':World):Prop:=∃ B1 d1 B2 d2 B3 d3,e=.returned (.agg #[.string (tx j.nm),.int .i64 j.t,.int .i64 j.p,.int .i64 j.k,.int .i64 j.n,.int .i64 j.f,.slice B1 j.m.length d1,.slice B2 j.b.length d2,.slice B3 j.r.length d3,.string (tx j.fd),.bool j.cb])∧Below w.heap.size w w'∧(Nds w' B1 j.m∧Nds w' B2 j.b∧Nds w' B3 j.r)∧j.m.length≤d1∧j.b.length≤d2∧j.r.length≤d3
theorem jof_any (j:Jb) (A1:Option Addr) (c1:Nat) (A2:Option Addr) (c2:Nat) (A3:Option Addr) (c3:Nat) (w:World) (hj:JA w j A1 A2 A3) (hs:Sml j):Calls Tryz.prog 9 #[.agg #[.string (tx j.nm),.int .i64 j.t,.int .i64 j.p,.int .i64 j.k,.int .i64 j.n,.int .i64 j.f,.slice A1 j.m.length c1,.slice A2 j.b.length c2,.slice A3 j.r.length c3,.string (tx j.fd),.bool j.cb]] w (OfQ j w):=by
 have H1:=qq (fun w1 (h:Below w.heap.size w w1)=>of_any j.m A1 c1 w1 (hj.m.next h) (by have:=hs.m;omega))
 have H2:=qq (fun w1 (h:Below w.heap.size w w1)=>of_any j.b A2 c2 w1 (hj.b.next h) (by have:=hs.b;omega))
 have H3:=qq (fun w1 (h:Below w.heap.size w w1)=>of_any j.r A3 c3 w1 (hj.r.next h) (by have:=hs.r;omega))
 clear hj hs
 have HJ:=qq ((made11 w 24 (.string (tx j.nm)) (.int .i64 j.t) (.int .i64 j.p) (.int .i64 j.k) (.int .i64 j.n) (.int .i64 j.f) (.slice A1 j.m.length c1) (.slice A2 j.b.length c2) (.slice A3 j.r.length c3) (.string (tx j.fd)) (.bool j.cb)).old (.cells #[.string ⟨#[]⟩,.int .i64 0,.int .i64 0,.int .i64 0,.int .i64 0,.int .i64 0,.slice none 0 0,.slice none 0 0,.slice none 0 0,.string ⟨#[]⟩,.bool false] 40))
 have HZ:=qq (Blk.made (w.alloc (.cells #[.string (tx j.nm),.int .i64 j.t,.int .i64 j.p,.int .i64 j.k,.int .i64 j.n,.int .i64 j.f,.slice A1 j.m.length c1,.slice A2 j.b.length c2,.slice A3 j.r.length c3,.string (tx j.fd),.bool j.cb] 24)) 40 [.string ⟨#[]⟩,.int .i64 0,.int .i64 0,.int .i64 0,.int .i64 0,.int .i64 0,.slice none 0 0,.slice none 0 0,.slice none 0 0,.string ⟨#[]⟩,.bool false] (World.size_alloc _ _))
 change Hid (Blk ((w.alloc (.cells #[.string (tx j.nm),.int .i64 j.t,.int .i64 j.p,.int .i64 j.k,.int .i64 j.n,.int .i64 j.f,.slice A1 j.m.length c1,.slice A2 j.b.length c2,.slice A3 j.r.length c3,.string (tx j.fd),.bool j.cb] 24)).alloc (.cells #[.string ⟨#[]⟩,.int .i64 0,.int .i64 0,.int .i64 0,.int .i64 0,.int .i64 0,.slice none 0 0,.slice none 0 0,.slice none 0 0,.string ⟨#[]⟩,.bool false] 40)) _ _) at HZ
 have HB:=qq (box2 w (.cells #[.string (tx j.nm),.int .i64 j.t,.int .i64 j.p,.int .i64 j.k,.int .i64 j.n,.int .i64 j.f,.slice A1 j.m.length c1,.slice A2 j.b.length c2,.slice A3 j.r.length c3,.string (tx j.fd),.bool j.cb] 24) (.cells #[.string ⟨#[]⟩,.int .i64 0,.int .i64 0,.int .i64 0,.int .i64 0,.int .i64 0,.slice none 0 0,.slice none 0 0,.slice none 0 0,.string ⟨#[]⟩,.bool false] 40))
 go_enter Tryz.func9,Tryz.ntmps9
 go_wp2_with fail
 generalize (w.alloc (.cells #[.string (tx j.nm),.int .i64 j.t,.int .i64 j.p,.int .i64 j.k,.int .i64 j.n,.int .i64 j.f,.slice A1 j.m.length c1,.slice A2 j.b.length c2,.slice A3 j.r.length c3,.string (tx j.fd),.bool j.cb] 24)).alloc (.cells #[.string ⟨#[]⟩,.int .i64 0,.int .i64 0,.int .i64 0,.int .i64 0,.int .i64 0,.slice none 0 0,.slice none 0 0,.slice none 0 0,.string ⟨#[]⟩,.bool false] 40)=v at *
 obtain ⟨e0,e1,e2,e3,e4,e5,e6,e7,e8,e9,e10⟩:=elev HJ.out
 go_region_held3 (fun w'=>w'.cell? ⟨w.heap.size,0,none⟩=some (.string (tx j.nm))∧w'.cell? ⟨w.heap.size,1,none⟩=some (.int .i64 j.t)∧w'.cell? ⟨w.heap.size,2,none⟩=some (.int .i64 j.p)∧w'.cell? ⟨w.heap.size,3,none⟩=some (.int .i64 j.k)∧w'.cell? ⟨w.heap.size,4,none⟩=some (.int .i64 j.n)∧w'.cell? ⟨w.heap.size,5,none⟩=some (.int .i64 j.f)∧w'.cell? ⟨w.heap.size,6,none⟩=some (.slice A1 j.m.length c1)∧w'.cell? ⟨w.heap.size,7,none⟩=some (.slice A2 j.b.length c2)∧w'.cell? ⟨w.heap.size,8,none⟩=some (.slice A3 j.r.length c3)∧w'.cell? ⟨w.heap.size,9,none⟩=some (.string (tx j.fd))∧w'.cell? ⟨w.heap.size,10,none⟩=some (.bool j.cb)) (go_keep)
  (first
  | (go_at_call 27
     refine (H3.out _ HB2.out).mono ?_
     rintro e w3 ⟨B3,d3,rfl,ho3,hb3⟩
     have HJ3:=qq (HJ2.out.next hb3);have HZ3:=qq (HZ2.out.next hb3);have HB3:=qq (Below.next HB2.out hb3)
     have HO3:=qq ho3
     have HO13:=qq (HO12.out.next hb3)
     have HO23:=qq (Nds.next (Nds.of_own HO2.out) hb3)
     clear hb3 ho3
     obtain ⟨r0,r1,r2,r3,r4,r5,r6,r7,r8,r9,r10⟩:=elev HJ3.out
     obtain ⟨z0,z1,z2,z3,z4,z5,z6,z7,z8,z9,z10⟩:=elet HZ3.out
     obtain ⟨y0,y1,y2,y3,y4,y5,y6,y7,y8,y9,y10⟩:=elev HZ3.out
     have hlt3:=HZ3.out.lt)
  | (go_at_call 27
     refine (H2.out _ HB1.out).mono ?_
     rintro e w2 ⟨B2,d2,rfl,ho2,hb2⟩
     have HJ2:=qq (HJ1.out.next hb2);have HZ2:=qq (HZ1.out.next hb2);have HB2:=qq (Below.next HB1.out hb2)
     have HO2:=qq ho2
     have HO12:=qq (Nds.next (Nds.of_own HO1.out) hb2)
     clear hb2 ho2
     obtain ⟨q0,q1,q2,q3,q4,q5,q6,q7,q8,q9,q10⟩:=elev HJ2.out)
  | (go_at_call 27
     refine (H1.out _ (below_drewN HB.out 1)).mono ?_
     rintro e w1 ⟨B1,d1,rfl,ho1,hb1⟩
     have HJ1:=qq ((HJ.out.next (below_drewN (Below.refl _ _) 1)).next hb1);have HZ1:=qq ((HZ.out.next (below_drewN (Below.refl _ _) 1)).next hb1);have HB1:=qq (Below.next (below_drewN HB.out 1) hb1)
     have HO1:=qq ho1
     clear hb1 ho1
     obtain ⟨p0,p1,p2,p3,p4,p5,p6,p7,p8,p9,p10⟩:=elev HJ1.out))
 rename_i hHd
 clear hHd
 have k1:=own_ne (b:=w.heap.size+1) HO1.out (by first | exact HZ.out.lt | (show _<_;exact HZ.out.lt))
 have k2:=own_ne (b:=w.heap.size+1) HO2.out HZ1.out.lt
 have k3:=own_ne (b:=w.heap.size+1) HO3.out HZ2.out.lt
 have hx:=blk_puts [.string (tx j.nm),.int .i64 j.t,.int .i64 j.p,.int .i64 j.k,.int .i64 j.n,.int .i64 j.f,.slice B1 j.m.length d1,.slice B2 j.b.length d2,.slice B3 j.r.length d3,.string (tx j.fd),.bool j.cb] 0 HZ3.out (Nat.le_refl 11)
 change Blk (putL w3 (w.heap.size+1) 0 [.string (tx j.nm),.int .i64 j.t,.int .i64 j.p,.int .i64 j.k,.int .i64 j.n,.int .i64 j.f,.slice B1 j.m.length d1,.slice B2 j.b.length d2,.slice B3 j.r.length d3,.string (tx j.fd),.bool j.cb]) _ [.string (tx j.nm),.int .i64 j.t,.int .i64 j.p,.int .i64 j.k,.int .i64 j.n,.int .i64 j.f,.slice B1 j.m.length d1,.slice B2 j.b.length d2,.slice B3 j.r.length d3,.string (tx j.fd),.bool j.cb] at hx
 have hb:=below_puts (B:=w.heap.size+1) [.string (tx j.nm),.int .i64 j.t,.int .i64 j.p,.int .i64 j.k,.int .i64 j.n,.int .i64 j.f,.slice B1 j.m.length d1,.slice B2 j.b.length d2,.slice B3 j.r.length d3,.string (tx j.fd),.bool j.cb] 0 HB3.out (by omega)
 have n1:=nds_puts (C:=w.heap.size+1) [.string (tx j.nm),.int .i64 j.t,.int .i64 j.p,.int .i64 j.k,.int .i64 j.n,.int .i64 j.f,.slice B1 j.m.length d1,.slice B2 j.b.length d2,.slice B3 j.r.length d3,.string (tx j.fd),.bool j.cb] 0 HO13.out k1
 have n2:=nds_puts (C:=w.heap.size+1) [.string (tx j.nm),.int .i64 j.t,.int .i64 j.p,.int .i64 j.k,.int .i64 j.n,.int .i64 j.f,.slice B1 j.m.length d1,.slice B2 j.b.length d2,.slice B3 j.r.length d3,.string (tx j.fd),.bool j.cb] 0 HO23.out k2
 have n3:=nds_puts (C:=w.heap.size+1) [.string (tx j.nm),.int .i64 j.t,.int .i64 j.p,.int .i64 j.k,.int .i64 j.n,.int .i64 j.f,.slice B1 j.m.length d1,.slice B2 j.b.length d2,.slice B3 j.r.length d3,.string (tx j.fd),.bool j.cb] 0 (Nds.of_own HO3.out) k3
 have a1:=(own_cap HO1.out).1;have a2:=(own_cap HO2.out).1;have a3:=(own_cap HO3.out).1
 clear e0 e1 e2 e3 e4 e5 e6 e7 e8 e9 e10 p0 p1 p2 p3 p4 p5 p6 p7 p8 p9 p10 q0 q1 q2 q3 q4 q5 q6 q7 q8 q9 q10 r0 r1 r2 r3 r4 r5 r6 r7 r8 r9 r10 z0 z1 z2 z3 z4 z5 z6 z7 z8 z9 z10 y0 y1 y2 y3 y4 y5 y6 y7 y8 y9 y10
 change Exit.then _ _ Exit.normal _ (putL w3 (w.heap.size+1) 0 [.string (tx j.nm),.int .i64 j.t,.int .i64 j.p,.int .i64 j.k,.int .i64 j.n,.int .i64 j.f,.slice B1 j.m.length d1,.slice B2 j.b.length d2,.slice B3 j.r.length d3,.string (tx j.fd),.bool j.cb])
 generalize (putL w3 (w.heap.size+1) 0 [.string (tx j.nm),.int .i64 j.t,.int .i64 j.p,.int .i64 j.k,.int .i64 j.n,.int .i64 j.f,.slice B1 j.m.length d1,.slice B2 j.b.length d2,.slice B3 j.r.length d3,.string (tx j.fd),.bool j.cb])=w9 at *
 obtain ⟨c0,c1_,c2_,c3_,c4,c5,c6,c7,c8,c9,c10⟩:=elev hx
 go_wp2_with fail
 exact bodyPost_ret (v:=.agg #[.string (tx j.nm),.int .i64 j.t,.int .i64 j.p,.int .i64 j.k,.int .i64 j.n,.int .i64 j.f,.slice B1 j.m.length d1,.slice B2 j.b.length d2,.slice B3 j.r.length d3,.string (tx j.fd),.bool j.cb]) (by simp [results,Tryz.results9,go_sem,c0,c1_,c2_,c3_,c4,c5,c6,c7,c8,c9,c10]) rfl ⟨B1,d1,B2,d2,B3,d3,rfl,hb,⟨n1,n2,n3⟩,a1,a2,a3⟩
end Go.Proofs.YtgakcpcpfkoaiaaGreatDoor.Jo
namespace Go.Proofs.YtgakcpcpfkoaiaaGreatDoor.Jo
open Go.ChangeShapes Go.WideShapes Go.ChangeAt Go.RowKit Ov Va Ex
def dh (op m:Int) (n:No):Bool:=n.o == op && (decide (m<0) || n.v.n == m)
theorem rhas_any (l:List No) (A:Option Addr) (c:Nat) (op m:Int) (w:World) (hn:Nds w A l) (hl:l.length≤4294967296):Calls Tryz.prog 29 #[.slice A l.length c,.int .i64 op,.int .i64 m] w (Gives (.bool (l.any (dh op m))) w):=by
 have HN:=qq hn;clear hn
 go_enter Tryz.func29,Tryz.ntmps29
 go_wp2_with fail
 go_loopw [7] (fun i wr=>∃ k:Nat,k≤l.length∧i=.int .i64 (k:Int)∧Below w.heap.size w wr∧(l.take k).any (dh op m)=false) (fun i _=>l.length - (intOf i).toNat)
 case atStart=>exact ⟨0,Nat.zero_le _,rfl,Below.refl _ _,rfl⟩
 case round =>
  obtain ⟨k,hk,rfl,hb,hno⟩:=hrel
  have HB:=qq hb;have HN1:=qq (HN.out.next hb);have HO:=qq hno
  clear hb hno
  by_cases hlt:k<l.length
  · obtain ⟨G,O,rfl⟩:=HN1.out.shape (by omega)
    have HE:Hid ((l.take (k+1)).any (dh op m)=dh op m (nd l k)):=by
     show _=_
     rw [nd_at hlt,List.take_succ_eq_append_getElem hlt,List.any_append,HO.out];simp
    have HM:Hid (dh op m (nd l k)=true→l.any (dh op m)=true):=fun h=>by
     rw [List.any_eq_true]
     exact ⟨l[k],List.getElem_mem hlt,by rw [← nd_at hlt];exact h⟩
    have e0:=HN1.out.cell hlt 0 _ rfl
    have e2:=HN1.out.cell hlt 2 _ rfl
    rw [Nat.add_zero] at e0
    obtain ⟨q,hq⟩:∃ q,dh op m (nd l k)=q:=⟨_,rfl⟩
    rw [hq] at HE HM
    have HM':Hid (q=true→l.any (dh op m)=true):=qq HM.out
    have hd:Hid (((nd l k).o == op && (decide (m<0) || (nd l k).v.n == m))=q):=qq hq
    clear HM hq
    generalize nd l k=n at *
    have key:∀ q1 q2 q3:Bool,(n.o == op)=q1→decide (m<0)=q2→(n.v.n == m)=q3→(q1 && (q2 || q3))=q:=fun q1 q2 q3 h1 h2 h3=>by rw [← h1,← h2,← h3];exact hd.out
    obtain ⟨q1,h1⟩:∃ q,(n.o == op)=q:=⟨_,rfl⟩
    obtain ⟨q2,h2⟩:∃ q,decide (m<0)=q:=⟨_,rfl⟩
    obtain ⟨q3,h3⟩:∃ q,(n.v.n == m)=q:=⟨_,rfl⟩
    have HK:=qq (key q1 q2 q3 h1 h2 h3)
    clear key hd
    cases q1 <;> cases q2 <;> cases q3
    all_goals
     first
      | (obtain rfl:false=q:=HK.out
         clear HK
         go_wp2_with fail
         go_roundw
         case rel=>exact ⟨k+1,by omega,by go_num,HB.out,HE.out⟩
         case measure=>simp [intOf];omega)
      | (obtain rfl:true=q:=HK.out
         clear HK
         go_wp2_with fail
         go_ret
         exact ⟨by rw [HM'.out (by simp)];rfl,HB.out⟩)
  · obtain rfl:k=l.length:=by omega
    have HE:Hid (l.any (dh op m)=false):=by
     show _=_
     have h:=HO.out
     rw [List.take_length] at h;exact h
    go_wp2_with fail
    go_ret
    exact ⟨by rw [HE.out];rfl,HB.out⟩
theorem rfolds_any (s:ByteArray) (w:World):Calls Tryz.prog 17 #[.string s] w (Gives (.bool (isF s.data.toList)) w):=by
 go_enter Tryz.func17,Tryz.ntmps17
 go_wp2_with fail
 all_goals
  go_ret
  refine ⟨?_,Below.refl _ _⟩
  rw [isF_text];simp_all
theorem arr_eql (a b c d e a' b' c' d' e':Bool) (w:World):(binOp .eql 112 (.agg #[.bool a,.bool b,.bool c,.bool d,.bool e]) (.agg #[.bool a',.bool b',.bool c',.bool d',.bool e'])).run Tryz.prog w=.ok (.bool (a == a' && (b == b' && (c == c' && (d == d' && e == e'))))) w:=by
 have u:=Tryz.underlying4
 have hi:∃ i,Tryz.prog.info? 4=some i:=by
  have h:(Tryz.prog.info? 4).isSome=true:=by kernel_rfl
  exact Option.isSome_iff_exists.1 h
 obtain ⟨i,hi⟩:=hi
 have hc:Tryz.prog.cellsOf 4=1:=by kernel_rfl
 rw [run_eql_struct,show (10000:Nat)=9999+1 from rfl,run_equalIn_array w 9999 _ _ Tryz.underlying112 hi,hc]
 clear hi hc
 rw [show List.range 5=[0,1,2,3,4] from rfl]
 simp only [Op.eqItems]
 go_simp
 repeat' split
 all_goals simp_all
theorem nmv_hs (l:List No):nmv l=.agg #[.bool (hs l 0),.bool (hs l 1),.bool (hs l 2),.bool (hs l 3),.bool (hs l 4)]:=by
 unfold nmv hs
 cases h:Rt l
 · rfl
 · rfl
theorem index5 (a b c d e:Bool) (k:Nat) (v:Bool) (hk:k<5) (hv:(#[.bool a,.bool b,.bool c,.bool d,.bool e]:Array Value)[k]? = some (.bool v)) (w:World):(Instr.index 111 (.agg #[.bool a,.bool b,.bool c,.bool d,.bool e]) (.int .i64 (k:Int))).run Tryz.prog w=.ok (.bool v) w:=by
 have hz:∀ w,(Go.sizeOf 4).run Tryz.prog w=.ok 1 w:=fun w=>by kernel_rfl
 have ha:∀ w,(Go.isAgg 4).run Tryz.prog w=.ok false w:=fun w=>by kernel_rfl
 have h1:(0:Int)≤(k:Int)∧(k:Int)<((5:Nat):Int):=by omega
 simp [Instr.index,run_underlying Tryz.underlying111,asIntOf,hk,part,hz,ha,Sem.run_bind,Result.andThen]
 simpa [hk] using hv
def oc (a b c d e p q r s t:Bool) (k:Nat):List Value:=[.bool (a || (decide (0<k) && p)),.bool (b || (decide (1<k) && q)),.bool (c || (decide (2<k) && r)),.bool (d || (decide (3<k) && s)),.bool (e || (decide (4<k) && t))]
theorem only_any (l:List No) (A:Option Addr) (c:Nat) (m0 m1 m2 m3 m4:Bool) (w:World) (hn:Nds w A l) (hk:KN w) (hl:l.length≤4294967296):Calls Tryz.prog 75 #[.slice A l.length c,.agg #[.bool m0,.bool m1,.bool m2,.bool m3,.bool m4]] w
 (Gives (.bool ((m0 || hs l 0) == m0 && ((m1 || hs l 1) == m1 && ((m2 || hs l 2) == m2 && ((m3 || hs l 3) == m3 && (m4 || hs l 4) == m4))))) w):=by
 have HN:=qq (fun w1 (h:Below w.heap.size w w1)=>names_any l A c w1 (hn.next h) (hk.next h) hl)
 rw [nmv_hs] at HN
 clear hn hk
 generalize hs l 0=n0 at *
 generalize hs l 1=n1 at *
 generalize hs l 2=n2 at *
 generalize hs l 3=n3 at *
 generalize hs l 4=n4 at *
 have hv:=arr_eql (m0 || n0) (m1 || n1) (m2 || n2) (m3 || n3) (m4 || n4) m0 m1 m2 m3 m4
 generalize ((m0 || n0) == m0 && ((m1 || n1) == m1 && ((m2 || n2) == m2 && ((m3 || n3) == m3 && (m4 || n4) == m4))))=z at *
 have HV:=qq hv;clear hv
 go_enter Tryz.func75,Tryz.ntmps75
 have hb2:=box2 w (.cells #[.bool m0,.bool m1,.bool m2,.bool m3,.bool m4] 112) (.cells #[.bool m0,.bool m1,.bool m2,.bool m3,.bool m4] 112)
 have D1:Blk ((w.alloc (.cells #[.bool m0,.bool m1,.bool m2,.bool m3,.bool m4] 112)).alloc (.cells #[.bool m0,.bool m1,.bool m2,.bool m3,.bool m4] 112)) w.heap.size [.bool m0,.bool m1,.bool m2,.bool m3,.bool m4]:=(Blk.made w 112 [.bool m0,.bool m1,.bool m2,.bool m3,.bool m4] rfl).old _
 have D2:Blk ((w.alloc (.cells #[.bool m0,.bool m1,.bool m2,.bool m3,.bool m4] 112)).alloc (.cells #[.bool m0,.bool m1,.bool m2,.bool m3,.bool m4] 112)) (w.heap.size+1) (oc m0 m1 m2 m3 m4 n0 n1 n2 n3 n4 0):=(Blk.made (w.alloc (.cells #[.bool m0,.bool m1,.bool m2,.bool m3,.bool m4] 112)) 112 [.bool m0,.bool m1,.bool m2,.bool m3,.bool m4] (World.size_alloc _ _)).cast (by simp [oc])
 go_wp2_with fail
 refine (HN.out _ hb2).mono ?_
 rintro e w1 ⟨rfl,hb⟩
 have HD1:=qq (D1.next hb);have HD2:=qq (D2.next hb);have HB:=qq (Below.next hb2 hb)
 clear hb hb2 D1 D2 HN
 go_wp2_with fail
 go_loopw [11] (fun i wr=>∃ k:Nat,k≤5∧i=.int .i64 (k:Int)∧Below w.heap.size w wr∧Blk wr w.heap.size [.bool m0,.bool m1,.bool m2,.bool m3,.bool m4]∧Blk wr (w.heap.size+1) (oc m0 m1 m2 m3 m4 n0 n1 n2 n3 n4 k)) (fun i _=>5 - (intOf i).toNat)
 case atStart=>exact ⟨0,by omega,rfl,HB.out,HD1.out,HD2.out⟩
 case round =>
  obtain ⟨k,hk,rfl,hb,hd1,hd2⟩:=hrel
  have hz:=hd2.lt
  by_cases hlt:k<5
  · obtain ⟨mk,nk,hv,hc,hs⟩:∃ mk nk:Bool,(#[.bool n0,.bool n1,.bool n2,.bool n3,.bool n4]:Array Value)[k]? = some (.bool nk)∧(oc m0 m1 m2 m3 m4 n0 n1 n2 n3 n4 k)[k]? = some (.bool mk)∧(oc m0 m1 m2 m3 m4 n0 n1 n2 n3 n4 k).set k (.bool (mk || nk))=oc m0 m1 m2 m3 m4 n0 n1 n2 n3 n4 (k+1):=by
     obtain rfl | rfl | rfl | rfl | rfl:k=0∨k=1∨k=2∨k=3∨k=4:=by omega
     · exact ⟨m0,n0,rfl,by simp [oc],by simp [oc]⟩
     · exact ⟨m1,n1,rfl,by simp [oc],by simp [oc]⟩
     · exact ⟨m2,n2,rfl,by simp [oc],by simp [oc]⟩
     · exact ⟨m3,n3,rfl,by simp [oc],by simp [oc]⟩
     · exact ⟨m4,n4,rfl,by simp [oc],by simp [oc]⟩
    have hi:=index5 n0 n1 n2 n3 n4 k nk hlt hv
    have HS:=qq ((hd2.set k (.bool (mk || nk))).cast hs)
    have HT:=qq (hd1.put (show w.heap.size+1 ≠ w.heap.size by omega) k (.bool (mk || nk)))
    have HB9:=qq (hb.setCell (p:=⟨w.heap.size+1,k,none⟩) (Nat.le_succ _) (.bool (mk || nk)))
    have d0:=hd2.c k _ hc
    have f0:=hd2.f k _ hc
    clear hd1 hd2 hb HD1 HD2 HB hv hc hs
    cases mk
    all_goals
     go_wp2_with fail
     go_roundw
     case rel=>exact ⟨k+1,by omega,by go_num,HB9.out,HT.out,HS.out⟩
     case measure=>simp [intOf];omega
  · obtain rfl:k=5:=by omega
    have HB9:=qq hb
    have c0:=hd1.c 0 _ rfl;have c1:=hd1.c 1 _ rfl;have c2:=hd1.c 2 _ rfl;have c3:=hd1.c 3 _ rfl;have c4:=hd1.c 4 _ rfl
    have hd:=hd2.cast (us:=[.bool (m0 || n0),.bool (m1 || n1),.bool (m2 || n2),.bool (m3 || n3),.bool (m4 || n4)]) (by simp [oc])
    have d0:=hd.c 0 _ rfl;have d1:=hd.c 1 _ rfl;have d2:=hd.c 2 _ rfl;have d3:=hd.c 3 _ rfl;have d4:=hd.c 4 _ rfl
    clear hd hd1 hd2 hb HD1 HD2 HB
    have hv:=HV.out
    go_wp2_with fail
    go_ret
    exact ⟨rfl,HB9.out⟩
theorem emits_any (l:List No) (A:Option Addr) (c:Nat) (w:World) (hn:Nds w A l) (hl:l.length≤4294967296):Calls Tryz.prog 76 #[.slice A l.length c] w (Gives (.bool (em l)) w):=by
 have HN:=qq hn;clear hn
 go_enter Tryz.func76,Tryz.ntmps76
 go_wp2_with fail
 go_loopw [7] (fun i wr=>∃ k:Nat,k≤l.length∧i=.int .i64 (k:Int)∧Below w.heap.size w wr∧(l.take k).any (fun n=>n.o == 26)=false) (fun i _=>l.length - (intOf i).toNat)
 case atStart=>exact ⟨0,Nat.zero_le _,rfl,Below.refl _ _,rfl⟩
 case round =>
  obtain ⟨k,hk,rfl,hb,hno⟩:=hrel
  have HB:=qq hb;have HN1:=qq (HN.out.next hb);have HO:=qq hno
  clear hb hno
  by_cases hlt:k<l.length
  · obtain ⟨G,O,rfl⟩:=HN1.out.shape (by omega)
    have HE:Hid ((l.take (k+1)).any (fun n=>n.o == 26)=((nd l k).o == 26)):=by
     show _=_
     rw [nd_at hlt,List.take_succ_eq_append_getElem hlt,List.any_append,HO.out];simp
    have HM:Hid (((nd l k).o == 26)=true→em l=true):=fun h=>by
     unfold em
     rw [List.any_eq_true]
     exact ⟨l[k],List.getElem_mem hlt,by rw [← nd_at hlt];exact h⟩
    have e0:=HN1.out.cell hlt 0 _ rfl
    have e1:=HN1.out.cell hlt 1 _ rfl
    have e2:=HN1.out.cell hlt 2 _ rfl
    have e3:=HN1.out.cell hlt 3 _ rfl
    have e4:=HN1.out.cell hlt 4 _ rfl
    have e5:=HN1.out.cell hlt 5 _ rfl
    rw [Nat.add_zero] at e0
    obtain ⟨q,hq⟩:∃ q,((nd l k).o == 26)=q:=⟨_,rfl⟩
    rw [hq] at HE HM
    generalize nd l k=n at *
    have HB2:=qq (below_box HB.out (.cells #[.int .i64 n.o,.int .i64 n.v.k,.int .i64 n.v.n,.string (tx n.v.s),.int .i64 n.v.x,.int .i64 n.v.y] 97))
    have HM':Hid (q=true→em l=true):=qq HM.out
    clear HM
    cases q
    · go_wp2_with fail
      go_roundw
      case rel=>exact ⟨k+1,by omega,by go_num,HB2.out,HE.out⟩
      case measure=>simp [intOf];omega
    · go_wp2_with fail
      go_ret
      exact ⟨by rw [HM'.out (by simp)];rfl,HB2.out⟩
  · obtain rfl:k=l.length:=by omega
    have HE:Hid (em l=false):=by
     show _=_
     have h:=HO.out
     rw [List.take_length] at h;exact h
    go_wp2_with fail
    go_ret
    exact ⟨by rw [HE.out];rfl,HB.out⟩
end Go.Proofs.YtgakcpcpfkoaiaaGreatDoor.Jo
namespace Go.Proofs.YtgakcpcpfkoaiaaGreatDoor.Jo
open Go.ChangeShapes Go.WideShapes Go.ChangeAt Go.RowKit Ov Va Ex Ev
theorem numbers_ok (j:Jb) (A1:Option Addr) (c1:Nat) (A2:Option Addr) (c2:Nat) (A3:Option Addr) (c3:Nat) (w:World):Calls Tryz.prog 46 #[.agg #[.string (tx j.nm),.int .i64 j.t,.int .i64 j.p,.int .i64 j.k,.int .i64 j.n,.int .i64 j.f,.slice A1 j.m.length c1,.slice A2 j.b.length c2,.slice A3 j.r.length c3,.string (tx j.fd),.bool j.cb]] w (Gives (.bool (numOk j)) w):=by
 unfold numOk
 have HJ:=qq (made11 w 40 (.string (tx j.nm)) (.int .i64 j.t) (.int .i64 j.p) (.int .i64 j.k) (.int .i64 j.n) (.int .i64 j.f) (.slice A1 j.m.length c1) (.slice A2 j.b.length c2) (.slice A3 j.r.length c3) (.string (tx j.fd)) (.bool j.cb))
 have HB:=qq (box1 w (.cells #[.string (tx j.nm),.int .i64 j.t,.int .i64 j.p,.int .i64 j.k,.int .i64 j.n,.int .i64 j.f,.slice A1 j.m.length c1,.slice A2 j.b.length c2,.slice A3 j.r.length c3,.string (tx j.fd),.bool j.cb] 40))
 go_enter Tryz.func46,Tryz.ntmps46
 obtain ⟨e0,e1,e2,e3,e4,e5,e6,e7,e8,e9,e10⟩:=elev HJ.out
 go_wp2_with fail
 clear e0 e1 e2 e3 e4 e5 e6 e7 e8 e9 e10
 generalize w.alloc (.cells #[.string (tx j.nm),.int .i64 j.t,.int .i64 j.p,.int .i64 j.k,.int .i64 j.n,.int .i64 j.f,.slice A1 j.m.length c1,.slice A2 j.b.length c2,.slice A3 j.r.length c3,.string (tx j.fd),.bool j.cb] 40)=v at *
 refine (within_any j.t 16 _).mono ?_
 rintro e w1 ⟨rfl,hb⟩
 replace HJ:=qq (HJ.out.next hb);replace HB:=qq (Below.next HB.out hb);clear hb
 cases q0:wn1 j.t 16
 · go_wp2_with fail
   go_ret
   exact ⟨by simp [*],HB.out⟩
 obtain ⟨e0,e1,e2,e3,e4,e5,e6,e7,e8,e9,e10⟩:=elev HJ.out
 go_wp2_with fail
 clear e0 e1 e2 e3 e4 e5 e6 e7 e8 e9 e10
 refine (within_any j.p 16 _).mono ?_
 rintro e w2 ⟨rfl,hb⟩
 replace HJ:=qq (HJ.out.next hb);replace HB:=qq (Below.next HB.out hb);clear hb
 cases q1:wn1 j.p 16
 · go_wp2_with fail
   go_ret
   exact ⟨by simp [*],HB.out⟩
 obtain ⟨e0,e1,e2,e3,e4,e5,e6,e7,e8,e9,e10⟩:=elev HJ.out
 go_wp2_with fail
 clear e0 e1 e2 e3 e4 e5 e6 e7 e8 e9 e10
 refine (within_any j.n 16 _).mono ?_
 rintro e w3 ⟨rfl,hb⟩
 replace HJ:=qq (HJ.out.next hb);replace HB:=qq (Below.next HB.out hb);clear hb
 cases q2:wn1 j.n 16
 · go_wp2_with fail
   go_ret
   exact ⟨by simp [*],HB.out⟩
 obtain ⟨e0,e1,e2,e3,e4,e5,e6,e7,e8,e9,e10⟩:=elev HJ.out
 go_wp2_with fail
 clear e0 e1 e2 e3 e4 e5 e6 e7 e8 e9 e10
 refine (within_any j.k j.n _).mono ?_
 rintro e w4 ⟨rfl,hb⟩
 replace HJ:=qq (HJ.out.next hb);replace HB:=qq (Below.next HB.out hb);clear hb
 cases q3:wn1 j.k j.n
 · go_wp2_with fail
   go_ret
   exact ⟨by simp [*],HB.out⟩
 obtain ⟨e0,e1,e2,e3,e4,e5,e6,e7,e8,e9,e10⟩:=elev HJ.out
 go_wp2_with fail
 clear e0 e1 e2 e3 e4 e5 e6 e7 e8 e9 e10
 refine (within_any j.f 100000 _).mono ?_
 rintro e w5 ⟨rfl,hb⟩
 replace HJ:=qq (HJ.out.next hb);replace HB:=qq (Below.next HB.out hb);clear hb
 go_wp2_with fail
 go_ret
 exact ⟨by simp [*],HB.out⟩
theorem express_ok (j:Jb) (A1:Option Addr) (c1:Nat) (A2:Option Addr) (c2:Nat) (A3:Option Addr) (c3:Nat) (w:World) (hj:JL w j A1 A2 A3) (hk:KN w):Calls Tryz.prog 47 #[.agg #[.string (tx j.nm),.int .i64 j.t,.int .i64 j.p,.int .i64 j.k,.int .i64 j.n,.int .i64 j.f,.slice A1 j.m.length c1,.slice A2 j.b.length c2,.slice A3 j.r.length c3,.string (tx j.fd),.bool j.cb]] w (Gives (.bool (exOk j)) w):=by
 have H1:=qq (fun w1 (h:Below w.heap.size w w1)=>eright_any j.m A1 c1 w1 (hj.m.next h) (hk.next h) hj.lm)
 have H2:=qq (fun w1 (h:Below w.heap.size w w1)=>eright_any j.b A2 c2 w1 (hj.b.next h) (hk.next h) hj.lb)
 have H3:=qq (fun w1 (h:Below w.heap.size w w1)=>eright_any j.r A3 c3 w1 (hj.r.next h) (hk.next h) hj.lr)
 have hb0:j.b.isEmpty=decide (j.b.length=0):=by cases j.b <;> simp
 have hr0:j.r.isEmpty=decide (j.r.length=0):=by cases j.r <;> simp
 unfold exOk
 rw [hb0,hr0]
 clear hj hk hb0 hr0
 have HJ:=qq (made11 w 40 (.string (tx j.nm)) (.int .i64 j.t) (.int .i64 j.p) (.int .i64 j.k) (.int .i64 j.n) (.int .i64 j.f) (.slice A1 j.m.length c1) (.slice A2 j.b.length c2) (.slice A3 j.r.length c3) (.string (tx j.fd)) (.bool j.cb))
 have HB:=qq (box1 w (.cells #[.string (tx j.nm),.int .i64 j.t,.int .i64 j.p,.int .i64 j.k,.int .i64 j.n,.int .i64 j.f,.slice A1 j.m.length c1,.slice A2 j.b.length c2,.slice A3 j.r.length c3,.string (tx j.fd),.bool j.cb] 40))
 go_enter Tryz.func47,Tryz.ntmps47
 obtain ⟨e0,e1,e2,e3,e4,e5,e6,e7,e8,e9,e10⟩:=elev HJ.out
 go_wp2_with fail
 clear e0 e1 e2 e3 e4 e5 e6 e7 e8 e9 e10
 generalize w.alloc (.cells #[.string (tx j.nm),.int .i64 j.t,.int .i64 j.p,.int .i64 j.k,.int .i64 j.n,.int .i64 j.f,.slice A1 j.m.length c1,.slice A2 j.b.length c2,.slice A3 j.r.length c3,.string (tx j.fd),.bool j.cb] 40)=v at *
 refine (H1.out _ HB.out).mono ?_
 rintro e w1 ⟨rfl,hb⟩
 replace HJ:=qq (HJ.out.next hb);replace HB:=qq (Below.next HB.out hb);clear hb
 cases q1:Rt j.m
 · go_wp2_with fail
   go_ret
   exact ⟨by simp [*],HB.out⟩
 obtain ⟨e0,e1,e2,e3,e4,e5,e6,e7,e8,e9,e10⟩:=elev HJ.out
 by_cases h2:j.b.length=0
 · have h5:((j.b.length:Int) == 0)=true:=beq_iff_eq.2 (by omega)
   by_cases h3:j.r.length=0
   · have h4:((j.r.length:Int) == 0)=true:=beq_iff_eq.2 (by omega)
     obtain ⟨e0,e1,e2,e3,e4,e5,e6,e7,e8,e9,e10⟩:=elev HJ.out
     go_wp2_with fail
     go_ret
     exact ⟨by simp [*],HB.out⟩
   · have h4:((j.r.length:Int) == 0)=false:=beq_eq_false_iff_ne.2 (by omega)
     obtain ⟨e0,e1,e2,e3,e4,e5,e6,e7,e8,e9,e10⟩:=elev HJ.out
     go_wp2_with fail
     clear e0 e1 e2 e3 e4 e5 e6 e7 e8 e9 e10
     clear h4
     refine (H3.out _ HB.out).mono ?_
     rintro e w3 ⟨rfl,hb⟩
     replace HJ:=qq (HJ.out.next hb);replace HB:=qq (Below.next HB.out hb);clear hb
     go_wp2_with fail
     go_ret
     exact ⟨by simp [*],HB.out⟩
 · have h5:((j.b.length:Int) == 0)=false:=beq_eq_false_iff_ne.2 (by omega)
   go_wp2_with fail
   clear e0 e1 e2 e3 e4 e5 e6 e7 e8 e9 e10
   refine (H2.out _ HB.out).mono ?_
   rintro e w2 ⟨rfl,hb⟩
   replace HJ:=qq (HJ.out.next hb);replace HB:=qq (Below.next HB.out hb);clear hb
   cases q2:Rt j.b
   · go_wp2_with fail
     go_ret
     exact ⟨by simp [*],HB.out⟩
   · by_cases h3:j.r.length=0
     · have h4:((j.r.length:Int) == 0)=true:=beq_iff_eq.2 (by omega)
       obtain ⟨e0,e1,e2,e3,e4,e5,e6,e7,e8,e9,e10⟩:=elev HJ.out
       go_wp2_with fail
       go_ret
       exact ⟨by simp [*],HB.out⟩
     · have h4:((j.r.length:Int) == 0)=false:=beq_eq_false_iff_ne.2 (by omega)
       obtain ⟨e0,e1,e2,e3,e4,e5,e6,e7,e8,e9,e10⟩:=elev HJ.out
       go_wp2_with fail
       clear e0 e1 e2 e3 e4 e5 e6 e7 e8 e9 e10
       clear h4
       refine (H3.out _ HB.out).mono ?_
       rintro e w3 ⟨rfl,hb⟩
       replace HJ:=qq (HJ.out.next hb);replace HB:=qq (Below.next HB.out hb);clear hb
       go_wp2_with fail
       go_ret
       exact ⟨by simp [*],HB.out⟩
theorem empty_tx (l:List UInt8):(tx l).toList.isEmpty=l.isEmpty:=by rw [ByteArray.toList_eq,tx_list]
theorem fold_ok (j:Jb) (A1:Option Addr) (c1:Nat) (A2:Option Addr) (c2:Nat) (A3:Option Addr) (c3:Nat) (w:World):Calls Tryz.prog 48 #[.agg #[.string (tx j.nm),.int .i64 j.t,.int .i64 j.p,.int .i64 j.k,.int .i64 j.n,.int .i64 j.f,.slice A1 j.m.length c1,.slice A2 j.b.length c2,.slice A3 j.r.length c3,.string (tx j.fd),.bool j.cb]] w (Gives (.bool (fdOk j)) w):=by
 have HF:=qq (fun w=>isF_any (tx j.fd) w)
 rw [tx_list] at HF
 have HE:=qq (empty_tx j.fd)
 have hr0:j.r.isEmpty=decide (j.r.length=0):=by cases j.r <;> simp
 unfold fdOk
 rw [hr0]
 clear hr0
 by_cases h3:j.r.length=0
 · rw [if_pos (decide_eq_true h3)]
   have h4:decide (0<j.r.length)=false:=decide_eq_false (by omega)
   clear h3
   have HJ:=qq (made11 w 40 (.string (tx j.nm)) (.int .i64 j.t) (.int .i64 j.p) (.int .i64 j.k) (.int .i64 j.n) (.int .i64 j.f) (.slice A1 j.m.length c1) (.slice A2 j.b.length c2) (.slice A3 j.r.length c3) (.string (tx j.fd)) (.bool j.cb))
   have HB:=qq (box1 w (.cells #[.string (tx j.nm),.int .i64 j.t,.int .i64 j.p,.int .i64 j.k,.int .i64 j.n,.int .i64 j.f,.slice A1 j.m.length c1,.slice A2 j.b.length c2,.slice A3 j.r.length c3,.string (tx j.fd),.bool j.cb] 40))
   go_enter Tryz.func48,Tryz.ntmps48
   obtain ⟨e0,e1,e2,e3,e4,e5,e6,e7,e8,e9,e10⟩:=elev HJ.out
   go_wp2_with fail
   clear e0 e1 e2 e3 e4 e5 e6 e7 e8 e9 e10
   refine (HF.out _).mono ?_
   rintro e w1 ⟨rfl,hb⟩
   replace HJ:=qq (HJ.out.next hb);replace HB:=qq (Below.next HB.out hb);clear hb
   go_wp2_with fail
   go_ret
   exact ⟨rfl,HB.out⟩
 · rw [if_neg (by rw [decide_eq_false h3];decide)]
   have h4:decide (0<j.r.length)=true:=decide_eq_true (by omega)
   clear h3
   have HJ:=qq (made11 w 40 (.string (tx j.nm)) (.int .i64 j.t) (.int .i64 j.p) (.int .i64 j.k) (.int .i64 j.n) (.int .i64 j.f) (.slice A1 j.m.length c1) (.slice A2 j.b.length c2) (.slice A3 j.r.length c3) (.string (tx j.fd)) (.bool j.cb))
   have HB:=qq (box1 w (.cells #[.string (tx j.nm),.int .i64 j.t,.int .i64 j.p,.int .i64 j.k,.int .i64 j.n,.int .i64 j.f,.slice A1 j.m.length c1,.slice A2 j.b.length c2,.slice A3 j.r.length c3,.string (tx j.fd),.bool j.cb] 40))
   go_enter Tryz.func48,Tryz.ntmps48
   obtain ⟨e0,e1,e2,e3,e4,e5,e6,e7,e8,e9,e10⟩:=elev HJ.out
   go_wp2_with fail
   go_ret
   exact ⟨by rw [← HE.out];rfl,HB.out⟩
theorem only1 (n0 n1 n2 n3 n4:Bool):((true || n0) == true && ((true || n1) == true && ((false || n2) == false && ((true || n3) == true && (true || n4) == true))))=!n2:=by cases n2 <;> rfl
theorem only2 (n0 n1 n2 n3 n4:Bool):((true || n0) == true && ((false || n1) == false && ((false || n2) == false && ((false || n3) == false && (false || n4) == false))))=!(n1 || n2 || n3 || n4):=by cases n1 <;> cases n2 <;> cases n3 <;> cases n4 <;> rfl
theorem words_ok (j:Jb) (A1:Option Addr) (c1:Nat) (A2:Option Addr) (c2:Nat) (A3:Option Addr) (c3:Nat) (w:World) (hj:JL w j A1 A2 A3) (hk:KN w):Calls Tryz.prog 49 #[.agg #[.string (tx j.nm),.int .i64 j.t,.int .i64 j.p,.int .i64 j.k,.int .i64 j.n,.int .i64 j.f,.slice A1 j.m.length c1,.slice A2 j.b.length c2,.slice A3 j.r.length c3,.string (tx j.fd),.bool j.cb]] w (Gives (.bool (wdOk j)) w):=by
 have H1:=qq (fun w1 (h:Below w.heap.size w w1)=>only_any j.m A1 c1 true true false true true w1 (hj.m.next h) (hk.next h) hj.lm)
 have H2:=qq (fun w1 (h:Below w.heap.size w w1)=>only_any j.b A2 c2 true false false false false w1 (hj.b.next h) (hk.next h) hj.lb)
 have H3:=qq (fun w1 (h:Below w.heap.size w w1)=>emits_any j.b A2 c2 w1 (hj.b.next h) hj.lb)
 have H4:=qq (fun w1 (h:Below w.heap.size w w1)=>emits_any j.r A3 c3 w1 (hj.r.next h) hj.lr)
 rw [only1] at H1
 rw [only2] at H2
 unfold wdOk
 generalize (!hs j.m 2)=q1 at *
 generalize (!(hs j.b 1 || hs j.b 2 || hs j.b 3 || hs j.b 4))=q2 at *
 generalize em j.b=q3 at *
 generalize em j.r=q4 at *
 clear hj hk
 have HJ:=qq (made11 w 40 (.string (tx j.nm)) (.int .i64 j.t) (.int .i64 j.p) (.int .i64 j.k) (.int .i64 j.n) (.int .i64 j.f) (.slice A1 j.m.length c1) (.slice A2 j.b.length c2) (.slice A3 j.r.length c3) (.string (tx j.fd)) (.bool j.cb))
 have HB:=qq (box1 w (.cells #[.string (tx j.nm),.int .i64 j.t,.int .i64 j.p,.int .i64 j.k,.int .i64 j.n,.int .i64 j.f,.slice A1 j.m.length c1,.slice A2 j.b.length c2,.slice A3 j.r.length c3,.string (tx j.fd),.bool j.cb] 40))
 go_enter Tryz.func49,Tryz.ntmps49
 obtain ⟨e0,e1,e2,e3,e4,e5,e6,e7,e8,e9,e10⟩:=elev HJ.out
 go_wp2_with fail
 clear e0 e1 e2 e3 e4 e5 e6 e7 e8 e9 e10
 generalize w.alloc (.cells #[.string (tx j.nm),.int .i64 j.t,.int .i64 j.p,.int .i64 j.k,.int .i64 j.n,.int .i64 j.f,.slice A1 j.m.length c1,.slice A2 j.b.length c2,.slice A3 j.r.length c3,.string (tx j.fd),.bool j.cb] 40)=v at *
 refine (H1.out _ HB.out).mono ?_
 rintro e w1 ⟨rfl,hb⟩
 replace HJ:=qq (HJ.out.next hb);replace HB:=qq (Below.next HB.out hb);clear hb
 cases q1
 · go_wp2_with fail
   go_ret
   exact ⟨by simp [*],HB.out⟩
 obtain ⟨e0,e1,e2,e3,e4,e5,e6,e7,e8,e9,e10⟩:=elev HJ.out
 go_wp2_with fail
 clear e0 e1 e2 e3 e4 e5 e6 e7 e8 e9 e10
 refine (H2.out _ HB.out).mono ?_
 rintro e w2 ⟨rfl,hb⟩
 replace HJ:=qq (HJ.out.next hb);replace HB:=qq (Below.next HB.out hb);clear hb
 cases q2
 · go_wp2_with fail
   go_ret
   exact ⟨by simp [*],HB.out⟩
 obtain ⟨e0,e1,e2,e3,e4,e5,e6,e7,e8,e9,e10⟩:=elev HJ.out
 go_wp2_with fail
 clear e0 e1 e2 e3 e4 e5 e6 e7 e8 e9 e10
 refine (H3.out _ HB.out).mono ?_
 rintro e w3 ⟨rfl,hb⟩
 replace HJ:=qq (HJ.out.next hb);replace HB:=qq (Below.next HB.out hb);clear hb
 cases q3
 rotate_left
 · go_wp2_with fail
   go_ret
   exact ⟨by simp [*],HB.out⟩
 obtain ⟨e0,e1,e2,e3,e4,e5,e6,e7,e8,e9,e10⟩:=elev HJ.out
 go_wp2_with fail
 clear e0 e1 e2 e3 e4 e5 e6 e7 e8 e9 e10
 refine (H4.out _ HB.out).mono ?_
 rintro e w4 ⟨rfl,hb⟩
 replace HJ:=qq (HJ.out.next hb);replace HB:=qq (Below.next HB.out hb);clear hb
 go_wp2_with fail
 go_ret
 exact ⟨by simp [*],HB.out⟩
theorem right_any (j:Jb) (A1:Option Addr) (c1:Nat) (A2:Option Addr) (c2:Nat) (A3:Option Addr) (c3:Nat) (w:World) (hj:JL w j A1 A2 A3) (hk:KN w) (hl:j.nm.length≤9223372036854775807):Calls Tryz.prog 23 #[.agg #[.string (tx j.nm),.int .i64 j.t,.int .i64 j.p,.int .i64 j.k,.int .i64 j.n,.int .i64 j.f,.slice A1 j.m.length c1,.slice A2 j.b.length c2,.slice A3 j.r.length c3,.string (tx j.fd),.bool j.cb]] w (Gives (.int .i64 (jr j)) w):=by
 have H1:=qq (fun w=>name_any (tx j.nm) (by rw [tx_size];exact hl) w)
 rw [tx_list] at H1
 have H2:=qq (fun w1 (_:Below w.heap.size w w1)=>numbers_ok j A1 c1 A2 c2 A3 c3 w1)
 have H3:=qq (fun w1 (h:Below w.heap.size w w1)=>express_ok j A1 c1 A2 c2 A3 c3 w1 (hj.next h) (hk.next h))
 have H4:=qq (fun w1 (_:Below w.heap.size w w1)=>fold_ok j A1 c1 A2 c2 A3 c3 w1)
 have H5:=qq (fun w1 (h:Below w.heap.size w w1)=>words_ok j A1 c1 A2 c2 A3 c3 w1 (hj.next h) (hk.next h))
 have HE:=empty_tx j.fd
 obtain ⟨q1,g1⟩:∃ q,nmOk j.nm=q:=⟨_,rfl⟩
 obtain ⟨q2,g2⟩:∃ q,numOk j=q:=⟨_,rfl⟩
 obtain ⟨q3,g3⟩:∃ q,exOk j=q:=⟨_,rfl⟩
 obtain ⟨q4,g4⟩:∃ q,fdOk j=q:=⟨_,rfl⟩
 obtain ⟨q5,g5⟩:∃ q,wdOk j=q:=⟨_,rfl⟩
 obtain ⟨q6,g6⟩:∃ q,j.fd.isEmpty=q:=⟨_,rfl⟩
 rw [g1] at H1;rw [g2] at H2;rw [g3] at H3;rw [g4] at H4;rw [g5] at H5;rw [g6] at HE
 replace g1:=qq g1;replace g2:=qq g2;replace g3:=qq g3;replace g4:=qq g4;replace g5:=qq g5;replace g6:=qq g6
 clear hj hk hl
 have HJ:=qq (made11 w 40 (.string (tx j.nm)) (.int .i64 j.t) (.int .i64 j.p) (.int .i64 j.k) (.int .i64 j.n) (.int .i64 j.f) (.slice A1 j.m.length c1) (.slice A2 j.b.length c2) (.slice A3 j.r.length c3) (.string (tx j.fd)) (.bool j.cb))
 have HB:=qq (box1 w (.cells #[.string (tx j.nm),.int .i64 j.t,.int .i64 j.p,.int .i64 j.k,.int .i64 j.n,.int .i64 j.f,.slice A1 j.m.length c1,.slice A2 j.b.length c2,.slice A3 j.r.length c3,.string (tx j.fd),.bool j.cb] 40))
 go_enter Tryz.func23,Tryz.ntmps23
 obtain ⟨e0,e1,e2,e3,e4,e5,e6,e7,e8,e9,e10⟩:=elev HJ.out
 go_wp2_with fail
 clear e0 e1 e2 e3 e4 e5 e6 e7 e8 e9 e10
 generalize w.alloc (.cells #[.string (tx j.nm),.int .i64 j.t,.int .i64 j.p,.int .i64 j.k,.int .i64 j.n,.int .i64 j.f,.slice A1 j.m.length c1,.slice A2 j.b.length c2,.slice A3 j.r.length c3,.string (tx j.fd),.bool j.cb] 40)=v at *
 refine (H1.out _).mono ?_
 rintro e w1 ⟨rfl,hb⟩
 replace HJ:=qq (HJ.out.next hb);replace HB:=qq (Below.next HB.out hb);clear hb
 cases q1
 · go_wp2_with fail
   go_ret
   exact ⟨by simp [jr,g1.out],HB.out⟩
 obtain ⟨e0,e1,e2,e3,e4,e5,e6,e7,e8,e9,e10⟩:=elev HJ.out
 go_wp2_with fail
 clear e0 e1 e2 e3 e4 e5 e6 e7 e8 e9 e10
 refine (H2.out _ HB.out).mono ?_
 rintro e w2 ⟨rfl,hb⟩
 replace HJ:=qq (HJ.out.next hb);replace HB:=qq (Below.next HB.out hb);clear hb
 cases q2
 · go_wp2_with fail
   go_ret
   exact ⟨by simp [jr,g1.out,g2.out],HB.out⟩
 obtain ⟨e0,e1,e2,e3,e4,e5,e6,e7,e8,e9,e10⟩:=elev HJ.out
 go_wp2_with fail
 clear e0 e1 e2 e3 e4 e5 e6 e7 e8 e9 e10
 refine (H3.out _ HB.out).mono ?_
 rintro e w3 ⟨rfl,hb⟩
 replace HJ:=qq (HJ.out.next hb);replace HB:=qq (Below.next HB.out hb);clear hb
 cases q3
 · go_wp2_with fail
   go_ret
   exact ⟨by simp [jr,g1.out,g2.out,g3.out],HB.out⟩
 obtain ⟨e0,e1,e2,e3,e4,e5,e6,e7,e8,e9,e10⟩:=elev HJ.out
 go_wp2_with fail
 clear e0 e1 e2 e3 e4 e5 e6 e7 e8 e9 e10
 refine (H4.out _ HB.out).mono ?_
 rintro e w4 ⟨rfl,hb⟩
 replace HJ:=qq (HJ.out.next hb);replace HB:=qq (Below.next HB.out hb);clear hb
 cases q4
 · go_wp2_with fail
   go_ret
   exact ⟨by simp [jr,g1.out,g2.out,g3.out,g4.out],HB.out⟩
 obtain ⟨e0,e1,e2,e3,e4,e5,e6,e7,e8,e9,e10⟩:=elev HJ.out
 go_wp2_with fail
 clear e0 e1 e2 e3 e4 e5 e6 e7 e8 e9 e10
 refine (H5.out _ HB.out).mono ?_
 rintro e w5 ⟨rfl,hb⟩
 replace HJ:=qq (HJ.out.next hb);replace HB:=qq (Below.next HB.out hb);clear hb
 cases q5
 · go_wp2_with fail
   go_ret
   exact ⟨by simp [jr,g1.out,g2.out,g3.out,g4.out,g5.out],HB.out⟩
 obtain ⟨e0,e1,e2,e3,e4,e5,e6,e7,e8,e9,e10⟩:=elev HJ.out
 obtain ⟨q7,g7⟩:∃ q,j.cb=q:=⟨_,rfl⟩
 rw [g7] at e10
 replace g7:=qq g7
 cases q7
 all_goals
  cases q6
 all_goals
  go_wp2_with fail
  go_ret
  exact ⟨by simp [jr,g1.out,g2.out,g3.out,g4.out,g5.out,g6.out,g7.out],HB.out⟩
end Go.Proofs.YtgakcpcpfkoaiaaGreatDoor.Jo
namespace Go.Proofs.YtgakcpcpfkoaiaaGreatDoor.Jo
open Go.ChangeShapes Go.WideShapes Go.ChangeAt Go.RowKit Ov Ga Va
theorem rg_tmod {n b:Int} (hb:0<b):rg n b=if (n+b).tmod (2 * b)<0 then (n+b).tmod (2 * b)+2 * b - b else (n+b).tmod (2 * b) - b:=by
 unfold rg
 have h2:=Int.lt_tmod_of_pos (n+b) (show 0<2 * b by omega)
 have h3:=Int.tmod_lt_of_pos (n+b) (show 0<2 * b by omega)
 have e:(n+b) % (2 * b)=((n+b).tmod (2 * b)) % (2 * b):=by
  conv=>lhs;rw [← Int.tmod_add_mul_tdiv (n+b) (2 * b),Int.add_mul_emod_self_left]
 rw [e]
 generalize (n+b).tmod (2 * b)=r at *
 split
 · rw [← Int.add_emod_right,Int.emod_eq_of_lt (by omega) (by omega)]
 · rw [Int.emod_eq_of_lt (by omega) (by omega)]
theorem rwrap_any (n b:Int) (hb:0<b∧b≤9007199254740992) (hn:-36028797018963968≤n∧n≤36028797018963968) (w:World):Calls Tryz.prog 20 #[.int .i64 n,.int .i64 b] w (Gives (.int .i64 (rg n b)) w):=by
 have h1:wrap64 (n+b)=n+b:=IntWalk.wrap64_in _ (by omega)
 have h2:wrap64 (2 * b)=2 * b:=IntWalk.wrap64_in _ (by omega)
 have h5:((2 * b) == 0)=false:=beq_eq_false_iff_ne.2 (by omega)
 have h6:¬ 2 * b=0:=by omega
 have h7:=Int.lt_tmod_of_pos (n+b) (show 0<2 * b by omega)
 have h8:=Int.tmod_lt_of_pos (n+b) (show 0<2 * b by omega)
 have HG:=qq (rg_tmod (n:=n) hb.1)
 obtain ⟨r,hr⟩:∃ r,(n+b).tmod (2 * b)=r:=⟨_,rfl⟩
 rw [hr] at h7 h8 HG
 have h3:wrap64 (r+2 * b)=r+2 * b:=IntWalk.wrap64_in _ (by omega)
 have h4:wrap64 (r+2 * b - b)=r+2 * b - b:=IntWalk.wrap64_in _ (by omega)
 have h9:wrap64 (r - b)=r - b:=IntWalk.wrap64_in _ (by omega)
 by_cases hr0:r<0
 · have q1:decide (r<0)=true:=decide_eq_true hr0
   have HE:Hid (rg n b=r+2 * b - b):=qq (by rw [HG.out,if_pos hr0])
   clear hr0 HG hn hb h7 h8
   rw [HE.out]
   go_enter Tryz.func20,Tryz.ntmps20
   go_wp2_with fail
   go_ret
   exact ⟨by show Ending.returned (.int .i64 (wrap64 (r+2 * b - b)))=_;rw [h4],Below.refl _ _⟩
 · have q1:decide (r<0)=false:=decide_eq_false hr0
   have HE:Hid (rg n b=r - b):=qq (by rw [HG.out,if_neg hr0])
   clear hr0 HG hn hb h7 h8
   rw [HE.out]
   go_enter Tryz.func20,Tryz.ntmps20
   go_wp2_with fail
   go_ret
   exact ⟨by show Ending.returned (.int .i64 (wrap64 (r - b)))=_;rw [h9],Below.refl _ _⟩
theorem rgcd_any:∀ (q p:Nat) (w:World),p≤9007199254740992→q≤9007199254740992→Calls Tryz.prog 22 #[.int .i64 (p:Int),.int .i64 (q:Int)] w (Gives (.int .i64 (Nat.gcd p q:Int)) w):=by
 intro q
 induction q using Nat.strongRecOn with
 | ind q ih =>
   intro p w hp hq
   by_cases h0:q=0
   · subst h0
     rw [Nat.gcd_zero_right]
     go_enter Tryz.func22,Tryz.ntmps22
     go_wp2_with fail
     go_ret
     exact ⟨rfl,Below.refl _ _⟩
   · have h1:((q:Int) == 0)=false:=beq_eq_false_iff_ne.2 (by omega)
     have h2:¬ (q:Int)=0:=by omega
     have h3:(p:Int).tmod (q:Int)=((p % q:Nat):Int):=by rw [Int.ofNat_tmod]
     have hlt:p % q<q:=Nat.mod_lt _ (by omega)
     have HI:=qq (fun w1=>ih (p % q) hlt q w1 hq (by omega))
     have HE:Hid (Nat.gcd q (p % q)=Nat.gcd p q):=qq (by rw [Nat.gcd_comm q,← Nat.gcd_rec,Nat.gcd_comm])
     rw [HE.out] at HI
     generalize p % q=m at *
     clear ih hlt
     go_enter Tryz.func22,Tryz.ntmps22
     go_wp2_with fail
     refine (HI.out _).mono ?_
     rintro e w1 ⟨rfl,hb⟩
     have HB:=qq hb;clear hb
     go_wp2_with fail
     go_ret
     exact ⟨rfl,HB.out⟩
theorem rf_sn (c:ByteArray) (n x y n' x' y':Int) (s s':ByteArray) (w:World) (HF:Hid (∀ w,Calls Tryz.prog 17 #[.string c] w (Gives (.bool true) w))) (HA:Hid (∀ w,Calls Tryz.prog 18 #[.agg #[.int .i64 0,.int .i64 n,.string s,.int .i64 x,.int .i64 y]] w (Gives (.bool true) w))) (HQ:Hid (∀ w,Calls Tryz.prog 18 #[.agg #[.int .i64 0,.int .i64 n',.string s',.int .i64 x',.int .i64 y']] w (Gives (.bool true) w))) (qsum:(c.toList == [115,117,109])=true) (qmax:(c.toList == [109,97,120])=false) (qmin:(c.toList == [109,105,110])=false) (o r:Int) (HO:Hid (∀ w,Calls Tryz.prog 19 #[.agg #[.int .i64 0,.int .i64 n,.string s,.int .i64 x,.int .i64 y],.agg #[.int .i64 0,.int .i64 n',.string s',.int .i64 x',.int .i64 y']] w (Gives (.int .i64 o) w))) (hsn:wrap64 (n+n')=n+n') (HW:Hid (∀ w,Calls Tryz.prog 20 #[.int .i64 (n+n'),.int .i64 9007199254740992] w (Gives (.int .i64 r) w))) :
 Calls Tryz.prog 7 #[.string c,.agg #[.int .i64 0,.int .i64 n,.string s,.int .i64 x,.int .i64 y],.agg #[.int .i64 0,.int .i64 n',.string s',.int .i64 x',.int .i64 y']] w (Gives (.tuple #[.agg #[.int .i64 0,.int .i64 r,.string ⟨#[]⟩,.int .i64 0,.int .i64 0],.int .i64 0]) w):=by
 obtain ⟨D1,D2,D3,hb0⟩:=two_boxes w 28 [.int .i64 0,.int .i64 n,.string s,.int .i64 x,.int .i64 y] [.int .i64 0,.int .i64 n',.string s',.int .i64 x',.int .i64 y'] [.int .i64 0,.int .i64 0,.string ⟨#[]⟩,.int .i64 0,.int .i64 0]
 have H1:=qq D1;have H2:=qq D2;have H3:=qq D3;have HB:=qq hb0;clear D1 D2 D3 hb0
 go_enter Tryz.func7,Tryz.ntmps7
 go_wp2_with fail
 refine (HF.out _).mono ?_
 rintro e w42 ⟨rfl,hb⟩
 replace H1:=qq (H1.out.next hb);replace H2:=qq (H2.out.next hb);replace H3:=qq (H3.out.next hb);replace HB:=qq (Below.next HB.out hb);clear hb
 obtain ⟨c0,c1,c2,c3,c4⟩:=five H1.out
 obtain ⟨d0,d1,d2,d3,d4⟩:=five H2.out
 go_wp2_with fail
 clear c0 c1 c2 c3 c4 d0 d1 d2 d3 d4
 refine (HA.out _).mono ?_
 rintro e w43 ⟨rfl,hb⟩
 replace H1:=qq (H1.out.next hb);replace H2:=qq (H2.out.next hb);replace H3:=qq (H3.out.next hb);replace HB:=qq (Below.next HB.out hb);clear hb
 obtain ⟨c0,c1,c2,c3,c4⟩:=five H1.out
 obtain ⟨d0,d1,d2,d3,d4⟩:=five H2.out
 go_wp2_with fail
 clear c0 c1 c2 c3 c4 d0 d1 d2 d3 d4
 refine (HQ.out _).mono ?_
 rintro e w44 ⟨rfl,hb⟩
 replace H1:=qq (H1.out.next hb);replace H2:=qq (H2.out.next hb);replace H3:=qq (H3.out.next hb);replace HB:=qq (Below.next HB.out hb);clear hb
 obtain ⟨c0,c1,c2,c3,c4⟩:=five H1.out
 obtain ⟨d0,d1,d2,d3,d4⟩:=five H2.out
 go_wp2_with fail
 clear c0 c1 c2 c3 c4 d0 d1 d2 d3 d4
 refine (HO.out _).mono ?_
 rintro e w40 ⟨rfl,hb⟩
 replace H1:=qq (H1.out.next hb);replace H2:=qq (H2.out.next hb);replace H3:=qq (H3.out.next hb);replace HB:=qq (Below.next HB.out hb);clear hb
 obtain ⟨c0,c1,c2,c3,c4⟩:=five H1.out
 obtain ⟨d0,d1,d2,d3,d4⟩:=five H2.out
 go_wp2_with fail
 clear c0 c1 c2 c3 c4 d0 d1 d2 d3 d4
 refine (HW.out _).mono ?_
 rintro e w41 ⟨rfl,hb⟩
 replace H1:=qq (H1.out.next hb);replace H2:=qq (H2.out.next hb);replace H3:=qq (H3.out.next hb);replace HB:=qq (Below.next HB.out hb);clear hb
 obtain ⟨f0,f1,f2,f3,f4⟩:=thaw H3.out
 obtain ⟨e0,e1,e2,e3,e4⟩:=five H3.out
 go_wp2_with fail
 clear f0 f1 f2 f3 f4 e0 e1 e2 e3 e4
 refine fin5 (P:=bodyPost _ _ _ _ _) H3.out HB.out (by omega) _ _ _ _ _ fun w9 hx hy _=>?_
 obtain ⟨c0,c1,c2,c3,c4⟩:=five hx
 exact bodyPost_ret (v:=.tuple #[.agg #[.int .i64 0,.int .i64 r,.string ⟨#[]⟩,.int .i64 0,.int .i64 0],.int .i64 0]) (by simp [results,Tryz.results7,go_sem,c0,c1,c2,c3,c4]) rfl ⟨rfl,hy⟩
theorem rf_sp (c:ByteArray) (n x y n' x' y':Int) (s s':ByteArray) (w:World) (HF:Hid (∀ w,Calls Tryz.prog 17 #[.string c] w (Gives (.bool true) w))) (HA:Hid (∀ w,Calls Tryz.prog 18 #[.agg #[.int .i64 2,.int .i64 n,.string s,.int .i64 x,.int .i64 y]] w (Gives (.bool true) w))) (HQ:Hid (∀ w,Calls Tryz.prog 18 #[.agg #[.int .i64 2,.int .i64 n',.string s',.int .i64 x',.int .i64 y']] w (Gives (.bool true) w))) (qsum:(c.toList == [115,117,109])=true) (qmax:(c.toList == [109,97,120])=false) (qmin:(c.toList == [109,105,110])=false) (o r q:Int) (HO:Hid (∀ w,Calls Tryz.prog 19 #[.agg #[.int .i64 2,.int .i64 n,.string s,.int .i64 x,.int .i64 y],.agg #[.int .i64 2,.int .i64 n',.string s',.int .i64 x',.int .i64 y']] w (Gives (.int .i64 o) w))) (hx:wrap64 (x+x')=x+x') (hy:wrap64 (y+y')=y+y') (HX:Hid (∀ w,Calls Tryz.prog 20 #[.int .i64 (x+x'),.int .i64 16777216] w (Gives (.int .i64 r) w))) (HY:Hid (∀ w,Calls Tryz.prog 20 #[.int .i64 (y+y'),.int .i64 16777216] w (Gives (.int .i64 q) w))) :
 Calls Tryz.prog 7 #[.string c,.agg #[.int .i64 2,.int .i64 n,.string s,.int .i64 x,.int .i64 y],.agg #[.int .i64 2,.int .i64 n',.string s',.int .i64 x',.int .i64 y']] w (Gives (.tuple #[.agg #[.int .i64 2,.int .i64 0,.string ⟨#[]⟩,.int .i64 r,.int .i64 q],.int .i64 0]) w):=by
 obtain ⟨D1,D2,D3,hb0⟩:=two_boxes w 28 [.int .i64 2,.int .i64 n,.string s,.int .i64 x,.int .i64 y] [.int .i64 2,.int .i64 n',.string s',.int .i64 x',.int .i64 y'] [.int .i64 0,.int .i64 0,.string ⟨#[]⟩,.int .i64 0,.int .i64 0]
 have H1:=qq D1;have H2:=qq D2;have H3:=qq D3;have HB:=qq hb0;clear D1 D2 D3 hb0
 go_enter Tryz.func7,Tryz.ntmps7
 go_wp2_with fail
 refine (HF.out _).mono ?_
 rintro e w46 ⟨rfl,hb⟩
 replace H1:=qq (H1.out.next hb);replace H2:=qq (H2.out.next hb);replace H3:=qq (H3.out.next hb);replace HB:=qq (Below.next HB.out hb);clear hb
 obtain ⟨c0,c1,c2,c3,c4⟩:=five H1.out
 obtain ⟨d0,d1,d2,d3,d4⟩:=five H2.out
 go_wp2_with fail
 clear c0 c1 c2 c3 c4 d0 d1 d2 d3 d4
 refine (HA.out _).mono ?_
 rintro e w47 ⟨rfl,hb⟩
 replace H1:=qq (H1.out.next hb);replace H2:=qq (H2.out.next hb);replace H3:=qq (H3.out.next hb);replace HB:=qq (Below.next HB.out hb);clear hb
 obtain ⟨c0,c1,c2,c3,c4⟩:=five H1.out
 obtain ⟨d0,d1,d2,d3,d4⟩:=five H2.out
 go_wp2_with fail
 clear c0 c1 c2 c3 c4 d0 d1 d2 d3 d4
 refine (HQ.out _).mono ?_
 rintro e w48 ⟨rfl,hb⟩
 replace H1:=qq (H1.out.next hb);replace H2:=qq (H2.out.next hb);replace H3:=qq (H3.out.next hb);replace HB:=qq (Below.next HB.out hb);clear hb
 obtain ⟨c0,c1,c2,c3,c4⟩:=five H1.out
 obtain ⟨d0,d1,d2,d3,d4⟩:=five H2.out
 go_wp2_with fail
 clear c0 c1 c2 c3 c4 d0 d1 d2 d3 d4
 refine (HO.out _).mono ?_
 rintro e w45 ⟨rfl,hb⟩
 replace H1:=qq (H1.out.next hb);replace H2:=qq (H2.out.next hb);replace H3:=qq (H3.out.next hb);replace HB:=qq (Below.next HB.out hb);clear hb
 obtain ⟨c0,c1,c2,c3,c4⟩:=five H1.out
 obtain ⟨d0,d1,d2,d3,d4⟩:=five H2.out
 go_upto_region 15 with (fail)
 clear c0 c1 c2 c3 c4 d0 d1 d2 d3 d4
 generalize w45=v at *
 have k3:=fun r:Over v=>(H1.out.over r).c 3 _ rfl
 have l3:=fun r:Over v=>(H2.out.over r).c 3 _ rfl
 have k4:=fun r:Over v=>(H1.out.over r).c 4 _ rfl
 have l4:=fun r:Over v=>(H2.out.over r).c 4 _ rfl
 refine wp_over_tail 18 (by kernel_rfl) (by kernel_rfl) ?_
 simp only [List.take_succ_cons,List.take_zero,List.drop_succ_cons,List.drop_zero]
 repeat (go_big_quiet_step (first | fail | with_reducible exact over_gives _ (HX.out _) | with_reducible exact over_gives _ (HY.out _)))
 refine wpQuiet_nil ?_
 rintro wq ⟨⟨w8,hb⟩,rfl⟩
 replace H1:=qq (H1.out.next hb);replace H2:=qq (H2.out.next hb);replace H3:=qq (H3.out.next hb);replace HB:=qq (Below.next HB.out hb);clear hb k3 k4 l3 l4
 obtain ⟨f0,f1,f2,f3,f4⟩:=thaw H3.out
 obtain ⟨e0,e1,e2,e3,e4⟩:=five H3.out
 go_wp2_with fail
 clear f0 f1 f2 f3 f4 e0 e1 e2 e3 e4
 refine fin5 (P:=bodyPost _ _ _ _ _) H3.out HB.out (by omega) _ _ _ _ _ fun w9 hx hy _=>?_
 obtain ⟨c0,c1,c2,c3,c4⟩:=five hx
 exact bodyPost_ret (v:=.tuple #[.agg #[.int .i64 2,.int .i64 0,.string ⟨#[]⟩,.int .i64 r,.int .i64 q],.int .i64 0]) (by simp [results,Tryz.results7,go_sem,c0,c1,c2,c3,c4]) rfl ⟨rfl,hy⟩
theorem rf_gp (c:ByteArray) (n x y n' x' y':Int) (s s':ByteArray) (w:World) (HF:Hid (∀ w,Calls Tryz.prog 17 #[.string c] w (Gives (.bool true) w))) (HA:Hid (∀ w,Calls Tryz.prog 18 #[.agg #[.int .i64 2,.int .i64 n,.string s,.int .i64 x,.int .i64 y]] w (Gives (.bool true) w))) (HQ:Hid (∀ w,Calls Tryz.prog 18 #[.agg #[.int .i64 2,.int .i64 n',.string s',.int .i64 x',.int .i64 y']] w (Gives (.bool true) w))) (qsum:(c.toList == [115,117,109])=false) (qmax:(c.toList == [109,97,120])=false) (qmin:(c.toList == [109,105,110])=false) (o r q:Int) (HO:Hid (∀ w,Calls Tryz.prog 19 #[.agg #[.int .i64 2,.int .i64 n,.string s,.int .i64 x,.int .i64 y],.agg #[.int .i64 2,.int .i64 n',.string s',.int .i64 x',.int .i64 y']] w (Gives (.int .i64 o) w))) (HC:Hid (∀ w,Calls Tryz.prog 21 #[.agg #[.int .i64 x,.int .i64 y],.agg #[.int .i64 x',.int .i64 y']] w (Gives (.agg #[.int .i64 r,.int .i64 q]) w))) :
 Calls Tryz.prog 7 #[.string c,.agg #[.int .i64 2,.int .i64 n,.string s,.int .i64 x,.int .i64 y],.agg #[.int .i64 2,.int .i64 n',.string s',.int .i64 x',.int .i64 y']] w (Gives (.tuple #[.agg #[.int .i64 2,.int .i64 0,.string ⟨#[]⟩,.int .i64 r,.int .i64 q],.int .i64 0]) w):=by
 obtain ⟨D1,D2,D3,hb0⟩:=two_boxes w 28 [.int .i64 2,.int .i64 n,.string s,.int .i64 x,.int .i64 y] [.int .i64 2,.int .i64 n',.string s',.int .i64 x',.int .i64 y'] [.int .i64 0,.int .i64 0,.string ⟨#[]⟩,.int .i64 0,.int .i64 0]
 have H1:=qq D1;have H2:=qq D2;have H3:=qq D3;have HB:=qq hb0;clear D1 D2 D3 hb0
 go_enter Tryz.func7,Tryz.ntmps7
 go_wp2_with fail
 refine (HF.out _).mono ?_
 rintro e w51 ⟨rfl,hb⟩
 replace H1:=qq (H1.out.next hb);replace H2:=qq (H2.out.next hb);replace H3:=qq (H3.out.next hb);replace HB:=qq (Below.next HB.out hb);clear hb
 obtain ⟨c0,c1,c2,c3,c4⟩:=five H1.out
 obtain ⟨d0,d1,d2,d3,d4⟩:=five H2.out
 go_wp2_with fail
 clear c0 c1 c2 c3 c4 d0 d1 d2 d3 d4
 refine (HA.out _).mono ?_
 rintro e w52 ⟨rfl,hb⟩
 replace H1:=qq (H1.out.next hb);replace H2:=qq (H2.out.next hb);replace H3:=qq (H3.out.next hb);replace HB:=qq (Below.next HB.out hb);clear hb
 obtain ⟨c0,c1,c2,c3,c4⟩:=five H1.out
 obtain ⟨d0,d1,d2,d3,d4⟩:=five H2.out
 go_wp2_with fail
 clear c0 c1 c2 c3 c4 d0 d1 d2 d3 d4
 refine (HQ.out _).mono ?_
 rintro e w53 ⟨rfl,hb⟩
 replace H1:=qq (H1.out.next hb);replace H2:=qq (H2.out.next hb);replace H3:=qq (H3.out.next hb);replace HB:=qq (Below.next HB.out hb);clear hb
 obtain ⟨c0,c1,c2,c3,c4⟩:=five H1.out
 obtain ⟨d0,d1,d2,d3,d4⟩:=five H2.out
 go_wp2_with fail
 clear c0 c1 c2 c3 c4 d0 d1 d2 d3 d4
 refine (HO.out _).mono ?_
 rintro e w49 ⟨rfl,hb⟩
 replace H1:=qq (H1.out.next hb);replace H2:=qq (H2.out.next hb);replace H3:=qq (H3.out.next hb);replace HB:=qq (Below.next HB.out hb);clear hb
 obtain ⟨c0,c1,c2,c3,c4⟩:=five H1.out
 obtain ⟨d0,d1,d2,d3,d4⟩:=five H2.out
 go_wp2_with fail
 clear c0 c1 c2 c3 c4 d0 d1 d2 d3 d4
 refine (HC.out _).mono ?_
 rintro e w50 ⟨rfl,hb⟩
 replace H1:=qq (H1.out.next hb);replace H2:=qq (H2.out.next hb);replace H3:=qq (H3.out.next hb);replace HB:=qq (Below.next HB.out hb);clear hb
 obtain ⟨f0,f1,f2,f3,f4⟩:=thaw H3.out
 obtain ⟨e0,e1,e2,e3,e4⟩:=five H3.out
 go_wp2_with fail
 clear f0 f1 f2 f3 f4 e0 e1 e2 e3 e4
 refine fin5 (P:=bodyPost _ _ _ _ _) H3.out HB.out (by omega) _ _ _ _ _ fun w9 hx hy _=>?_
 obtain ⟨c0,c1,c2,c3,c4⟩:=five hx
 exact bodyPost_ret (v:=.tuple #[.agg #[.int .i64 2,.int .i64 0,.string ⟨#[]⟩,.int .i64 r,.int .i64 q],.int .i64 0]) (by simp [results,Tryz.results7,go_sem,c0,c1,c2,c3,c4]) rfl ⟨rfl,hy⟩
theorem rf_gn (c:ByteArray) (n x y n' x' y':Int) (s s':ByteArray) (w:World) (HF:Hid (∀ w,Calls Tryz.prog 17 #[.string c] w (Gives (.bool true) w))) (HA:Hid (∀ w,Calls Tryz.prog 18 #[.agg #[.int .i64 0,.int .i64 n,.string s,.int .i64 x,.int .i64 y]] w (Gives (.bool true) w))) (HQ:Hid (∀ w,Calls Tryz.prog 18 #[.agg #[.int .i64 0,.int .i64 n',.string s',.int .i64 x',.int .i64 y']] w (Gives (.bool true) w))) (qsum:(c.toList == [115,117,109])=false) (qmax:(c.toList == [109,97,120])=false) (qmin:(c.toList == [109,105,110])=false) (o r:Int) (HO:Hid (∀ w,Calls Tryz.prog 19 #[.agg #[.int .i64 0,.int .i64 n,.string s,.int .i64 x,.int .i64 y],.agg #[.int .i64 0,.int .i64 n',.string s',.int .i64 x',.int .i64 y']] w (Gives (.int .i64 o) w))) (hm:max n (wrap64 (-n))=(n.natAbs:Int)) (hm':max n' (wrap64 (-n'))=(n'.natAbs:Int)) (HG:Hid (∀ w,Calls Tryz.prog 22 #[.int .i64 (n.natAbs:Int),.int .i64 (n'.natAbs:Int)] w (Gives (.int .i64 r) w))) :
 Calls Tryz.prog 7 #[.string c,.agg #[.int .i64 0,.int .i64 n,.string s,.int .i64 x,.int .i64 y],.agg #[.int .i64 0,.int .i64 n',.string s',.int .i64 x',.int .i64 y']] w (Gives (.tuple #[.agg #[.int .i64 0,.int .i64 r,.string ⟨#[]⟩,.int .i64 0,.int .i64 0],.int .i64 0]) w):=by
 obtain ⟨D1,D2,D3,hb0⟩:=two_boxes w 28 [.int .i64 0,.int .i64 n,.string s,.int .i64 x,.int .i64 y] [.int .i64 0,.int .i64 n',.string s',.int .i64 x',.int .i64 y'] [.int .i64 0,.int .i64 0,.string ⟨#[]⟩,.int .i64 0,.int .i64 0]
 have H1:=qq D1;have H2:=qq D2;have H3:=qq D3;have HB:=qq hb0;clear D1 D2 D3 hb0
 go_enter Tryz.func7,Tryz.ntmps7
 go_wp2_with fail
 refine (HF.out _).mono ?_
 rintro e w56 ⟨rfl,hb⟩
 replace H1:=qq (H1.out.next hb);replace H2:=qq (H2.out.next hb);replace H3:=qq (H3.out.next hb);replace HB:=qq (Below.next HB.out hb);clear hb
 obtain ⟨c0,c1,c2,c3,c4⟩:=five H1.out
 obtain ⟨d0,d1,d2,d3,d4⟩:=five H2.out
 go_wp2_with fail
 clear c0 c1 c2 c3 c4 d0 d1 d2 d3 d4
 refine (HA.out _).mono ?_
 rintro e w57 ⟨rfl,hb⟩
 replace H1:=qq (H1.out.next hb);replace H2:=qq (H2.out.next hb);replace H3:=qq (H3.out.next hb);replace HB:=qq (Below.next HB.out hb);clear hb
 obtain ⟨c0,c1,c2,c3,c4⟩:=five H1.out
 obtain ⟨d0,d1,d2,d3,d4⟩:=five H2.out
 go_wp2_with fail
 clear c0 c1 c2 c3 c4 d0 d1 d2 d3 d4
 refine (HQ.out _).mono ?_
 rintro e w58 ⟨rfl,hb⟩
 replace H1:=qq (H1.out.next hb);replace H2:=qq (H2.out.next hb);replace H3:=qq (H3.out.next hb);replace HB:=qq (Below.next HB.out hb);clear hb
 obtain ⟨c0,c1,c2,c3,c4⟩:=five H1.out
 obtain ⟨d0,d1,d2,d3,d4⟩:=five H2.out
 go_wp2_with fail
 clear c0 c1 c2 c3 c4 d0 d1 d2 d3 d4
 refine (HO.out _).mono ?_
 rintro e w54 ⟨rfl,hb⟩
 replace H1:=qq (H1.out.next hb);replace H2:=qq (H2.out.next hb);replace H3:=qq (H3.out.next hb);replace HB:=qq (Below.next HB.out hb);clear hb
 obtain ⟨c0,c1,c2,c3,c4⟩:=five H1.out
 obtain ⟨d0,d1,d2,d3,d4⟩:=five H2.out
 go_wp2_with fail
 clear c0 c1 c2 c3 c4 d0 d1 d2 d3 d4
 refine (HG.out _).mono ?_
 rintro e w55 ⟨rfl,hb⟩
 replace H1:=qq (H1.out.next hb);replace H2:=qq (H2.out.next hb);replace H3:=qq (H3.out.next hb);replace HB:=qq (Below.next HB.out hb);clear hb
 obtain ⟨f0,f1,f2,f3,f4⟩:=thaw H3.out
 obtain ⟨e0,e1,e2,e3,e4⟩:=five H3.out
 go_wp2_with fail
 clear f0 f1 f2 f3 f4 e0 e1 e2 e3 e4
 refine fin5 (P:=bodyPost _ _ _ _ _) H3.out HB.out (by omega) _ _ _ _ _ fun w9 hx hy _=>?_
 obtain ⟨c0,c1,c2,c3,c4⟩:=five hx
 exact bodyPost_ret (v:=.tuple #[.agg #[.int .i64 0,.int .i64 r,.string ⟨#[]⟩,.int .i64 0,.int .i64 0],.int .i64 0]) (by simp [results,Tryz.results7,go_sem,c0,c1,c2,c3,c4]) rfl ⟨rfl,hy⟩
end Go.Proofs.YtgakcpcpfkoaiaaGreatDoor.Jo
namespace Go.Proofs.YtgakcpcpfkoaiaaGreatDoor.Ev
open Ov Tp Ga Va Ex
end Go.Proofs.YtgakcpcpfkoaiaaGreatDoor.Ev
namespace Go.Proofs.YtgakcpcpfkoaiaaGreatDoor.Jo
open Ov Va Ex Ev
theorem pt_in {j:Jb} {key:List UInt8} (h0:jr j=0) (h1:¬ 64<key.length):pt j key=if j.b.isEmpty then (((Cr.sm key:Nat):Int) % j.p,0) else
 pm j.p (rnX j.b key vz vz j.f):=by
 unfold pt;rw [if_neg (by omega),if_neg h1]
end Go.Proofs.YtgakcpcpfkoaiaaGreatDoor.Jo
namespace Go.Proofs.YtgakcpcpfkoaiaaGreatDoor.Ev
open Go.ChangeShapes Go.WideShapes Go.ChangeAt Go.RowKit Ov Va Ga Ex
theorem md_zero {w0:World} {A:Option Addr} {c E b:Nat} {l:List No} {S:St} {ov:Value} {w:World} {k:Nat} (hd:Mac w0 A c E b l S 0 0 ov w) (hl:0<l.length):Calls Tryz.prog 61 #[.pointer (some ⟨b,0,none⟩),.int .i64 (k:Int)] w (Rn (.er 15) w0 A c E b l ov w):=by
 have e21:w.cell? ⟨b,21,none⟩=some (.int .i64 0):=hd.blk.c 21 _ rfl
 have e20:w.cell? ⟨b,20,none⟩=some (.int .i64 0):=hd.blk.c 20 _ rfl
 have hltb:=hd.lt
 have HF:=qq (fun w1 (h:Mac w0 A c E b l S 0 0 ov w1)=>mfail_at 15 (by decide) h)
 obtain ⟨w1,hw1,hd1,hm1,hbel,hsz,hbX⟩:=mbox1 hd hl 28 zz
 have HD1:=qq hd1;have HM1:=qq hm1;have HW1:=qq hw1;have HX1:=qq hbX
 clear hd hd1 hm1 hbel hsz hw1 hbX
 go_enter Tryz.func61,Tryz.ntmps61
 go_wp2_with fail
 rw [HW1.out]
 refine (HF.out _ HD1.out).mono ?_
 rintro e w2 ⟨rfl,hd3,hm3⟩
 have HD2:=qq hd3;have HM2:=qq (HM1.out.trans hm3);have HX2:=qq (HX1.out.mv hm3)
 clear hd3 hm3 HD1 HM1 HX1  e21 e20 HF
 obtain ⟨cX0,cX1,cX2,cX3,cX4,zX0,zX1,zX2,zX3,zX4,hltX⟩:=HX2.out.five
 go_wp2_with fail
 refine mend (P:=bodyPost _ _ _ _ _) HD2.out HM2.out HX2.out (by omega) _ _ _ _ _ ?_
 clear HD2 HM2 HX2 cX0 cX1 cX2 cX3 cX4 zX0 zX1 zX2 zX3 zX4
 intro w9 hd9 hm9 c0 c1 c2 c3 c4
 refine bodyPost_ret (v:=.agg zz) (by simp [results,Tryz.results61,go_sem,c0,c1,c2,c3,c4]) rfl ⟨vz,15,S,0,ov,rfl,Ans.er rfl rfl (by decide),fun _=>rfl,hd9,hm9⟩
theorem mdo_step {d:Nat} (H:MoC (ev d) d):MoC (ev (d+1)) (d+1):=by
 intro w0 A c E b l S n ov w k r hcx hd hg hx hd25
 have hkl:k<l.length:=by
  rcases Nat.lt_or_ge k l.length with h | h
  · exact h
  · rw [List.drop_of_length_le h,ex_nil] at hx;cases hx
 rw [drop_nd hkl,ex_cons] at hx
 have hrn:rn (nd l k)=true:=by
  rcases Bool.eq_false_or_eq_true (rn (nd l k)) with h | h
  · exact h
  · rw [if_neg (by rw [h];decide)] at hx;cases hx
 rw [if_pos hrn] at hx
 have hr:=rn_range hrn
 cases n with
 | zero=>rw [ev_zero hkl d S];exact md_zero hd (by omega)
 | succ n =>
   rw [ev_succ hkl d S n]
   obtain ⟨o,ho⟩:∃ o,(nd l k).o=o:=⟨_,rfl⟩
   rw [ho] at hx hr
   by_cases h0:o=0
   · subst h0;exact md_value w0 A c E b l S n ov w k r hcx hd hg hkl ho hrn hx (by omega)
   by_cases h1:o=1
   · subst h1;exact md_name w0 A c E b l S n ov w k r hcx hd hg hkl ho hrn hx (by omega)
   by_cases h11:o=11
   · subst h11;exact md_if H w0 A c E b l S n ov w k r hcx hd hg hkl ho hrn hx (by omega)
   by_cases h28:o=28
   · subst h28;exact md_each H w0 A c E b l S n ov w k r hcx hd hg hkl ho hrn hx (by omega)
   by_cases h29:o=29
   · subst h29;exact md_let H w0 A c E b l S n ov w k r hcx hd hg hkl ho hrn hx (by omega)
   exact md_kind H (by omega) h11 w0 A c E b l S n ov w k r hcx hd hg hkl ho hrn hx (by omega)
theorem mdo_any:∀ d:Nat,MoC (ev d) d
 | 0=>fun _ _ _ _ _ _ _ _ _ _ _ _ _ _ _ hx _=>by cases hx
 | d+1=>mdo_step (mdo_any d)
def RQ (X:Rs Va) (w:World) (e:Ending) (w':World):Prop:=Below w.heap.size w w'∧match X with
 | .er x=>x ≠ 0∧e=.returned (.tuple #[.agg zz,.slice none 0 0,.int .i64 0,.int .i64 x])
 | .ok v S n=>∃ A c,w'.ownsRow w.heap.size 152 6 (.slice A S.out.length c) S.out.length (pcells S.out) ∧
    e=.returned (.tuple #[.agg v,.slice A S.out.length c,.int .i64 (n:Int),.int .i64 0])
theorem rblk3 (w:World) (t:TypeId) (xs ys zs:List Value):∃ w1,((w.alloc (.cells xs.toArray t)).alloc (.cells ys.toArray t)).alloc (.cells zs.toArray t)=w1∧Below w.heap.size w w1∧w1.heap.size=w.heap.size+3∧Blk w1 w.heap.size xs∧Blk w1 (w.heap.size+1) ys∧Blk w1 (w.heap.size+2) zs:=by
 refine ⟨_,rfl,Below.next (box2 w _ _) (box1 _ _),by simp,((Blk.made w t xs rfl).old _).old _,?_,?_⟩
 · have h:=(Blk.made (w.alloc (.cells xs.toArray t)) t ys rfl).old (.cells zs.toArray t)
   rw [World.size_alloc] at h;exact h
 · have h:=Blk.made ((w.alloc (.cells xs.toArray t)).alloc (.cells ys.toArray t)) t zs rfl
   simp only [World.size_alloc,Nat.add_assoc,Nat.reduceAdd] at h;exact h
theorem mrun_no (l:List No) (A:Option Addr) (c:Nat) (k:List UInt8) (v a:Va) (n:Int) (w:World) (hn:Nds w A l) (hl:l.length≤4294967296) (hno:¬ (Rt l=true∧rEnv k v a=true∧0≤n∧n≤100000)) :
 Calls Tryz.prog 31 #[.slice A l.length c,.string (tx k),.agg v,.agg a,.int .i64 n] w (RQ (rnX l k v a n) w):=by
 obtain ⟨w1,hw1,hb1,hsz,hbV,hbA,hbX⟩:=rblk3 w 28 v a zz
 have HB1:=qq hb1;have HW1:=qq hw1;have HSZ:=qq hsz;have HV1:=qq hbV;have HA1:=qq hbA;have HX1:=qq hbX
 have HRI:=qq (fun w1 (h:Below w.heap.size w w1)=>xright_any l A c w1 (hn.next h) hl)
 have HRV:=qq (rright_va v);have HRA:=qq (rright_va a)
 have hks:=tx_size k
 have HX:Hid (rnX l k v a n=.er 1):=rnX_bad hno
 have hcs:Rt l=false∨(Rt l=true∧4096<k.length)∨(Rt l=true∧¬ 4096<k.length∧rt v=false)∨(Rt l=true∧¬ 4096<k.length∧rt v=true∧rt a=false)∨(Rt l=true∧¬ 4096<k.length∧rt v=true∧rt a=true∧n<0)∨(Rt l=true∧¬ 4096<k.length∧rt v=true∧rt a=true∧¬ n<0∧100000<n):=by
  unfold rEnv at hno
  by_cases h1:Rt l=true
  · by_cases h2:4096<k.length
    · exact .inr (.inl ⟨h1,h2⟩)
    · by_cases h3:rt v=true
      · by_cases h4:rt a=true
        · by_cases h5:n<0
          · exact .inr (.inr (.inr (.inr (.inl ⟨h1,h2,h3,h4,h5⟩))))
          · refine .inr (.inr (.inr (.inr (.inr ⟨h1,h2,h3,h4,h5,?_⟩))))
            by_cases h6:100000<n
            · exact h6
            · exact absurd ⟨h1,by rw [h3,h4];simp;omega,by omega,by omega⟩ hno
        · exact .inr (.inr (.inr (.inl ⟨h1,h2,h3,by simpa using h4⟩)))
      · exact .inr (.inr (.inl ⟨h1,h2,by simpa using h3⟩))
  · exact .inl (by simpa using h1)
 clear hno hn hl hb1 hw1 hsz hbV hbA hbX
 rcases hcs with h1 | ⟨h1,h2⟩ | ⟨h1,h2,h3⟩ | ⟨h1,h2,h3,h4⟩ | ⟨h1,h2,h3,h4,h5⟩ | ⟨h1,h2,h3,h4,h5,h6⟩
 · skip
   go_enter Tryz.func31,Tryz.ntmps31
   go_wp2_with fail
   rw [HW1.out]
   refine (HRI.out _ HB1.out).mono ?_
   rintro e w2 ⟨rfl,hb⟩
   have HB2:=qq (Below.next HB1.out hb);have HV2:=qq (HV1.out.next hb);have HA2:=qq (HA1.out.next hb);have HX2:=qq (HX1.out.next hb)
   clear hb HB1 HV1 HA1 HX1 
   rw [h1]
   clear h1
   obtain ⟨c0,c1,c2,c3,c4,f0,f1,f2,f3,f4,hltX⟩:=blk_five HX2.out
   go_wp2_with fail
   refine bend (P:=bodyPost _ _ _ _ _) HX2.out HB2.out (show w.heap.size≤w.heap.size+2 by omega) _ _ _ _ _ ?_
   clear c0 f0 c1 f1 c2 f2 c3 f3 c4 f4 HB2 HV2 HA2 HX2 hltX 
   intro w9 hx9 hb9 c0 c1 c2 c3 c4
   refine bodyPost_ret (v:=.tuple #[.agg zz,.slice none 0 0,.int .i64 0,.int .i64 1]) (by simp [results,Tryz.results31,go_sem,c0,c1,c2,c3,c4]) rfl ⟨hb9,by rw [HX.out];exact ⟨by decide,rfl⟩⟩
 · skip
   go_enter Tryz.func31,Tryz.ntmps31
   go_wp2_with fail
   rw [HW1.out]
   refine (HRI.out _ HB1.out).mono ?_
   rintro e w2 ⟨rfl,hb⟩
   have HB2:=qq (Below.next HB1.out hb);have HV2:=qq (HV1.out.next hb);have HA2:=qq (HA1.out.next hb);have HX2:=qq (HX1.out.next hb)
   clear hb HB1 HV1 HA1 HX1 
   rw [h1]
   clear h1
   obtain ⟨c0,c1,c2,c3,c4,f0,f1,f2,f3,f4,hltX⟩:=blk_five HX2.out
   go_wp2_with fail
   refine bend (P:=bodyPost _ _ _ _ _) HX2.out HB2.out (show w.heap.size≤w.heap.size+2 by omega) _ _ _ _ _ ?_
   clear c0 f0 c1 f1 c2 f2 c3 f3 c4 f4 HB2 HV2 HA2 HX2 hltX 
   intro w9 hx9 hb9 c0 c1 c2 c3 c4
   refine bodyPost_ret (v:=.tuple #[.agg zz,.slice none 0 0,.int .i64 0,.int .i64 1]) (by simp [results,Tryz.results31,go_sem,c0,c1,c2,c3,c4]) rfl ⟨hb9,by rw [HX.out];exact ⟨by decide,rfl⟩⟩
 · skip
   go_enter Tryz.func31,Tryz.ntmps31
   go_wp2_with fail
   rw [HW1.out]
   refine (HRI.out _ HB1.out).mono ?_
   rintro e w2 ⟨rfl,hb⟩
   have HB2:=qq (Below.next HB1.out hb);have HV2:=qq (HV1.out.next hb);have HA2:=qq (HA1.out.next hb);have HX2:=qq (HX1.out.next hb)
   clear hb HB1 HV1 HA1 HX1 
   rw [h1]
   clear h1
   obtain ⟨qV0,qV1,qV2,qV3,qV4⟩:=ck5 HV2.out
   go_wp2_with fail
   refine (HRV.out _).mono ?_
   rintro e w3 ⟨rfl,hb⟩
   have HB3:=qq (Below.next HB2.out hb);have HV3:=qq (HV2.out.next hb);have HA3:=qq (HA2.out.next hb);have HX3:=qq (HX2.out.next hb)
   clear hb HB2 HV2 HA2 HX2 qV0 qV1 qV2 qV3 qV4
   rw [h3]
   clear h3
   obtain ⟨c0,c1,c2,c3,c4,f0,f1,f2,f3,f4,hltX⟩:=blk_five HX3.out
   go_wp2_with fail
   refine bend (P:=bodyPost _ _ _ _ _) HX3.out HB3.out (show w.heap.size≤w.heap.size+2 by omega) _ _ _ _ _ ?_
   clear c0 f0 c1 f1 c2 f2 c3 f3 c4 f4 HB3 HV3 HA3 HX3 hltX 
   intro w9 hx9 hb9 c0 c1 c2 c3 c4
   refine bodyPost_ret (v:=.tuple #[.agg zz,.slice none 0 0,.int .i64 0,.int .i64 1]) (by simp [results,Tryz.results31,go_sem,c0,c1,c2,c3,c4]) rfl ⟨hb9,by rw [HX.out];exact ⟨by decide,rfl⟩⟩
 · skip
   go_enter Tryz.func31,Tryz.ntmps31
   go_wp2_with fail
   rw [HW1.out]
   refine (HRI.out _ HB1.out).mono ?_
   rintro e w2 ⟨rfl,hb⟩
   have HB2:=qq (Below.next HB1.out hb);have HV2:=qq (HV1.out.next hb);have HA2:=qq (HA1.out.next hb);have HX2:=qq (HX1.out.next hb)
   clear hb HB1 HV1 HA1 HX1 
   rw [h1]
   clear h1
   obtain ⟨qV0,qV1,qV2,qV3,qV4⟩:=ck5 HV2.out
   go_wp2_with fail
   refine (HRV.out _).mono ?_
   rintro e w3 ⟨rfl,hb⟩
   have HB3:=qq (Below.next HB2.out hb);have HV3:=qq (HV2.out.next hb);have HA3:=qq (HA2.out.next hb);have HX3:=qq (HX2.out.next hb)
   clear hb HB2 HV2 HA2 HX2 qV0 qV1 qV2 qV3 qV4
   rw [h3]
   clear h3
   obtain ⟨qA0,qA1,qA2,qA3,qA4⟩:=ck5 HA3.out
   go_wp2_with fail
   refine (HRA.out _).mono ?_
   rintro e w4 ⟨rfl,hb⟩
   have HB4:=qq (Below.next HB3.out hb);have HV4:=qq (HV3.out.next hb);have HA4:=qq (HA3.out.next hb);have HX4:=qq (HX3.out.next hb)
   clear hb HB3 HV3 HA3 HX3 qA0 qA1 qA2 qA3 qA4
   rw [h4]
   clear h4
   obtain ⟨c0,c1,c2,c3,c4,f0,f1,f2,f3,f4,hltX⟩:=blk_five HX4.out
   go_wp2_with fail
   refine bend (P:=bodyPost _ _ _ _ _) HX4.out HB4.out (show w.heap.size≤w.heap.size+2 by omega) _ _ _ _ _ ?_
   clear c0 f0 c1 f1 c2 f2 c3 f3 c4 f4 HB4 HV4 HA4 HX4 hltX 
   intro w9 hx9 hb9 c0 c1 c2 c3 c4
   refine bodyPost_ret (v:=.tuple #[.agg zz,.slice none 0 0,.int .i64 0,.int .i64 1]) (by simp [results,Tryz.results31,go_sem,c0,c1,c2,c3,c4]) rfl ⟨hb9,by rw [HX.out];exact ⟨by decide,rfl⟩⟩
 · skip
   go_enter Tryz.func31,Tryz.ntmps31
   go_wp2_with fail
   rw [HW1.out]
   refine (HRI.out _ HB1.out).mono ?_
   rintro e w2 ⟨rfl,hb⟩
   have HB2:=qq (Below.next HB1.out hb);have HV2:=qq (HV1.out.next hb);have HA2:=qq (HA1.out.next hb);have HX2:=qq (HX1.out.next hb)
   clear hb HB1 HV1 HA1 HX1 
   rw [h1]
   clear h1
   obtain ⟨qV0,qV1,qV2,qV3,qV4⟩:=ck5 HV2.out
   go_wp2_with fail
   refine (HRV.out _).mono ?_
   rintro e w3 ⟨rfl,hb⟩
   have HB3:=qq (Below.next HB2.out hb);have HV3:=qq (HV2.out.next hb);have HA3:=qq (HA2.out.next hb);have HX3:=qq (HX2.out.next hb)
   clear hb HB2 HV2 HA2 HX2 qV0 qV1 qV2 qV3 qV4
   rw [h3]
   clear h3
   obtain ⟨qA0,qA1,qA2,qA3,qA4⟩:=ck5 HA3.out
   go_wp2_with fail
   refine (HRA.out _).mono ?_
   rintro e w4 ⟨rfl,hb⟩
   have HB4:=qq (Below.next HB3.out hb);have HV4:=qq (HV3.out.next hb);have HA4:=qq (HA3.out.next hb);have HX4:=qq (HX3.out.next hb)
   clear hb HB3 HV3 HA3 HX3 qA0 qA1 qA2 qA3 qA4
   rw [h4]
   clear h4
   obtain ⟨c0,c1,c2,c3,c4,f0,f1,f2,f3,f4,hltX⟩:=blk_five HX4.out
   go_wp2_with fail
   refine bend (P:=bodyPost _ _ _ _ _) HX4.out HB4.out (show w.heap.size≤w.heap.size+2 by omega) _ _ _ _ _ ?_
   clear c0 f0 c1 f1 c2 f2 c3 f3 c4 f4 HB4 HV4 HA4 HX4 hltX 
   intro w9 hx9 hb9 c0 c1 c2 c3 c4
   refine bodyPost_ret (v:=.tuple #[.agg zz,.slice none 0 0,.int .i64 0,.int .i64 1]) (by simp [results,Tryz.results31,go_sem,c0,c1,c2,c3,c4]) rfl ⟨hb9,by rw [HX.out];exact ⟨by decide,rfl⟩⟩
 · skip
   go_enter Tryz.func31,Tryz.ntmps31
   go_wp2_with fail
   rw [HW1.out]
   refine (HRI.out _ HB1.out).mono ?_
   rintro e w2 ⟨rfl,hb⟩
   have HB2:=qq (Below.next HB1.out hb);have HV2:=qq (HV1.out.next hb);have HA2:=qq (HA1.out.next hb);have HX2:=qq (HX1.out.next hb)
   clear hb HB1 HV1 HA1 HX1 
   rw [h1]
   clear h1
   obtain ⟨qV0,qV1,qV2,qV3,qV4⟩:=ck5 HV2.out
   go_wp2_with fail
   refine (HRV.out _).mono ?_
   rintro e w3 ⟨rfl,hb⟩
   have HB3:=qq (Below.next HB2.out hb);have HV3:=qq (HV2.out.next hb);have HA3:=qq (HA2.out.next hb);have HX3:=qq (HX2.out.next hb)
   clear hb HB2 HV2 HA2 HX2 qV0 qV1 qV2 qV3 qV4
   rw [h3]
   clear h3
   obtain ⟨qA0,qA1,qA2,qA3,qA4⟩:=ck5 HA3.out
   go_wp2_with fail
   refine (HRA.out _).mono ?_
   rintro e w4 ⟨rfl,hb⟩
   have HB4:=qq (Below.next HB3.out hb);have HV4:=qq (HV3.out.next hb);have HA4:=qq (HA3.out.next hb);have HX4:=qq (HX3.out.next hb)
   clear hb HB3 HV3 HA3 HX3 qA0 qA1 qA2 qA3 qA4
   rw [h4]
   clear h4
   obtain ⟨c0,c1,c2,c3,c4,f0,f1,f2,f3,f4,hltX⟩:=blk_five HX4.out
   go_wp2_with fail
   refine bend (P:=bodyPost _ _ _ _ _) HX4.out HB4.out (show w.heap.size≤w.heap.size+2 by omega) _ _ _ _ _ ?_
   clear c0 f0 c1 f1 c2 f2 c3 f3 c4 f4 HB4 HV4 HA4 HX4 hltX 
   intro w9 hx9 hb9 c0 c1 c2 c3 c4
   refine bodyPost_ret (v:=.tuple #[.agg zz,.slice none 0 0,.int .i64 0,.int .i64 1]) (by simp [results,Tryz.results31,go_sem,c0,c1,c2,c3,c4]) rfl ⟨hb9,by rw [HX.out];exact ⟨by decide,rfl⟩⟩
end Go.Proofs.YtgakcpcpfkoaiaaGreatDoor.Ev
namespace Go.Proofs.YtgakcpcpfkoaiaaGreatDoor.Jo
open Go.ChangeShapes Go.WideShapes Go.ChangeAt Go.RowKit Ov Va Ex
structure JF (j:Jb):Prop where
 t:(Lit.int .i64 j.t).wf=true
 p:(Lit.int .i64 j.p).wf=true
 k:(Lit.int .i64 j.k).wf=true
 n:(Lit.int .i64 j.n).wf=true
 f:(Lit.int .i64 j.f).wf=true
 fd:j.fd.length≤maxLen
theorem nodes_cells {H:Type} {enc:TypeId × Value→H} {W:World} {fuel:Nat} {v:Value} {x:DataW H × List MemPlace} (hf:DataW.trod enc Tryz.prog W 0 (fun _=>true) true fuel 22 [v]=some x) :
 ∃ (p:Option Addr) (c:Nat) (l:List No),v=.slice p l.length c∧Nds W p l∧l.length≤maxLen:=by
 have key:∀ (p:Option Addr) (n c:Nat),v=.slice p n c→∃ (p:Option Addr) (c:Nat) (l:List No),v=.slice p l.length c∧Nds W p l∧l.length≤maxLen:=fun p n c e=>by
  subst e
  obtain ⟨l,h1,h2,h3⟩:=nodes_of (enc:=enc) (W:=W) (p:=p) (n:=n) (c:=c) (d:=x.1) (ps:=x.2) ⟨fuel,by simpa [Value.cells] using hf⟩
  exact ⟨p,c,l,by rw [h1],h2,by omega⟩
 rcases Go.Deep.open_slice Tryz.underlying22 hf with ⟨hcs,_⟩ | ⟨a,len,cap,m,f,D,Pl,hcs,_⟩
 · simp at hcs;exact key _ _ _ hcs
 · simp at hcs;exact key _ _ _ hcs
theorem job_of {H:Type} {enc:TypeId × Value→H} {W:World} {b0:Nat} {v:Value} {d:DataW H} {ps:List MemPlace} (hv:Value.okWide Tryz.prog W .any b0 24 v) (h:DataW.Trod enc Tryz.prog W 0 (fun _=>true) true 24 v d ps) :
 ∃ (j:Jb) (A1:Option Addr) (c1:Nat) (A2:Option Addr) (c2:Nat) (A3:Option Addr) (c3:Nat),v=.agg #[.string (tx j.nm),.int .i64 j.t,.int .i64 j.p,.int .i64 j.k,.int .i64 j.n,.int .i64 j.f,.slice A1 j.m.length c1,.slice A2 j.b.length c2,.slice A3 j.r.length c3,.string (tx j.fd),.bool j.cb]∧JA W j A1 A2 A3∧JF j:=by
 have hC:Tryz.prog.cellsOf 24=11:=by kernel_rfl
 obtain ⟨cs,rfl,hsz⟩:=okWide_struct Tryz.underlying24 hv
 obtain ⟨l⟩:=cs
 match l,hsz.trans hC with
 | [a0,a1,a2,a3,a4,a5,a6,a7,a8,a9,a10],_ =>
   obtain ⟨fuel,hf⟩:=h
   obtain ⟨xs,m,_,_,_,hlen,hg⟩:=DataW.trod_struct Tryz.underlying24 hf
   match xs,hlen with
   | [y0,y1,y2,y3,y4,y5,y6,y7,y8,y9,y10],_ =>
     have g0:=hg 0 _ rfl;have g1:=hg 1 _ rfl;have g2:=hg 2 _ rfl;have g3:=hg 3 _ rfl;have g4:=hg 4 _ rfl;have g5:=hg 5 _ rfl;have g6:=hg 6 _ rfl;have g7:=hg 7 _ rfl;have g8:=hg 8 _ rfl;have g9:=hg 9 _ rfl;have g10:=hg 10 _ rfl
     clear hg
     simp only [Value.cells] at g0 g1 g2 g3 g4 g5 g6 g7 g8 g9 g10
     change DataW.trod enc Tryz.prog W 0 (fun _=>true) true m 22 [a6]=some y6 at g6
     change DataW.trod enc Tryz.prog W 0 (fun _=>true) true m 22 [a7]=some y7 at g7
     change DataW.trod enc Tryz.prog W 0 (fun _=>true) true m 22 [a8]=some y8 at g8
     obtain ⟨nm,e0,_,w0⟩:=DataW.trod_string Tryz.underlying9 g0
     obtain ⟨t,e1,_,w1⟩:=DataW.trod_int Tryz.underlying3 g1
     obtain ⟨p,e2,_,w2⟩:=DataW.trod_int Tryz.underlying3 g2
     obtain ⟨k,e3,_,w3⟩:=DataW.trod_int Tryz.underlying3 g3
     obtain ⟨n,e4,_,w4⟩:=DataW.trod_int Tryz.underlying3 g4
     obtain ⟨f,e5,_,w5⟩:=DataW.trod_int Tryz.underlying3 g5
     obtain ⟨A1,d1,l1,rfl,n1,q1⟩:=nodes_cells g6
     obtain ⟨A2,d2,l2,rfl,n2,q2⟩:=nodes_cells g7
     obtain ⟨A3,d3,l3,rfl,n3,q3⟩:=nodes_cells g8
     obtain ⟨fd,e9,_,w9⟩:=DataW.trod_string Tryz.underlying9 g9
     obtain ⟨cb,e10,_⟩:=DataW.trod_bool Tryz.underlying4 g10
     have x0:[a0]=[Value.string nm]:=e0
     have x1:[a1]=[Value.int .i64 t]:=e1
     have x2:[a2]=[Value.int .i64 p]:=e2
     have x3:[a3]=[Value.int .i64 k]:=e3
     have x4:[a4]=[Value.int .i64 n]:=e4
     have x5:[a5]=[Value.int .i64 f]:=e5
     have x9:[a9]=[Value.string fd]:=e9
     have x10:[a10]=[Value.bool cb]:=e10
     obtain rfl:a0=.string nm:=by simpa using x0
     obtain rfl:a1=.int .i64 t:=by simpa using x1
     obtain rfl:a2=.int .i64 p:=by simpa using x2
     obtain rfl:a3=.int .i64 k:=by simpa using x3
     obtain rfl:a4=.int .i64 n:=by simpa using x4
     obtain rfl:a5=.int .i64 f:=by simpa using x5
     obtain rfl:a9=.string fd:=by simpa using x9
     obtain rfl:a10=.bool cb:=by simpa using x10
     exact ⟨⟨nm.data.toList,t,p,k,n,f,l1,l2,l3,fd.data.toList,cb⟩,A1,d1,A2,d2,A3,d3,by dsimp only;rw [tx_of,tx_of],⟨n1,n2,n3,q1,q2,q3,by simpa using w0⟩,⟨w1,w2,w3,w4,w5,by simpa using w9⟩⟩
end Go.Proofs.YtgakcpcpfkoaiaaGreatDoor.Jo

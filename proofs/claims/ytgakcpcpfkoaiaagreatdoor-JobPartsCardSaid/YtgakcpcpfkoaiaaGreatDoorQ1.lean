/-
  Small texts of this claim, together: OvBase, OvTab, OvLaid, TpMath, GaMath, VaMath, VaDig, VaNum, VaTxt, VaPz, ExMath, ExRun, ExTab, OvBlk, GaCalls, GaLess, VaSmall, OvByte, OvJump, VaByte.
-/
import Derived.Test.YtgakcpcpfkoaiaaGreatDoorRows
import Derived.WalkKit
import Derived.ProofKit
import Derived.OpenShut
import Derived.WalkMore
import Derived.ScopeJumps
import Derived.Deep.QuietTactic
import Derived.BigQuiet
import Derived.Lib.Hide
import Derived.Deep.LoopGhost
import Derived.Deep.OwnRows
import Derived.Laws.CopyOwn
import Derived.Carry
import Derived.Lib.SlBytesRow
import Derived.Shelf.Strconv.Itoa3
import Derived.Lib.LaidTab
import Derived.LaidMore
import Derived.Lib.ItoaNum
import Derived.Lib.ItoaLen
import Derived.Lib.Bytealg
import Derived.Laws.StructEq
import Derived.Laws.Cover1
import Derived.Shelf.Small.Strs
set_option maxHeartbeats 2000000
set_option maxRecDepth 100000
namespace Go.Proofs.YtgakcpcpfkoaiaaGreatDoor
theorem qq {p : Prop} (h : p) : Go.RowKit.Hid p := h
end Go.Proofs.YtgakcpcpfkoaiaaGreatDoor
namespace Go.Proofs.YtgakcpcpfkoaiaaGreatDoor.Ov
open Go.ChangeShapes Go.WideShapes Go.ChangeAt Go.RowKit
theorem below_drewN {B:Nat} {w w':World} (h:Below B w w') (m:Nat):Below B w (w'.drewN m):=⟨h.os,h.tape,h.output,h.size,h.block⟩
theorem Below.next {w w1 w2:World} (h:Below w.heap.size w w1) (k:Below w1.heap.size w1 w2):Below w.heap.size w w2:=h.trans (k.mono h.size)
def Over (w:World):Type:={ x:World // Below w.heap.size w x }
instance (w:World):Nonempty (Over w):=⟨⟨w,Below.refl _ _⟩⟩
theorem wp_over {P:Program} {id:Nat} {Q:Exit→Act→World→Prop} {a:Act} {w:World} {l:List Oper} (hm:P.follows .mixedOrders=true) (hB:Region.lexB .any l.toArray=true)
 (h:wpQuiet P l.toArray (fun w'=>∃ q:Over w,w'=q.val) (fun a'=>∀ w',(∃ q:Over w,w'=q.val)→Q .normal a' w') l a):(Code.region id l.toArray true).wp P Q a w :=
 wp_region_quiet (C:=fun w'=>∃ q:Over w,w'=q.val) hm hB ⟨⟨w.drew,below_drewN (Below.refl _ _) 1⟩,rfl⟩ (by simpa using h)
section
variable {w:World}
theorem over_cell (q:Over w) {p:Addr} {v:Value} (h:w.cell? p=some v):q.val.cell? p=some v:=by
 rw [q.property.cell (p:=p) (block_lt_of_cell h)];exact h
theorem over_make {P:Program} {f:FuncId} {args:Array Value} {v:Value} (q:Over w) (h:Calls P f args q.val fun e w'=>e=.returned v∧Below q.val.heap.size q.val w') :
 Calls P f args q.val fun e w'=>e=.returned v∧∃ q':Over w,w'=q'.val :=
 h.mono fun _ w' ⟨he,hb⟩=>⟨he,⟨w',Below.next q.property hb⟩,rfl⟩
end
def Gives (v:Value) (w:World) (e:Ending) (w':World):Prop:=e=.returned v∧Below w.heap.size w w'
theorem over_gives {P:Program} {f:FuncId} {args:Array Value} {v:Value} {w:World} (q:Over w) (h:Calls P f args q.val (Gives v q.val)) :
 Calls P f args q.val fun e w'=>e=.returned v∧∃ q':Over w,w'=q'.val:=over_make q h
theorem ret_int {k:IntKind} {a b:Int} (h:a=b):Ending.returned (.int k a)=.returned (.int k b):=by rw [h]
theorem ret_str {a b:ByteArray} (h:a=b):Ending.returned (.string a)=.returned (.string b):=by rw [h]
theorem take_snoc (s:ByteArray) (k:Nat) (h:k<s.size):s.data.toList.take (k+1)=s.data.toList.take k++[s[k]]:=by
 rw [List.take_succ_eq_append_getElem (by simpa using h)];rfl
theorem take_all (s:ByteArray):s.data.toList.take s.size=s.data.toList:=List.take_of_length_le (by simp)
def tx (l:List UInt8):ByteArray:=⟨l.toArray⟩
theorem tx_list (l:List UInt8):(tx l).data.toList=l:=by simp [tx]
theorem tx_size (l:List UInt8):(tx l).size=l.length:=by simp [tx,ByteArray.size]
theorem tx_of (s:ByteArray):tx s.data.toList=s:=by simp [tx]
theorem tx_ext {s:ByteArray} {l:List UInt8} (h:s.data.toList=l):s=tx l:=by rw [← h,tx_of]
theorem tx_append (a b:List UInt8):tx a++tx b=tx (a++b):=ByteArray.mk_append_mk a b
theorem ext_drop (s:ByteArray) (n:Nat):s.extract n s.size=tx (s.data.toList.drop n):=tx_ext (by
 rw [Lib.extract_data]
 exact List.take_of_length_le (by simp))
section
variable {w w0 wr wr':World} {B:Nat} {ty:TypeId} {n:Nat} {f:Nat→Value} {z:Value} {k:Nat}
end
theorem bits_xor_u32 (a b:Nat) (ha:a<4294967296) (hb:b<4294967296):bits .xor .u32 (a:Int) (b:Int)=((a ^^^ b:Nat):Int):=by
 have hx:a ^^^ b<2 ^ 32:=Nat.xor_lt_two_pow (by omega) (by omega)
 show IntKind.u32.wrap ((BitVec.ofInt 32 (a:Int) ^^^ BitVec.ofInt 32 (b:Int)).toNat:Int)=_
 rw [BitVec.toNat_xor,BitVec.toNat_ofInt,BitVec.toNat_ofInt,IntKind.wrap_u32]
 have e1:((a:Int) % ((2 ^ 32:Nat):Int)).toNat=a:=by omega
 have e2:((b:Int) % ((2 ^ 32:Nat):Int)).toNat=b:=by omega
 rw [e1,e2];omega
theorem bits_xor_u8 (a b:Nat) (ha:a<256) (hb:b<256):bits .xor .u8 (a:Int) (b:Int)=((a ^^^ b:Nat):Int):=by
 have hx:a ^^^ b<2 ^ 8:=Nat.xor_lt_two_pow (by omega) (by omega)
 show IntKind.u8.wrap ((BitVec.ofInt 8 (a:Int) ^^^ BitVec.ofInt 8 (b:Int)).toNat:Int)=_
 rw [BitVec.toNat_xor,BitVec.toNat_ofInt,BitVec.toNat_ofInt,IntKind.wrap_u8]
 have e1:((a:Int) % ((2 ^ 8:Nat):Int)).toNat=a:=by omega
 have e2:((b:Int) % ((2 ^ 8:Nat):Int)).toNat=b:=by omega
 rw [e1,e2];omega
theorem bits_xor_i64 (a b:Nat) (ha:a<4294967296) (hb:b<4294967296):bits .xor .i64 (a:Int) (b:Int)=((a ^^^ b:Nat):Int):=by
 have hx:a ^^^ b<2 ^ 32:=Nat.xor_lt_two_pow (by omega) (by omega)
 show IntKind.i64.wrap ((BitVec.ofInt 64 (a:Int) ^^^ BitVec.ofInt 64 (b:Int)).toNat:Int)=_
 rw [BitVec.toNat_xor,BitVec.toNat_ofInt,BitVec.toNat_ofInt,IntKind.wrap_i64]
 have e1:((a:Int) % ((2 ^ 64:Nat):Int)).toNat=a:=by omega
 have e2:((b:Int) % ((2 ^ 64:Nat):Int)).toNat=b:=by omega
 rw [e1,e2];omega
theorem bits_and1_u32 (a:Nat) (ha:a<4294967296):bits .and .u32 (a:Int) 1=((a % 2:Nat):Int):=by
 show IntKind.u32.wrap ((BitVec.ofInt 32 (a:Int) &&& BitVec.ofInt 32 1).toNat:Int)=_
 rw [BitVec.toNat_and,BitVec.toNat_ofInt,BitVec.toNat_ofInt,IntKind.wrap_u32]
 have e1:((a:Int) % ((2 ^ 32:Nat):Int)).toNat=a:=by omega
 have e2:((1:Int) % ((2 ^ 32:Nat):Int)).toNat=1:=by decide
 rw [e1,e2,Nat.and_one_is_mod];omega
end Go.Proofs.YtgakcpcpfkoaiaaGreatDoor.Ov
namespace Go.Proofs.YtgakcpcpfkoaiaaGreatDoor.Ov
open Go.ChangeShapes Go.WideShapes Go.ChangeAt Go.RowKit Go.Shelf
def itoRen:Ren:=⟨fun | 129=>194 | 171=>165 | 243=>178 | 246=>185 | 283=>188 | 284=>189 | 285=>190 | 286=>191 | 317=>193 | 318=>195 | 319=>196 | 320=>197 | 337=>198 | 338=>199 | n=>n,fun | 0=>0 | 2=>2 | 3=>3 | 4=>4 | 5=>5 | 9=>9 | 20=>20 | 37=>123 | 46=>115 | 51=>56 | 53=>185 | 171=>184 | 173=>188 | 212=>191 | 213=>192 | 232=>195 | 233=>196 | n=>n,fun | 17=>1 | 18=>3 | 19=>4 | n=>n⟩
theorem itoLays:LaysM.n171 Tryz.prog itoRen :=
 { mixed:=by kernel_rfl
   f129:=by kernel_rfl
   f171:=by kernel_rfl
   f243:=by kernel_rfl
   f246:=by kernel_rfl
   f283:=by kernel_rfl
   f284:=by kernel_rfl
   f285:=by kernel_rfl
   f286:=by kernel_rfl
   f317:=by kernel_rfl
   f318:=by kernel_rfl
   f319:=by kernel_rfl
   f320:=by kernel_rfl
   f337:=by kernel_rfl
   f338:=by kernel_rfl
   t0:=by kernel_rfl
   a0:=fun _=>by kernel_rfl
   z0:=fun _=>by kernel_rfl
   v0:=fun _=>by kernel_rfl
   t2:=by kernel_rfl
   a2:=fun _=>by kernel_rfl
   z2:=fun _=>by kernel_rfl
   v2:=fun _=>by kernel_rfl
   t3:=by kernel_rfl
   a3:=fun _=>by kernel_rfl
   z3:=fun _=>by kernel_rfl
   v3:=fun _=>by kernel_rfl
   t4:=by kernel_rfl
   a4:=fun _=>by kernel_rfl
   z4:=fun _=>by kernel_rfl
   v4:=fun _=>by kernel_rfl
   t5:=by kernel_rfl
   a5:=fun _=>by kernel_rfl
   z5:=fun _=>by kernel_rfl
   v5:=fun _=>by kernel_rfl
   t9:=by kernel_rfl
   a9:=fun _=>by kernel_rfl
   z9:=fun _=>by kernel_rfl
   v9:=fun _=>by kernel_rfl
   t20:=by kernel_rfl
   a20:=fun _=>by kernel_rfl
   z20:=fun _=>by kernel_rfl
   v20:=fun _=>by kernel_rfl
   t37:=by kernel_rfl
   a37:=fun _=>by kernel_rfl
   z37:=fun _=>by kernel_rfl
   v37:=fun _=>by kernel_rfl
   t46:=by kernel_rfl
   a46:=fun _=>by kernel_rfl
   z46:=fun _=>by kernel_rfl
   v46:=fun _=>by kernel_rfl
   t51:=by kernel_rfl
   a51:=fun _=>by kernel_rfl
   z51:=fun _=>by kernel_rfl
   v51:=fun _=>by kernel_rfl
   t53:=by kernel_rfl
   a53:=fun _=>by kernel_rfl
   z53:=fun _=>by kernel_rfl
   v53:=fun _=>by kernel_rfl
   t171:=by kernel_rfl
   a171:=fun _=>by kernel_rfl
   z171:=fun _=>by kernel_rfl
   v171:=fun _=>by kernel_rfl
   t173:=by kernel_rfl
   a173:=fun _=>by kernel_rfl
   z173:=fun _=>by kernel_rfl
   v173:=fun _=>by kernel_rfl
   t212:=by kernel_rfl
   a212:=fun _=>by kernel_rfl
   z212:=fun _=>by kernel_rfl
   v212:=fun _=>by kernel_rfl
   t213:=by kernel_rfl
   a213:=fun _=>by kernel_rfl
   z213:=fun _=>by kernel_rfl
   t232:=by kernel_rfl
   a232:=fun _=>by kernel_rfl
   z232:=fun _=>by kernel_rfl
   v232:=fun _=>by kernel_rfl
   t233:=by kernel_rfl
   a233:=fun _=>by kernel_rfl
   z233:=fun _=>by kernel_rfl
   v233:=fun _=>by kernel_rfl
   g17:=by kernel_rfl
   g18:=by kernel_rfl
   g19:=by kernel_rfl
   i0:=by kernel_rfl
   i2:=by kernel_rfl
   i3:=by kernel_rfl
   i4:=by kernel_rfl
   i5:=by kernel_rfl
   i9:=by kernel_rfl
   i20:=by kernel_rfl
   i37:=by kernel_rfl
   i46:=by kernel_rfl
   i51:=by kernel_rfl
   i53:=by kernel_rfl
   i171:=by kernel_rfl
   i173:=by kernel_rfl
   i212:=by kernel_rfl
   i232:=by kernel_rfl
   i233:=by kernel_rfl
   m17:=by kernel_rfl
   m18:=by kernel_rfl
   m19:=by kernel_rfl }
def Tab (w : World) : Prop := Lib.TabIs Tryz.prog w "internal/strconv.uint64pow10" .u64 Lib.pow10Tab
theorem tab_global : Tryz.prog.globalNamed "internal/strconv.uint64pow10" = some 1 := by kernel_rfl
theorem Tab.lt {w:World} (h:Tab w):1<w.heap.size:=block_lt_of_cell (Lib.TabIs.cell h tab_global 0 (by decide))
theorem Tab.next {w w':World} (h:Tab w) (k:Below w.heap.size w w'):Tab w':=by
 have e : w'.var? Tryz.prog "internal/strconv.uint64pow10" = w.var? Tryz.prog "internal/strconv.uint64pow10" := by
  unfold World.var?
  rw [tab_global]
  simp only [Option.bind_some]
  rw [k.block _ h.lt]
 exact e.trans h
theorem below_grow {B:Nat} {w w':World} (h:Below B w w') (hB:B≤w'.heap.size) (os:Array Obj):Below B w (Sort.grow w' os) :=
 ⟨h.os,h.tape,h.output,by rw [Sort.size_grow];exact Nat.le_trans h.size (Nat.le_add_right _ _),fun i hi=>(Sort.heap_grow_old w' os (by omega)).trans (h.block i hi)⟩
theorem itoa_any (n:Int) (h0:-9223372036854775808≤n) (h1:n≤9223372036854775807) (w:World) (ht:Tab w) :
 Calls Tryz.prog 165 #[.int .i64 n] w (Gives (.string (tx (Lib.itoa n))) w) :=
 (Any.strconv_Itoa itoLays n h0 h1 w ht).mono fun _ _ ⟨he,k,os,hw⟩=>⟨he,by rw [hw];exact below_grow (below_drewN (Below.refl _ _) k) (Nat.le_refl _) os⟩
theorem tab_of {w : World} (d : DataW Unit) (hd : d = Lib.tabData .u64 Lib.pow10Tab) (h : ∃ g t cs fuel p, Tryz.prog.globalNamed "internal/strconv.uint64pow10" = some g ∧ (Tryz.prog.globals[g]?).map (·.type) = some t ∧ w.var? Tryz.prog "internal/strconv.uint64pow10" = some cs ∧
 DataW.trod (fun _=>()) Tryz.prog w 0 (fun _=>true) false fuel t cs.toList=some (d,p)):Tab w:=by
 obtain ⟨g,t,cs,fuel,p,hg,ht,hv,hr⟩:=h
 subst hd
 obtain rfl:=Option.some.inj (tab_global.symm.trans hg)
 obtain rfl:=Option.some.inj ((show (Tryz.prog.globals[1]?).map (·.type)=some 191 by kernel_rfl).symm.trans ht)
 show w.var? _ _=_
 rw [hv,← Lib.cells_of_tab Tryz.underlying191 Tryz.underlying185 (by kernel_rfl) (by kernel_rfl) hr]
end Go.Proofs.YtgakcpcpfkoaiaaGreatDoor.Ov
namespace Go.Proofs.YtgakcpcpfkoaiaaGreatDoor.Ov
open Go.ChangeShapes Go.WideShapes Go.ChangeAt Go.RowKit
theorem laid_reads {P:Program} {w:World}:∀ {l:List (String × DataW Unit)} {ps:List MemPlace},DataW.LaidVars P w l ps→∀ n d,(n,d) ∈ l →
 ∃ g t cs fuel p,P.globalNamed n=some g∧(P.globals[g]?).map (·.type)=some t∧w.var? P n=some cs∧DataW.trod (fun _=>()) P w 0 (fun _=>true) false fuel t cs.toList=some (d,p)
 | [],_,_,_,_,hm=>by cases hm
 | (n',d') :: r,ps,h,n,d,hm=>by
  obtain ⟨g,t,cs,fuel,p,q,h1,h2,h3,h4,h5,_⟩:=h
  rcases List.mem_cons.1 hm with e | e
  · cases e
    exact ⟨g,t,cs,fuel,p,h1,h2,h3,h4⟩
  · exact laid_reads h5 n d e
theorem tab_met {w : World} {l : List (String × DataW Unit)} {d : DataW Unit} (hd : d = Lib.tabData .u64 Lib.pow10Tab) (hm : ("internal/strconv.uint64pow10", d) ∈ l) (h : laidMet Tryz.prog l w) : Tab w :=
 let ⟨_,hv,_⟩:=h
 tab_of d hd (laid_reads hv _ d hm)
end Go.Proofs.YtgakcpcpfkoaiaaGreatDoor.Ov
namespace Go.Proofs.YtgakcpcpfkoaiaaGreatDoor.Tp
open Go.ChangeShapes Go.WideShapes Go.ChangeAt Go.RowKit Ov
def nb (n:Nat):List UInt8:=if n<128 then [UInt8.ofNat n] else UInt8.ofNat (n % 128+128) :: nb (n / 128)
termination_by n
decreasing_by omega
theorem u8_nat {n:Nat} (h:n<256):(UInt8.ofNat n).toNat=n:=by
 rw [UInt8.toNat_ofNat'];omega
def cn:Nat→Nat→List UInt8→Nat × List UInt8 × Nat
 | _,_,[]=>(0,[],2)
 | i,n,b :: t =>
   if 128≤b.toNat∧i+1<8 then cn (i+1) (n+b.toNat % 128 * 2 ^ (7 * i)) t
   else if 128≤b.toNat∨(b.toNat=0∧1<i+1)∨9007199254740991<n+b.toNat % 128 * 2 ^ (7 * i) then (0,[],6)
   else (n+b.toNat % 128 * 2 ^ (7 * i),t,0)
end Go.Proofs.YtgakcpcpfkoaiaaGreatDoor.Tp
namespace Go.Proofs.YtgakcpcpfkoaiaaGreatDoor.Ga
def fb (n:Int):Bool:=decide (-16777216≤n∧n≤16777216)
theorem fb_yes {n:Int} (h:fb n=true):-16777216≤n∧n≤16777216:=of_decide_eq_true h
theorem fb_of {n:Int} (h1:-16777216≤n) (h2:n≤16777216):fb n=true:=decide_eq_true ⟨h1,h2⟩
theorem fb_neg (n:Int):fb (-n)=fb n:=by unfold fb;rw [decide_eq_decide];omega
structure Pt where
 x:Int
 y:Int
 deriving DecidableEq
theorem Pt.ext {a b:Pt} (h1:a.x=b.x) (h2:a.y=b.y):a=b:=by cases a;cases b;simp_all
def rb (a:Pt):Bool:=fb a.x && fb a.y
theorem rb_yes {a:Pt} (h:rb a=true):(-16777216≤a.x∧a.x≤16777216)∧(-16777216≤a.y∧a.y≤16777216):=by
 unfold rb at h;rw [Bool.and_eq_true] at h;exact ⟨fb_yes h.1,fb_yes h.2⟩
theorem rb_of {a:Pt} (h:(-16777216≤a.x∧a.x≤16777216)∧(-16777216≤a.y∧a.y≤16777216)):rb a=true:=by
 unfold rb;rw [Bool.and_eq_true];exact ⟨fb_of h.1.1 h.1.2,fb_of h.2.1 h.2.2⟩
theorem rb_xy {x y:Int} (h:rb ⟨x,y⟩=true):(-16777216≤x∧x≤16777216)∧(-16777216≤y∧y≤16777216):=rb_yes h
def near (n d:Int):Int:=(2 * n+d) / (2 * d)
theorem near_spec (n d:Int) (h:0<d):-d≤2 * (n - near n d * d)∧2 * (n - near n d * d)<d:=by
 unfold near
 have h1:=Int.emod_add_mul_ediv (2 * n+d) (2 * d)
 have h2:=Int.emod_nonneg (2 * n+d) (show 2 * d ≠ 0 by omega)
 have h3:=Int.emod_lt_of_pos (2 * n+d) (show 0<2 * d by omega)
 generalize (2 * n+d) / (2 * d)=q at *
 generalize (2 * n+d) % (2 * d)=r at *
 have e:2 * d * q=2 * (q * d):=by grind
 rw [e] at h1
 generalize q * d=p at *
 omega
theorem near_le {n d M:Int} (h:0<d) (h1:-(M * d)≤n) (h2:n≤M * d):-M≤near n d∧near n d≤M:=by
 obtain ⟨g1,g2⟩:=near_spec n d h
 generalize near n d=q at *
 refine ⟨?_,?_⟩
 · rcases Int.lt_or_le q (-M) with hq | hq
   · have:(q+1) * d≤-M * d:=Int.mul_le_mul_of_nonneg_right (by omega) (by omega)
     rw [Int.add_mul,Int.neg_mul] at this
     generalize q * d=p at *;generalize M * d=m at *;omega
   · exact hq
 · rcases Int.lt_or_le M q with hq | hq
   · have:(M+1) * d≤q * d:=Int.mul_le_mul_of_nonneg_right (by omega) (by omega)
     rw [Int.add_mul] at this
     generalize q * d=p at *;generalize M * d=m at *;omega
   · exact hq
theorem sq_nonneg (a:Int):0≤a * a:=by
 rcases Int.le_total 0 a with h | h
 · exact Int.mul_nonneg h h
 · exact Int.mul_nonneg_of_nonpos_of_nonpos h h
theorem sq_le {a b:Int} (hb:0≤b) (h:a * a≤b * b):-b≤a∧a≤b:=by
 refine ⟨?_,?_⟩
 · rcases Int.lt_or_le a (-b) with hq | hq
   · have:(b+1) * (b+1)≤(-a) * (-a):=Int.mul_le_mul (by omega) (by omega) (by omega) (by omega)
     have e1:(b+1) * (b+1)=b * b+2 * b+1:=by grind
     have e2:(-a) * (-a)=a * a:=by grind
     rw [e1,e2] at this;omega
   · exact hq
 · rcases Int.lt_or_le b a with hq | hq
   · have:(b+1) * (b+1)≤a * a:=Int.mul_le_mul (by omega) (by omega) (by omega) (by omega)
     have e1:(b+1) * (b+1)=b * b+2 * b+1:=by grind
     rw [e1] at this;omega
   · exact hq
theorem le_sq {a b:Int} (h1:-b≤a) (h2:a≤b):a * a≤b * b:=by
 rcases Int.le_total 0 a with h | h
 · exact Int.mul_le_mul h2 h2 h (by omega)
 · have:(-a) * (-a)≤b * b:=Int.mul_le_mul (by omega) (by omega) (by omega) (by omega)
   rwa [Int.neg_mul_neg] at this
theorem mul_big {a b:Int} (ha:-16777216≤a∧a≤16777216) (hb:-16777216≤b∧b≤16777216):-281474976710656≤a * b∧a * b≤281474976710656:=by
 have h:(a * b) * (a * b)≤281474976710656 * 281474976710656:=by
  have h1:=le_sq ha.1 ha.2
  have h2:=le_sq hb.1 hb.2
  rw [show (a * b) * (a * b)=(a * a) * (b * b) by grind]
  exact Int.mul_le_mul h1 h2 (sq_nonneg b) (by omega)
 exact sq_le (by omega) h
namespace Pt
def zero:Pt:=⟨0,0⟩
def one:Pt:=⟨1,0⟩
def add (a b:Pt):Pt:=⟨a.x+b.x,a.y+b.y⟩
def sub (a b:Pt):Pt:=⟨a.x - b.x,a.y - b.y⟩
def mul (a b:Pt):Pt:=⟨a.x * b.x - a.y * b.y,a.x * b.y+a.y * b.x⟩
def conj (a:Pt):Pt:=⟨a.x,-a.y⟩
def norm (a:Pt):Int:=a.x * a.x+a.y * a.y
def turn (a:Pt):Pt:=⟨-a.y,a.x⟩
def quo (a b:Pt):Pt:=⟨near (a.mul b.conj).x b.norm,near (a.mul b.conj).y b.norm⟩
def rest (a b:Pt):Pt:=a.sub ((a.quo b).mul b)
def turns:Nat→Pt→Pt
 | 0,a=>a
 | k+1,a=>(turns k a).turn
theorem norm_nonneg (a:Pt):0≤a.norm:=by
 have:=sq_nonneg a.x;have:=sq_nonneg a.y;unfold norm;omega
theorem norm_pos {a:Pt} (h:a ≠ zero):0<a.norm:=by
 have h1:=sq_nonneg a.x;have h2:=sq_nonneg a.y
 unfold norm
 by_cases hx:a.x=0
 · have hy:a.y ≠ 0:=fun hy=>h (Pt.ext hx hy)
   have:a.y * a.y ≠ 0:=Int.mul_ne_zero hy hy
   omega
 · have:a.x * a.x ≠ 0:=Int.mul_ne_zero hx hx
   omega
theorem mul_norm (a b:Pt):(a.mul b).norm=a.norm * b.norm:=by unfold mul norm;grind
theorem rest_norm (a:Pt) {b:Pt} (h:b ≠ zero):2 * (a.rest b).norm≤b.norm:=by
 have hp:=norm_pos h
 have e1:((a.rest b).mul b.conj).x=(a.mul b.conj).x - (a.quo b).x * b.norm:=by unfold rest sub mul conj norm;grind
 have e2:((a.rest b).mul b.conj).y=(a.mul b.conj).y - (a.quo b).y * b.norm:=by unfold rest sub mul conj norm;grind
 have e3:((a.rest b).mul b.conj).norm=(a.rest b).norm * b.norm:=by rw [mul_norm];congr 1;unfold conj norm;grind
 obtain ⟨l1,u1⟩:=near_spec (a.mul b.conj).x b.norm hp
 obtain ⟨l2,u2⟩:=near_spec (a.mul b.conj).y b.norm hp
 have f1:(a.quo b).x=near (a.mul b.conj).x b.norm:=rfl
 have f2:(a.quo b).y=near (a.mul b.conj).y b.norm:=rfl
 rw [← f1,← e1] at l1 u1
 rw [← f2,← e2] at l2 u2
 unfold norm at e3
 have s1:=le_sq (a:=2 * ((a.rest b).mul b.conj).x) (b:=b.norm) (by omega) (by omega)
 have s2:=le_sq (a:=2 * ((a.rest b).mul b.conj).y) (b:=b.norm) (by omega) (by omega)
 generalize ((a.rest b).mul b.conj).x=u at *
 generalize ((a.rest b).mul b.conj).y=v at *
 have e4:u * u+v * v=(a.rest b).norm * b.norm:=e3
 generalize (a.rest b).norm=r at *
 generalize b.norm=n at *
 rcases Int.lt_or_le n (2 * r) with hh | hh
 · have h5:(n+1) * n≤2 * r * n:=Int.mul_le_mul_of_nonneg_right (by omega) (by omega)
   have t1:2 * u * (2 * u)=4 * (u * u):=by grind
   have t2:2 * v * (2 * v)=4 * (v * v):=by grind
   have t3:(n+1) * n=n * n+n:=by grind
   have t4:2 * r * n=2 * (r * n):=by grind
   rw [t1] at s1;rw [t2] at s2;rw [t3,t4] at h5
   generalize u * u=uu at *;generalize v * v=vv at *;generalize r * n=rn at *;generalize n * n=nn at *
   omega
 · exact hh
theorem turn_right {a:Pt} (h:rb a=true):rb a.turn=true:=by
 obtain ⟨h1,h2⟩:=rb_yes h
 exact rb_of ⟨⟨by show _≤-a.y;omega,by show -a.y≤_;omega⟩,h1⟩
theorem turns_right (k:Nat) {a:Pt} (h:rb a=true):rb (turns k a)=true:=by
 induction k with
 | zero=>exact h
 | succ k ih=>exact turn_right ih
def fs (a:Pt):Pt :=
 if 0<a.x∧0≤a.y then a else if a.y<0∧0≤a.x then turns 1 a else if a.x<0∧a.y≤0 then turns 2 a else if 0<a.y∧a.x≤0 then turns 3 a else a
theorem fs_first (a:Pt):(0<(fs a).x∧0≤(fs a).y)∨(fs a=zero∧a=zero):=by
 unfold fs
 split
 · exact .inl ‹_›
 · split
   · refine .inl ?_;show 0 < -a.y∧0≤a.x;omega
   · split
     · refine .inl ?_;show 0 < - a.x∧0≤-a.y;omega
     · split
       · refine .inl ?_;show 0 < - -a.y∧0≤-a.x;omega
       · exact .inr ⟨Pt.ext (by show _=(0:Int);omega) (by show _=(0:Int);omega),Pt.ext (by show _=(0:Int);omega) (by show _=(0:Int);omega)⟩
theorem fs_done {a:Pt} (h:(0<a.x∧0≤a.y)∨a=zero):fs a=a:=by
 unfold fs
 rcases h with h | h
 · rw [if_pos h]
 · subst h;rfl
theorem fs_turn {a:Pt} (h:¬ (0<a.x∧0≤a.y)) (h0:a ≠ zero):fs a.turn=fs a:=by
 have hz:¬ (a.x=0∧a.y=0):=fun ⟨hx,hy⟩=>h0 (Pt.ext hx hy)
 unfold fs
 have t1:turns 1 a=a.turn:=rfl
 have t2:turns 2 a=turns 1 a.turn:=rfl
 have t3:turns 3 a=turns 2 a.turn:=rfl
 have tx:a.turn.x=-a.y:=rfl
 have ty:a.turn.y=a.x:=rfl
 rw [tx,ty,if_neg h]
 by_cases c1:a.y<0∧0≤a.x
 · rw [if_pos (show 0 < -a.y∧0≤a.x by omega),if_pos c1,t1]
 · rw [if_neg c1,if_neg (show ¬ (0 < -a.y∧0≤a.x) by omega)]
   by_cases c2:a.x<0∧a.y≤0
   · rw [if_pos c2,if_pos (show a.x<0∧0≤-a.y by omega),t2]
   · rw [if_neg c2,if_neg (show ¬ (a.x<0∧0≤-a.y) by omega),if_pos (show 0<a.y∧a.x≤0 by omega),if_pos (show -a.y<0∧a.x≤0 by omega),t3]
theorem rest_lt (a:Pt) {b:Pt} (h:b ≠ zero):(a.rest b).norm.toNat<b.norm.toNat:=by
 have h1:=rest_norm a h;have h2:=norm_nonneg (a.rest b);have h3:=norm_pos h;omega
def cg (a b:Pt):Pt:=if _h:b=zero then fs a else cg b (a.rest b)
termination_by b.norm.toNat
decreasing_by exact rest_lt a _h
theorem cg_zero (a:Pt):cg a zero=fs a:=by rw [cg,dif_pos rfl]
theorem cg_rest (a:Pt) {b:Pt} (h:b ≠ zero):cg a b=cg b (a.rest b):=by rw [cg,dif_neg h]
theorem norm_le {a:Pt} (h:rb a=true):a.norm≤562949953421312:=by
 obtain ⟨h1,h2⟩:=rb_yes h
 have s1:=le_sq h1.1 h1.2
 have s2:=le_sq h2.1 h2.2
 unfold norm;omega
theorem right_of_norm {a:Pt} (h:a.norm≤281474976710656):rb a=true:=by
 have s1:=sq_nonneg a.x;have s2:=sq_nonneg a.y
 unfold norm at h
 exact rb_of ⟨sq_le (by omega) (by omega),sq_le (by omega) (by omega)⟩
theorem rest_right {a b:Pt} (hb:rb b=true) (h:b ≠ zero):rb (a.rest b)=true:=by
 have h1:=rest_norm a h;have h2:=norm_le hb
 exact right_of_norm (by omega)
theorem part_le {z N n:Int} (hn:1≤n) (hz:z * z≤N * n) (hN:N≤562949953421312) (h1:n=1→z * z≤281474976710656):-(16777216 * n)≤z∧z≤16777216 * n:=by
 refine sq_le (by omega) ?_
 by_cases h:n=1
 · have:=h1 h;subst h;omega
 · have t1:N * n≤562949953421312 * n:=Int.mul_le_mul_of_nonneg_right hN (by omega)
   have t2:2 * n≤n * n:=Int.mul_le_mul_of_nonneg_right (by omega) (by omega)
   have t3:16777216 * n * (16777216 * n)=281474976710656 * (n * n):=by grind
   rw [t3];generalize n * n=nn at *;omega
theorem unit_cases {b:Pt} (h:b.norm=1):(b.x * b.x=1∧b.y=0)∨(b.x=0∧b.y * b.y=1):=by
 have s1:=sq_nonneg b.x;have s2:=sq_nonneg b.y
 unfold norm at h
 by_cases hx:b.x=0
 · exact .inr ⟨hx,by rw [hx] at h;omega⟩
 · have hx2:b.x * b.x ≠ 0:=Int.mul_ne_zero hx hx
   have hy:b.y=0:=by
    refine Decidable.byContradiction fun hy=>?_
    have hy2:b.y * b.y ≠ 0:=Int.mul_ne_zero hy hy
    omega
   exact .inl ⟨by rw [hy] at h;omega,hy⟩
theorem quo_right {a b:Pt} (ha:rb a=true) (h:b ≠ zero):rb (a.quo b)=true:=by
 have hp:=norm_pos h
 have hN:=norm_le ha
 obtain ⟨hx,hy⟩:=rb_yes ha
 have sx:=le_sq hx.1 hx.2
 have sy:=le_sq hy.1 hy.2
 have e:(a.mul b.conj).norm=a.norm * b.norm:=by rw [mul_norm];congr 1;unfold conj norm;grind
 have s1:=sq_nonneg (a.mul b.conj).x
 have s2:=sq_nonneg (a.mul b.conj).y
 have e':(a.mul b.conj).x * (a.mul b.conj).x+(a.mul b.conj).y * (a.mul b.conj).y=a.norm * b.norm:=e
 have hu:b.norm=1→(a.mul b.conj).x * (a.mul b.conj).x≤281474976710656∧(a.mul b.conj).y * (a.mul b.conj).y≤281474976710656:=by
  intro h1
  have zx:(a.mul b.conj).x=a.x * b.x+a.y * b.y:=by unfold mul conj;grind
  have zy:(a.mul b.conj).y=a.y * b.x - a.x * b.y:=by unfold mul conj;grind
  rcases unit_cases h1 with ⟨u1,u2⟩ | ⟨u1,u2⟩
  · have t1:(a.mul b.conj).x * (a.mul b.conj).x=a.x * a.x:=by rw [zx,u2];grind
    have t2:(a.mul b.conj).y * (a.mul b.conj).y=a.y * a.y:=by rw [zy,u2];grind
    rw [t1,t2];omega
  · have t1:(a.mul b.conj).x * (a.mul b.conj).x=a.y * a.y:=by rw [zx,u1];grind
    have t2:(a.mul b.conj).y * (a.mul b.conj).y=a.x * a.x:=by rw [zy,u1];grind
    rw [t1,t2];omega
 obtain ⟨p1,p2⟩:=part_le (z:=(a.mul b.conj).x) (N:=a.norm) (n:=b.norm) (by omega) (by omega) hN (fun h1=>(hu h1).1)
 obtain ⟨q1,q2⟩:=part_le (z:=(a.mul b.conj).y) (N:=a.norm) (n:=b.norm) (by omega) (by omega) hN (fun h1=>(hu h1).2)
 exact rb_of ⟨near_le hp p1 p2,near_le hp q1 q2⟩
end Pt
end Go.Proofs.YtgakcpcpfkoaiaaGreatDoor.Ga
namespace Go.Proofs.YtgakcpcpfkoaiaaGreatDoor.Va
open Tp Ga
structure Va where
 k:Int
 n:Int
 s:List UInt8
 x:Int
 y:Int
 deriving DecidableEq
def rt (v:Va):Bool:=decide ((v.k=0∧-9007199254740992≤v.n∧v.n≤9007199254740992∧v.s=[]∧v.x=0∧v.y=0)∨(v.k=1∧v.n=0∧v.s.length≤4096∧v.x=0∧v.y=0) ∨
 (v.k=2∧v.n=0∧v.s=[]∧rb ⟨v.x,v.y⟩=true))
theorem rt_yes {v:Va} (h:rt v=true):(v.k=0∧-9007199254740992≤v.n∧v.n≤9007199254740992∧v.s=[]∧v.x=0∧v.y=0)∨(v.k=1∧v.n=0∧v.s.length≤4096∧v.x=0∧v.y=0) ∨
 (v.k=2∧v.n=0∧v.s=[]∧rb ⟨v.x,v.y⟩=true):=of_decide_eq_true h
def cI (a b:Int):Int:=if a<b then -1 else if b<a then 1 else 0
def cS (a b:List UInt8):Int:=if Op.bytesLess a b=true then -1 else if Op.bytesLess b a=true then 1 else 0
def cP (x y u v:Int):Int:=if x<u∨x=u∧y<v then -1 else if u<x∨u=x∧v<y then 1 else 0
def or4 (a b c d:Int):Int:=if a ≠ 0 then a else if b ≠ 0 then b else if c ≠ 0 then c else d
def ord (a b:Va):Int:=or4 (cI a.k b.k) (cI a.n b.n) (cS a.s b.s) (cP a.x a.y b.x b.y)
theorem less_nil (a:List UInt8):Op.bytesLess a []=false:=by cases a <;> rfl
theorem less_cons (a b:UInt8) (x y:List UInt8):Op.bytesLess (a :: x) (b :: y)=(a<b || (a == b && Op.bytesLess x y)):=rfl
theorem less_cons_iff (a b:UInt8) (x y:List UInt8):Op.bytesLess (a :: x) (b :: y)=true↔(a.toNat<b.toNat∨a=b∧Op.bytesLess x y=true):=by
 rw [less_cons];simp [UInt8.lt_iff_toNat_lt]
theorem less_irrefl (a:List UInt8):Op.bytesLess a a=false:=by
 induction a with
 | nil=>rfl
 | cons c t ih =>
   rw [Bool.eq_false_iff]
   intro h
   rcases (less_cons_iff c c t t).1 h with h | ⟨_,h⟩
   · omega
   · rw [ih] at h;cases h
theorem less_total (a b:List UInt8):Op.bytesLess a b=true∨Op.bytesLess b a=true∨a=b:=by
 induction a generalizing b with
 | nil=>cases b with
   | nil=>exact .inr (.inr rfl)
   | cons d u=>exact .inl rfl
 | cons c t ih=>cases b with
   | nil=>exact .inr (.inl rfl)
   | cons d u =>
     rw [less_cons_iff,less_cons_iff]
     rcases Nat.lt_trichotomy c.toNat d.toNat with h | h | h
     · exact .inl (.inl h)
     · have e:c=d:=UInt8.toNat_inj.1 h
       subst e
       rcases ih u with h | h | h
       · exact .inl (.inr ⟨rfl,h⟩)
       · exact .inr (.inl (.inr ⟨rfl,h⟩))
       · exact .inr (.inr (by rw [h]))
     · exact .inr (.inl (.inl h))
theorem less_trans {a b c:List UInt8} (h1:Op.bytesLess a b=true) (h2:Op.bytesLess b c=true):Op.bytesLess a c=true:=by
 induction a generalizing b c with
 | nil=>cases c with
   | nil=>rw [less_nil] at h2;cases h2
   | cons d u=>rfl
 | cons x t ih=>cases b with
   | nil=>rw [less_nil] at h1;cases h1
   | cons y u=>cases c with
     | nil=>rw [less_nil] at h2;cases h2
     | cons z v =>
       rw [less_cons_iff] at h1 h2 ⊢
       rcases h1 with h1 | ⟨e1,h1⟩
       · rcases h2 with h2 | ⟨e2,h2⟩
         · exact .inl (by omega)
         · subst e2;exact .inl h1
       · subst e1
         rcases h2 with h2 | ⟨e2,h2⟩
         · exact .inl h2
         · subst e2;exact .inr ⟨rfl,ih h1 h2⟩
theorem less_asymm {a b:List UInt8} (h:Op.bytesLess a b=true):Op.bytesLess b a=false:=by
 rw [Bool.eq_false_iff];intro h2
 have:=less_trans h h2
 rw [less_irrefl] at this;cases this
structure Cmp {α:Type} (f:α→α→Int):Prop where
 rng:∀ a b,f a b=-1∨f a b=0∨f a b=1
 neg:∀ a b,f b a=-f a b
 zero:∀ a b,f a b=0↔a=b
 trans:∀ a b c,f a b≤0→f b c≤0→f a c≤0
theorem cI_cmp:Cmp cI:=⟨fun a b=>by unfold cI;split <;> (try split) <;> omega,fun a b=>by unfold cI;split <;> (try split) <;> (try split) <;> omega,fun a b=>by unfold cI;split <;> (try split) <;> omega,
 fun a b c h1 h2=>by unfold cI at *;split at h1 <;> split at h2 <;> (try split at h1) <;> (try split at h2) <;> split <;> (try split) <;> omega⟩
theorem cS_lt {a b:List UInt8} (h:Op.bytesLess a b=true):cS a b=-1:=if_pos h
theorem cS_gt {a b:List UInt8} (h:Op.bytesLess b a=true):cS a b=1:=by unfold cS;rw [less_asymm h,if_neg (by decide),if_pos h]
theorem cS_self (a:List UInt8):cS a a=0:=by unfold cS;rw [less_irrefl];rfl
theorem cS_le {a b:List UInt8}:cS a b≤0↔(Op.bytesLess a b=true∨a=b):=by
 rcases less_total a b with h | h | h
 · rw [cS_lt h];simp [h]
 · rw [cS_gt h]
   have h2:=less_asymm h
   constructor
   · intro h;omega
   · rintro (h3 | h3)
     · rw [h2] at h3;cases h3
     · subst h3;rw [less_irrefl] at h;cases h
 · subst h;rw [cS_self];simp
theorem cS_cmp:Cmp cS:=by
 refine ⟨fun a b=>?_,fun a b=>?_,fun a b=>?_,fun a b c h1 h2=>?_⟩
 · rcases less_total a b with h | h | h
   · exact .inl (cS_lt h)
   · exact .inr (.inr (cS_gt h))
   · subst h;exact .inr (.inl (cS_self a))
 · rcases less_total a b with h | h | h
   · rw [cS_lt h,cS_gt h];rfl
   · rw [cS_lt h,cS_gt h]
   · subst h;rw [cS_self];rfl
 · rcases less_total a b with h | h | h
   · rw [cS_lt h]
     exact ⟨fun h=>by omega,fun e=>by subst e;rw [less_irrefl] at h;cases h⟩
   · rw [cS_gt h]
     exact ⟨fun h=>by omega,fun e=>by subst e;rw [less_irrefl] at h;cases h⟩
   · subst h;rw [cS_self];simp
 · rw [cS_le] at *
   rcases h1 with h1 | h1
   · rcases h2 with h2 | h2
     · exact .inl (less_trans h1 h2)
     · subst h2;exact .inl h1
   · subst h1;exact h2
theorem cP_cmp:Cmp (fun (a b:Int × Int)=>cP a.1 a.2 b.1 b.2):=by
 refine ⟨fun a b=>?_,fun a b=>?_,fun a b=>?_,fun a b c h1 h2=>?_⟩
 · obtain ⟨x,y⟩:=a;obtain ⟨u,v⟩:=b
   show cP x y u v=-1∨cP x y u v=0∨cP x y u v=1
   unfold cP;split <;> (try split) <;> omega
 · obtain ⟨x,y⟩:=a;obtain ⟨u,v⟩:=b
   show cP u v x y=- cP x y u v
   unfold cP;split <;> (try split) <;> (try split) <;> omega
 · obtain ⟨x,y⟩:=a;obtain ⟨u,v⟩:=b
   show cP x y u v=0↔_
   rw [Prod.mk.injEq]
   unfold cP;split <;> (try split) <;> omega
 · obtain ⟨x,y⟩:=a;obtain ⟨u,v⟩:=b;obtain ⟨p,q⟩:=c
   change cP x y u v≤0 at h1
   change cP u v p q≤0 at h2
   show cP x y p q≤0
   unfold cP at *;split at h1 <;> split at h2 <;> (try split at h1) <;> (try split at h2) <;> split <;> (try split) <;> omega
theorem or4_zero {a b c d:Int}:or4 a b c d=0↔a=0∧b=0∧c=0∧d=0:=by
 unfold or4;split
 · constructor <;> (intro h;omega)
 · split
   · constructor <;> (intro h;omega)
   · split
     · constructor <;> (intro h;omega)
     · constructor
       · intro h;omega
       · intro h;omega
theorem ord_rng (a b:Va):ord a b=-1∨ord a b=0∨ord a b=1:=by
 have h1:=cI_cmp.rng a.k b.k;have h2:=cI_cmp.rng a.n b.n;have h3:=cS_cmp.rng a.s b.s;have h4:=cP_cmp.rng (a.x,a.y) (b.x,b.y)
 unfold ord or4
 split
 · exact h1
 · split
   · exact h2
   · split
     · exact h3
     · exact h4
theorem Va.ext' {a b:Va} (h1:a.k=b.k) (h2:a.n=b.n) (h3:a.s=b.s) (h4:(a.x,a.y)=(b.x,b.y)):a=b:=by
 cases a;cases b;simp_all
theorem ord_zero (a b:Va):ord a b=0↔a=b:=by
 unfold ord
 rw [or4_zero,cI_cmp.zero,cI_cmp.zero,cS_cmp.zero,cP_cmp.zero (a.x,a.y) (b.x,b.y)]
 exact ⟨fun ⟨h1,h2,h3,h4⟩=>Va.ext' h1 h2 h3 h4,fun h=>by subst h;exact ⟨rfl,rfl,rfl,rfl⟩⟩
def pl (c:UInt8):Bool:=decide (32≤c.toNat∧c.toNat≤126∧c.toNat ≠ 34∧c.toNat ≠ 92)
def hx (n:Nat):UInt8:=UInt8.ofNat (if n<10 then 48+n else 87+n)
def e1 (c:UInt8):List UInt8:=if pl c=true then [c] else [92,hx (c.toNat / 16),hx (c.toNat % 16)]
def esc (l:List UInt8):List UInt8:=l.flatMap e1
def wr (v:Va):List UInt8 :=
 if v.k=1 then 34 :: (esc v.s++[34])
 else if v.k=2 then (Lib.itoa v.x++[58])++Lib.itoa v.y
 else Lib.itoa v.n
theorem wr_text (n x y:Int) (s:List UInt8):wr ⟨1,n,s,x,y⟩=34 :: (esc s++[34]):=if_pos rfl
theorem wr_point (n x y:Int) (s:List UInt8):wr ⟨2,n,s,x,y⟩=(Lib.itoa x++[58])++Lib.itoa y:=by
 unfold wr;rw [if_neg (show ¬ (2:Int)=1 by decide),if_pos rfl]
theorem wr_int (n x y:Int) (s:List UInt8):wr ⟨0,n,s,x,y⟩=Lib.itoa n:=by
 unfold wr;rw [if_neg (show ¬ (0:Int)=1 by decide),if_neg (show ¬ (0:Int)=2 by decide)]
theorem esc_nil:esc []=[]:=rfl
theorem esc_cons (c:UInt8) (l:List UInt8):esc (c :: l)=e1 c++esc l:=rfl
theorem esc_append (a b:List UInt8):esc (a++b)=esc a++esc b:=by unfold esc;rw [List.flatMap_append]
theorem e1_le (c:UInt8):(e1 c).length≤3:=by unfold e1;split <;> simp
theorem esc_le (l:List UInt8):(esc l).length≤3 * l.length:=by
 induction l with
 | nil=>simp [esc_nil]
 | cons c t ih=>rw [esc_cons,List.length_append,List.length_cons];have:=e1_le c;omega
end Go.Proofs.YtgakcpcpfkoaiaaGreatDoor.Va
namespace Go.Proofs.YtgakcpcpfkoaiaaGreatDoor
open Go
instance:Coe Va.Va (List Value):=⟨fun v=>[.int .i64 v.k,.int .i64 v.n,.string (Ov.tx v.s),.int .i64 v.x,.int .i64 v.y]⟩
instance:Coe Va.Va (Array Value):=⟨fun v=>#[.int .i64 v.k,.int .i64 v.n,.string (Ov.tx v.s),.int .i64 v.x,.int .i64 v.y]⟩
structure Zr where
instance:Coe Zr (List Value):=⟨fun _=>[.int .i64 0,.int .i64 0,.string ⟨#[]⟩,.int .i64 0,.int .i64 0]⟩
instance:Coe Zr (Array Value):=⟨fun _=>#[.int .i64 0,.int .i64 0,.string ⟨#[]⟩,.int .i64 0,.int .i64 0]⟩
def zz:Zr:=⟨⟩

end Go.Proofs.YtgakcpcpfkoaiaaGreatDoor
namespace Go.Proofs.YtgakcpcpfkoaiaaGreatDoor.Va
open Ov Tp Ga
def dg (c:UInt8):Bool:=decide (48≤c.toNat∧c.toNat≤57)
def tw (l:List UInt8):Nat:=(l.takeWhile dg).length
def dv (l:List UInt8):Nat:=l.foldl (fun a c=>10 * a+(c.toNat - 48)) 0
def sat (l:List UInt8):Nat:=l.foldl (fun a c=>min (10 * a+(c.toNat - 48)) 9007199254740993) 0
theorem tw_cons (c:UInt8) (t:List UInt8):tw (c :: t)=if dg c=true then tw t+1 else 0:=by
 unfold tw;rw [List.takeWhile_cons];split <;> simp
theorem tw_le (l:List UInt8):tw l≤l.length:=by
 induction l with
 | nil=>simp [tw]
 | cons c t ih=>rw [tw_cons];split <;> simp <;> omega
theorem tw_yes {l:List UInt8} {k:Nat} (hk:k<l.length) (h:k≤tw l) (hd:dg l[k]=true):k+1≤tw l:=by
 induction l generalizing k with
 | nil=>simp at hk
 | cons c t ih =>
   rw [tw_cons] at h ⊢
   cases k with
   | zero =>
     have hd':dg c=true:=hd
     rw [if_pos hd'];omega
   | succ k =>
     have hc:dg c=true:=by
      rcases Bool.eq_false_or_eq_true (dg c) with e | e
      · exact e
      · rw [e] at h;simp at h
     rw [if_pos hc] at h ⊢
     have:=ih (k:=k) (by simpa using hk) (by omega) hd
     omega
theorem tw_no {l:List UInt8} {k:Nat} (hk:k<l.length) (h:k≤tw l) (hd:dg l[k]=false):tw l=k:=by
 induction l generalizing k with
 | nil=>simp at hk
 | cons c t ih =>
   rw [tw_cons] at h ⊢
   cases k with
   | zero =>
     have hd':dg c=false:=hd
     rw [hd'];rfl
   | succ k =>
     have hc:dg c=true:=by
      rcases Bool.eq_false_or_eq_true (dg c) with e | e
      · exact e
      · rw [e] at h;simp at h
     rw [if_pos hc] at h ⊢
     have:=ih (k:=k) (by simpa using hk) (by omega) hd
     omega
theorem sat_snoc (l:List UInt8) (c:UInt8):sat (l++[c])=min (10 * sat l+(c.toNat - 48)) 9007199254740993:=by
 unfold sat;rw [List.foldl_append];rfl
theorem dv_snoc (l:List UInt8) (c:UInt8):dv (l++[c])=10 * dv l+(c.toNat - 48):=by
 unfold dv;rw [List.foldl_append];rfl
theorem snoc_ind {p:List UInt8→Prop} (h0:p []) (h1:∀ l c,p l→p (l++[c])) (l:List UInt8):p l:=by
 have key:∀ r:List UInt8,p r.reverse:=fun r=>by
  induction r with
  | nil=>exact h0
  | cons c t ih=>rw [List.reverse_cons];exact h1 _ _ ih
 have:=key l.reverse
 rwa [List.reverse_reverse] at this
theorem sat_dv (l:List UInt8):sat l=min (dv l) 9007199254740993:=by
 induction l using snoc_ind with
 | h0=>rfl
 | h1 l c ih=>rw [sat_snoc,dv_snoc,ih];omega
theorem dec_small {m:Nat} (h:m<10):Lib.decDigits m=[UInt8.ofNat (48+m)]:=by rw [Lib.decDigits,dif_pos h]
theorem dec_big {m:Nat} (h:¬ m<10):Lib.decDigits m=Lib.decDigits (m / 10)++[UInt8.ofNat (48+m % 10)]:=by rw [Lib.decDigits,dif_neg h]
def bare (l:List UInt8):Prop:=1<l.length→l.head? ≠ some 48
theorem dv_foldl_pos (l:List UInt8) (a:Nat) (h:1≤a):1≤l.foldl (fun a c=>10 * a+(c.toNat - 48)) a:=by
 induction l generalizing a with
 | nil=>exact h
 | cons c t ih=>exact ih _ (by show 1≤10 * a+(c.toNat - 48);omega)
theorem dv_pos {l:List UInt8} (hn:l ≠ []) (ha:∀ c ∈ l,dg c=true) (hh:l.head? ≠ some 48):1≤dv l:=by
 cases l with
 | nil=>exact absurd rfl hn
 | cons c t =>
   have hc:48≤c.toNat∧c.toNat≤57:=of_decide_eq_true (ha c (by simp))
   have hne:c.toNat ≠ 48:=fun e=>hh (by
    have:c=48:=UInt8.toNat_inj.1 e
    rw [this];rfl)
   exact dv_foldl_pos t _ (by show 1≤10 * 0+(c.toNat - 48);omega)
theorem dec_of (l:List UInt8):l ≠ []→(∀ c ∈ l,dg c=true)→bare l→Lib.decDigits (dv l)=l:=by
 induction l using snoc_ind with
 | h0=>intro h;exact absurd rfl h
 | h1 l c ih =>
   intro _ ha hb
   have hc:48≤c.toNat∧c.toNat≤57:=of_decide_eq_true (ha c (by simp))
   have ec:∀ k,k=c.toNat - 48→UInt8.ofNat (48+k)=c:=fun k hk=>by
    have:48+k=c.toNat:=by omega
    rw [this];exact UInt8.toNat_inj.1 (u8_nat c.toNat_lt)
   rw [dv_snoc]
   by_cases hl:l=[]
   · subst hl
     show Lib.decDigits (10 * 0+(c.toNat - 48))=[c]
     rw [dec_small (by omega),ec _ (by omega)]
   · have hh:l.head? ≠ some 48:=by
      intro e
      refine hb (by simp;exact List.length_pos_iff.2 hl) ?_
      cases l with
      | nil=>exact absurd rfl hl
      | cons a t=>exact e
     have hp:=dv_pos hl (fun d hd=>ha d (by simp [hd])) hh
     rw [dec_big (by omega),show (10 * dv l+(c.toNat - 48)) / 10=dv l by omega,show (10 * dv l+(c.toNat - 48)) % 10=c.toNat - 48 by omega,ih hl (fun d hd=>ha d (by simp [hd])) (fun _=>hh),ec _ rfl]
def cd (l:List UInt8):Nat × Nat × Nat :=
 if l=[] then (0,0,2) else if tw l=0∨(1<tw l∧l.head? = some 48) then (0,0,6) else (sat (l.take (tw l)),tw l,0)
theorem take_tw (l:List UInt8):l.take (tw l)=l.takeWhile dg:=by
 induction l with
 | nil=>rfl
 | cons c t ih =>
   rw [tw_cons,List.takeWhile_cons]
   split
   · rw [List.take_succ_cons,ih]
   · rfl
theorem takeWhile_dg (l:List UInt8):∀ c ∈ l.takeWhile dg,dg c=true:=by
 induction l with
 | nil=>intro c hc;simp at hc
 | cons a t ih =>
   intro c hc
   rw [List.takeWhile_cons] at hc
   split at hc
   · rename_i h
     rcases List.mem_cons.1 hc with e | e
     · rw [e];exact h
     · exact ih c e
   · simp at hc
def noDigit (r:List UInt8):Prop:=∀ c,r.head? = some c→dg c=false
theorem tw_drop (l:List UInt8):noDigit (l.drop (tw l)):=by
 induction l with
 | nil=>intro c hc;simp at hc
 | cons a t ih =>
   rw [tw_cons]
   split
   · rw [List.drop_succ_cons];exact ih
   · rename_i h
     intro c hc
     obtain rfl:a=c:=by simpa using hc
     simpa using h
theorem cd_ok {l:List UInt8} {n z:Nat} (h:cd l=(n,z,0)):∃ m,n=min m 9007199254740993∧l=Lib.decDigits m++l.drop z∧z=(Lib.decDigits m).length∧noDigit (l.drop z):=by
 unfold cd at h
 split at h
 · simp at h
 · split at h
   · simp at h
   · rename_i h1 h2
     simp only [Prod.mk.injEq] at h
     obtain ⟨rfl,rfl,_⟩:=h
     have hz:tw l ≠ 0:=fun e=>h2 (.inl e)
     have hd:=dec_of (l.take (tw l)) (by
      intro e
      have:=congrArg List.length e
      rw [List.length_take] at this
      have h6:=tw_le l
      change min (tw l) l.length=0 at this
      omega) (by rw [take_tw];exact takeWhile_dg l) (by
      intro h3 h4
      have h5:1<tw l:=by rw [List.length_take] at h3;omega
      refine h2 (.inr ⟨h5,?_⟩)
      rw [List.head?_take] at h4
      rw [if_neg (by omega)] at h4;exact h4)
     refine ⟨dv (l.take (tw l)),sat_dv _,?_,?_,tw_drop l⟩
     · rw [hd,List.take_append_drop]
     · rw [hd,List.length_take];have:=tw_le l;omega
theorem cd_cases (l:List UInt8):(∃ n z,cd l=(n,z,0))∨∃ k,cd l=(0,0,k)∧0<k∧k≤24:=by
 unfold cd
 split
 · exact .inr ⟨2,rfl,by omega,by omega⟩
 · split
   · exact .inr ⟨6,rfl,by omega,by omega⟩
   · exact .inl ⟨_,_,rfl⟩
def cw (l:List UInt8):Int × Nat × Nat :=
 if l.head? = some 45 then
  (if (cd l.tail).2.2 ≠ 0 then (0,0,(cd l.tail).2.2) else if (cd l.tail).1=0 then (0,0,6) else (-((cd l.tail).1:Int),(cd l.tail).2.1+1,0))
 else (((cd l).1:Int),(cd l).2.1,(cd l).2.2)
def clamp (m:Int):Int:=max (-9007199254740993) (min m 9007199254740993)
theorem dg_ne {c:UInt8} (h:dg c=true):c ≠ 45∧c ≠ 58∧c ≠ 34:=by
 have:=of_decide_eq_true h
 refine ⟨?_,?_,?_⟩ <;> (rintro rfl;revert this;decide)
theorem cd_zero {l:List UInt8} {n z:Nat} (h:cd l=(n,z,0)):n≤9007199254740993∧z≤l.length:=by
 obtain ⟨m,rfl,h1,rfl,_⟩:=cd_ok h
 refine ⟨by omega,?_⟩
 have:=congrArg List.length h1
 rw [List.length_append] at this;omega
theorem cw_ok {l:List UInt8} {n:Int} {z:Nat} (h:cw l=(n,z,0)):∃ m,n=clamp m∧l=Lib.itoa m++l.drop z∧z=(Lib.itoa m).length∧noDigit (l.drop z):=by
 unfold cw at h
 split at h
 · rename_i h0
   cases l with
   | nil=>simp at h0
   | cons c t =>
     obtain rfl:c=45:=Option.some.inj h0
     rw [List.tail_cons] at h
     split at h
     · rename_i h1
       simp only [Prod.mk.injEq] at h
       exact absurd h.2.2 h1
     · rename_i h1
       split at h
       · simp at h
       · rename_i h2
         simp only [Prod.mk.injEq] at h
         obtain ⟨rfl,rfl,_⟩:=h
         obtain ⟨m,e1,e2,e3,e4⟩:=cd_ok (l:=t) (n:=(cd t).1) (z:=(cd t).2.1) (Prod.ext rfl (Prod.ext rfl (by simpa using h1)))
         have hm:1≤m:=by omega
         refine ⟨-(m:Int),?_,?_,?_,e4⟩
         · unfold clamp;omega
         · unfold Lib.itoa
           rw [if_pos (by omega),List.drop_succ_cons,show (-(m:Int)).natAbs=m by omega,List.cons_append,← e2]
         · unfold Lib.itoa
           rw [if_pos (by omega),show (-(m:Int)).natAbs=m by omega,List.length_cons,← e3]
 · simp only [Prod.mk.injEq] at h
   obtain ⟨rfl,rfl,h2⟩:=h
   obtain ⟨m,e1,e2,e3,e4⟩:=cd_ok (l:=l) (n:=(cd l).1) (z:=(cd l).2.1) (Prod.ext rfl (Prod.ext rfl h2))
   refine ⟨(m:Int),?_,?_,?_,e4⟩
   · unfold clamp;omega
   · unfold Lib.itoa;rw [if_neg (by omega)];exact e2
   · unfold Lib.itoa;rw [if_neg (by omega)];exact e3
theorem cw_cases (l:List UInt8):(∃ n z,cw l=(n,z,0)∧(-9007199254740993≤n∧n≤9007199254740993)∧z≤l.length)∨∃ k,cw l=(0,0,k)∧0<k∧k≤24:=by
 by_cases h:(cw l).2.2=0
 · left
   have e:cw l=((cw l).1,(cw l).2.1,0):=Prod.ext rfl (Prod.ext rfl h)
   obtain ⟨m,e1,e2,e3,_⟩:=cw_ok e
   refine ⟨_,_,e,?_,?_⟩
   · rw [e1];unfold clamp;omega
   · have:=congrArg List.length e2
     rw [List.length_append] at this;omega
 · right
   unfold cw at h ⊢
   split at h
   · rename_i h0
     rw [if_pos h0]
     rcases cd_cases l.tail with ⟨n,z,e⟩ | ⟨k,e,hk,hk'⟩
     · rw [e] at h ⊢
       rw [if_neg (by simp)] at h ⊢
       split at h
       · rename_i h2
         rw [if_pos h2];exact ⟨6,rfl,by omega,by omega⟩
       · exact absurd rfl h
     · rw [e]
       have hk2:((0,0,k):Nat × Nat × Nat).2.2 ≠ 0:=by show k ≠ 0;omega
       rw [if_pos hk2];exact ⟨k,rfl,hk,hk'⟩
   · rename_i h0
     rw [if_neg h0]
     rcases cd_cases l with ⟨n,z,e⟩ | ⟨k,e,hk,hk'⟩
     · rw [e] at h;exact absurd rfl h
     · rw [e];exact ⟨k,rfl,hk,hk'⟩
def vz:Va:=⟨0,0,[],0,0⟩
def cnum (l:List UInt8):Va × Nat × Nat :=
 if (cw l).2.2 ≠ 0 then (vz,0,(cw l).2.2)
 else if (l.drop (cw l).2.1).head? = some 58 then
  (if (cw (l.drop ((cw l).2.1+1))).2.2 ≠ 0 then (vz,0,(cw (l.drop ((cw l).2.1+1))).2.2)
   else if rt ⟨2,0,[],(cw l).1,(cw (l.drop ((cw l).2.1+1))).1⟩=true then (⟨2,0,[],(cw l).1,(cw (l.drop ((cw l).2.1+1))).1⟩,(cw l).2.1+1+(cw (l.drop ((cw l).2.1+1))).2.1,0)
   else (vz,0,14))
 else if rt ⟨0,(cw l).1,[],0,0⟩=true then (⟨0,(cw l).1,[],0,0⟩,(cw l).2.1,0) else (vz,0,14)
theorem clamp_in {m:Int} (h:-9007199254740992≤clamp m∧clamp m≤9007199254740992):clamp m=m:=by unfold clamp at *;omega
theorem clamp_of {m:Int} (h:-9007199254740992≤m∧m≤9007199254740992):clamp m=m:=by unfold clamp;omega
theorem rt_int_in {n x y:Int} {s:List UInt8} (h:rt ⟨0,n,s,x,y⟩=true):(-9007199254740992≤n∧n≤9007199254740992)∧s=[]∧x=0∧y=0:=by
 rcases rt_yes h with ⟨_,h1,h2,h3,h4,h5⟩ | ⟨h,_⟩ | ⟨h,_⟩
 · exact ⟨⟨h1,h2⟩,h3,h4,h5⟩
 · change (0:Int)=1 at h;omega
 · change (0:Int)=2 at h;omega
theorem rt_point_in {n x y:Int} {s:List UInt8} (h:rt ⟨2,n,s,x,y⟩=true):((-16777216≤x∧x≤16777216)∧(-16777216≤y∧y≤16777216))∧s=[]∧n=0:=by
 rcases rt_yes h with ⟨h,_⟩ | ⟨h,_⟩ | ⟨_,h1,h2,h3⟩
 · change (2:Int)=0 at h;omega
 · change (2:Int)=1 at h;omega
 · exact ⟨rb_xy h3,h2,h1⟩
theorem rt_text_in {n x y:Int} {s:List UInt8} (h:rt ⟨1,n,s,x,y⟩=true):s.length≤4096∧n=0∧x=0∧y=0:=by
 rcases rt_yes h with ⟨h,_⟩ | ⟨_,h1,h2,h3,h4⟩ | ⟨h,_⟩
 · change (1:Int)=0 at h;omega
 · exact ⟨h2,h1,h3,h4⟩
 · change (1:Int)=2 at h;omega
theorem cnum_ok {l:List UInt8} {v:Va} {z:Nat} (h:cnum l=(v,z,0)):rt v=true∧(v.k=0∨v.k=2)∧l=wr v++l.drop z∧z=(wr v).length∧noDigit (l.drop z)∧(v.k=0→(l.drop z).head? ≠ some 58):=by
 unfold cnum at h
 split at h
 · rename_i h0
   simp only [Prod.mk.injEq] at h
   exact absurd h.2.2 h0
 rename_i h0
 obtain ⟨m,e1,e2,e3,e4⟩:=cw_ok (l:=l) (n:=(cw l).1) (z:=(cw l).2.1) (Prod.ext rfl (Prod.ext rfl (by simpa using h0)))
 split at h
 · rename_i hc
   split at h
   · rename_i h1
     simp only [Prod.mk.injEq] at h
     exact absurd h.2.2 h1
   rename_i h1
   split at h
   · rename_i hr
     obtain ⟨m',f1,f2,f3,f4⟩:=cw_ok (l:=l.drop ((cw l).2.1+1)) (n:=(cw (l.drop ((cw l).2.1+1))).1) (z:=(cw (l.drop ((cw l).2.1+1))).2.1) (Prod.ext rfl (Prod.ext rfl (by simpa using h1)))
     simp only [Prod.mk.injEq] at h
     obtain ⟨rfl,rfl,_⟩:=h
     have hin:=(rt_point_in hr).1
     rw [e1] at hin
     rw [f1] at hin
     have g1:=clamp_in (m:=m) (by omega)
     have g2:=clamp_in (m:=m') (by omega)
     rw [g1] at e1;rw [g2] at f1
     rw [List.drop_drop] at f2 f4
     have ed:l.drop (cw l).2.1=58 :: l.drop ((cw l).2.1+1):=by
      cases hd:l.drop (cw l).2.1 with
      | nil=>rw [hd] at hc;simp at hc
      | cons a t =>
        rw [hd] at hc
        obtain rfl:a=58:=Option.some.inj hc
        rw [← List.drop_drop,hd];rfl
     refine ⟨hr,.inr rfl,?_,?_,f4,fun h=>absurd h (by show ¬ (2:Int)=0;decide)⟩
     · rw [wr_point,e1,f1]
       have:l=Lib.itoa m++(58 :: (Lib.itoa m'++l.drop ((cw l).2.1+1+(cw (l.drop ((cw l).2.1+1))).2.1))):=by rw [← f2,← ed,← e2]
       refine this.trans ?_
       simp
     · rw [wr_point,e1,f1,f3,e3];simp;omega
   · simp at h
 · rename_i hc
   split at h
   · rename_i hr
     simp only [Prod.mk.injEq] at h
     obtain ⟨rfl,rfl,_⟩:=h
     have hin:=(rt_int_in hr).1
     rw [e1] at hin
     have g1:=clamp_in hin
     rw [g1] at e1
     exact ⟨hr,.inl rfl,by rw [wr_int,e1];exact e2,by rw [wr_int,e1];exact e3,e4,fun _=>hc⟩
   · simp at h
def sixL:List UInt8:=[48,49,50,51,52,53,54,55,56,57,97,98,99,100,101,102]
def sv (c:UInt8):Int:=Lib.indexByte sixL c
theorem sv_all:∀ i:Fin 256,(sv (UInt8.ofNat i.val)=-1∨(0≤sv (UInt8.ofNat i.val)∧sv (UInt8.ofNat i.val)<16∧hx (sv (UInt8.ofNat i.val)).toNat=UInt8.ofNat i.val)):=by decide +kernel
theorem of_toNat (c:UInt8):UInt8.ofNat c.toNat=c:=UInt8.toNat_inj.1 (u8_nat c.toNat_lt)
theorem sv_cases (c:UInt8):sv c=-1∨∃ n:Nat,n<16∧sv c=(n:Int)∧hx n=c:=by
 have h:=sv_all ⟨c.toNat,c.toNat_lt⟩
 simp only [of_toNat] at h
 rcases h with h | ⟨h1,h2,h3⟩
 · exact .inl h
 · exact .inr ⟨(sv c).toNat,by omega,by omega,h3⟩
theorem pl_ne {c:UInt8} (h:pl c=true):c ≠ 34∧c ≠ 92:=by
 refine ⟨?_,?_⟩ <;> (rintro rfl;revert h;decide)
def cb3 (n:Nat):List UInt8→UInt8 × Nat × Nat
 | []=>(0,0,2)
 | b :: _=>if sv b<0 then (0,0,6) else if pl (UInt8.ofNat (16 * n+(sv b).toNat))=true then (0,0,6) else (UInt8.ofNat (16 * n+(sv b).toNat),3,0)
def cb2:List UInt8→UInt8 × Nat × Nat
 | []=>(0,0,2)
 | a :: u=>if sv a<0 then (0,0,6) else cb3 (sv a).toNat u
def cb:List UInt8→UInt8 × Nat × Nat
 | []=>(0,0,2)
 | c :: t=>if pl c=true then (c,1,0) else if c ≠ 92 then (0,0,6) else cb2 t
theorem cb_cons (c:UInt8) (t:List UInt8):cb (c :: t)=if pl c=true then (c,1,0) else if c ≠ 92 then (0,0,6) else cb2 t:=rfl
theorem cb2_cons (a:UInt8) (u:List UInt8):cb2 (a :: u)=if sv a<0 then (0,0,6) else cb3 (sv a).toNat u:=rfl
theorem cb3_cons (n:Nat) (b:UInt8) (v:List UInt8):cb3 n (b :: v)=if sv b<0 then (0,0,6) else if pl (UInt8.ofNat (16 * n+(sv b).toNat))=true then (0,0,6) else (UInt8.ofNat (16 * n+(sv b).toNat),3,0):=rfl
theorem cb_plain {c:UInt8} (t:List UInt8) (h:pl c=true):cb (c :: t)=(c,1,0):=if_pos h
theorem cb_form {c:UInt8} (t:List UInt8) (h:pl c=false) (h2:c ≠ 92):cb (c :: t)=(0,0,6):=by rw [cb_cons,h,if_neg (by decide),if_pos h2]
theorem cb_esc (t:List UInt8):cb (92 :: t)=cb2 t:=by rw [cb_cons,if_neg (by decide),if_neg (fun h=>h rfl)]
theorem cb_ok {l:List UInt8} {c:UInt8} {z:Nat} (h:cb l=(c,z,0)):l=e1 c++l.drop z∧z=(e1 c).length∧l ≠ []∧l.head? ≠ some 34:=by
 cases l with
 | nil=>simp [cb] at h
 | cons d t =>
   by_cases hp:pl d=true
   · rw [cb_plain t hp] at h
     simp only [Prod.mk.injEq] at h
     obtain ⟨rfl,rfl,_⟩:=h
     have e:e1 d=[d]:=if_pos hp
     rw [e]
     exact ⟨rfl,rfl,by simp,fun h=>(pl_ne hp).1 (Option.some.inj h)⟩
   · have hp':pl d=false:=by simpa using hp
     by_cases h92:d=92
     · subst h92
       rw [cb_esc] at h
       cases t with
       | nil=>simp [cb2] at h
       | cons a u =>
         rw [cb2_cons] at h
         split at h
         · simp at h
         · rename_i ha
           cases u with
           | nil=>simp [cb3] at h
           | cons b v =>
             rw [cb3_cons] at h
             split at h
             · simp at h
             · rename_i hb
               split at h
               · simp at h
               · rename_i hq
                 simp only [Prod.mk.injEq] at h
                 obtain ⟨hc,rfl,_⟩:=h
                 rcases sv_cases a with ea | ⟨n,hn,ea,en⟩
                 · omega
                 rcases sv_cases b with eb | ⟨m,hm,eb,em⟩
                 · omega
                 rw [ea,eb,Int.toNat_natCast,Int.toNat_natCast] at hc hq
                 rw [hc] at hq
                 have hct:c.toNat=16 * n+m:=by rw [← hc,u8_nat (by omega)]
                 have e:e1 c=[92,a,b]:=by
                  unfold e1;rw [if_neg hq,show c.toNat / 16=n by omega,show c.toNat % 16=m by omega,en,em]
                 rw [e]
                 exact ⟨rfl,rfl,by simp,fun h=>absurd (Option.some.inj h) (by decide)⟩
     · rw [cb_form t hp' h92] at h;simp at h
theorem cb_cases (l:List UInt8):(∃ c z,cb l=(c,z,0)∧1≤z∧z≤l.length)∨∃ k,cb l=(0,0,k)∧0<k∧k≤24:=by
 cases l with
 | nil=>exact .inr ⟨2,rfl,by omega,by omega⟩
 | cons c t =>
   rw [cb_cons]
   split
   · exact .inl ⟨_,_,rfl,by omega,by simp⟩
   split
   · exact .inr ⟨6,rfl,by omega,by omega⟩
   cases t with
   | nil=>exact .inr ⟨2,rfl,by omega,by omega⟩
   | cons a u =>
     rw [cb2_cons]
     split
     · exact .inr ⟨6,rfl,by omega,by omega⟩
     cases u with
     | nil=>exact .inr ⟨2,rfl,by omega,by omega⟩
     | cons b v =>
       rw [cb3_cons]
       split
       · exact .inr ⟨6,rfl,by omega,by omega⟩
       split
       · exact .inr ⟨6,rfl,by omega,by omega⟩
       · exact .inl ⟨_,_,rfl,by omega,by simp⟩
def ct:List UInt8→List UInt8 × Nat × Nat
 | []=>([],0,2)
 | c :: t=>if c=34 then ([],1,0) else if (cb (c :: t)).2.2 ≠ 0 then ([],0,(cb (c :: t)).2.2) else
   if (ct (t.drop ((cb (c :: t)).2.1 - 1))).2.2 ≠ 0 then ([],0,(ct (t.drop ((cb (c :: t)).2.1 - 1))).2.2)
   else ((cb (c :: t)).1 :: (ct (t.drop ((cb (c :: t)).2.1 - 1))).1,(cb (c :: t)).2.1+(ct (t.drop ((cb (c :: t)).2.1 - 1))).2.1,0)
termination_by l=>l.length
decreasing_by all_goals (simp;omega)
def pre (a:List UInt8) (k:Nat) (r:List UInt8 × Nat × Nat):List UInt8 × Nat × Nat:=if r.2.2 ≠ 0 then ([],0,r.2.2) else (a++r.1,k+r.2.1,0)
theorem ct_nil:ct []=([],0,2):=by rw [ct]
theorem ct_quote (t:List UInt8):ct (34 :: t)=([],1,0):=by rw [ct,if_pos rfl]
theorem ct_bad {l:List UInt8} {k:Nat} (hn:l ≠ []) (hh:l.head? ≠ some 34) (h:cb l=(0,0,k)) (hk:0<k):ct l=([],0,k):=by
 cases l with
 | nil=>exact absurd rfl hn
 | cons c t =>
   rw [ct,if_neg (fun e=>hh (by rw [e];rfl)),h]
   exact if_pos (by show k ≠ 0;omega)
theorem ct_step {l:List UInt8} {c:UInt8} {z:Nat} (hh:l.head? ≠ some 34) (h:cb l=(c,z,0)) (hz:1≤z):ct l=pre [c] z (ct (l.drop z)):=by
 cases l with
 | nil=>simp [cb] at h
 | cons d t =>
   have e:(d :: t).drop z=t.drop (z - 1):=by
    obtain ⟨y,rfl⟩:∃ y,z=y+1:=⟨z - 1,by omega⟩
    rfl
   rw [ct,if_neg (fun e=>hh (by rw [e];rfl)),h,e]
   exact if_neg (fun h=>h rfl)
theorem pre_pre (a b:List UInt8) (i j:Nat) (r:List UInt8 × Nat × Nat):pre a i (pre b j r)=pre (a++b) (i+j) r:=by
 unfold pre
 by_cases h:r.2.2 ≠ 0
 · rw [if_pos h,if_pos h,if_pos h]
 · rw [if_neg h,if_neg h,if_neg (fun h=>h rfl)]
   simp [Nat.add_assoc]
theorem pre_nil {r:List UInt8 × Nat × Nat} (h:r.2.2=0∨(r.1=[]∧r.2.1=0)):pre [] 0 r=r:=by
 unfold pre
 by_cases h1:r.2.2 ≠ 0
 · rw [if_pos h1]
   rcases h with h | ⟨h2,h3⟩
   · exact absurd h h1
   · exact Prod.ext h2.symm (Prod.ext h3.symm rfl)
 · rw [if_neg h1]
   exact Prod.ext (by simp) (Prod.ext (by simp) (by simpa using (Decidable.not_not.1 h1).symm))
theorem ct_norm (l:List UInt8):(ct l).2.2=0∨((ct l).1=[]∧(ct l).2.1=0):=by
 cases l with
 | nil=>rw [ct_nil];exact .inr ⟨rfl,rfl⟩
 | cons c t =>
   rw [ct]
   split
   · exact .inl rfl
   split
   · exact .inr ⟨rfl,rfl⟩
   split
   · exact .inr ⟨rfl,rfl⟩
   · exact .inl rfl
theorem ct_ok (n:Nat):∀ {l s:List UInt8} {z:Nat},l.length≤n→ct l=(s,z,0)→l=esc s++34 :: l.drop z∧z=(esc s).length+1:=by
 induction n with
 | zero =>
   intro l s z hl h
   have:l=[]:=List.eq_nil_of_length_eq_zero (by omega)
   subst this;rw [ct_nil] at h;simp at h
 | succ n ih =>
   intro l s z hl h
   cases l with
   | nil=>rw [ct_nil] at h;simp at h
   | cons c t =>
     by_cases hq:c=34
     · subst hq
       rw [ct_quote] at h
       simp only [Prod.mk.injEq] at h
       obtain ⟨rfl,rfl,_⟩:=h
       exact ⟨rfl,rfl⟩
     · have hh:(c :: t).head? ≠ some 34:=fun e=>hq (Option.some.inj e)
       rcases cb_cases (c :: t) with ⟨d,y,e,hy,hy2⟩ | ⟨k,e,hk,_⟩
       · rw [ct_step hh e hy] at h
         unfold pre at h
         split at h
         · rename_i hr
           simp only [Prod.mk.injEq] at h
           exact absurd h.2.2 hr
         · rename_i hr
           simp only [Prod.mk.injEq] at h
           obtain ⟨rfl,rfl,_⟩:=h
           obtain ⟨e1',e2',_,_⟩:=cb_ok e
           have hl2:((c :: t).drop y).length≤n:=by rw [List.length_drop];omega
           obtain ⟨g1,g2⟩:=ih hl2 (Prod.ext rfl (Prod.ext rfl (Decidable.not_not.1 hr)))
           rw [List.drop_drop] at g1
           refine ⟨?_,?_⟩
           · have:c :: t=e1 d++(esc (ct ((c :: t).drop y)).1++34 :: (c :: t).drop (y+(ct ((c :: t).drop y)).2.1)):=by rw [← g1,← e1']
             refine this.trans ?_
             rw [List.singleton_append,esc_cons,List.append_assoc]
           · have g3:(ct ((c :: t).drop y)).2.1=(esc (ct ((c :: t).drop y)).1).length+1:=g2
             rw [List.singleton_append,esc_cons,List.length_append,← e2',g3,Nat.add_assoc]
       · rw [ct_bad (by simp) hh e hk] at h
         simp only [Prod.mk.injEq] at h
         omega
def ctx (l:List UInt8):Va × Nat × Nat :=
 if (ct l.tail).2.2 ≠ 0 then (vz,0,(ct l.tail).2.2) else if 4096<(ct l.tail).1.length then (vz,0,3) else (⟨1,0,(ct l.tail).1,0,0⟩,(ct l.tail).2.1+1,0)
theorem ctx_ok {l:List UInt8} {v:Va} {z:Nat} (h:ctx l=(v,z,0)) (hh:l.head? = some 34):rt v=true∧v.k=1∧l=wr v++l.drop z∧z=(wr v).length:=by
 cases l with
 | nil=>simp at hh
 | cons c t =>
   obtain rfl:c=34:=Option.some.inj hh
   unfold ctx at h
   rw [List.tail_cons] at h
   split at h
   · rename_i hr
     simp only [Prod.mk.injEq] at h
     exact absurd h.2.2 hr
   rename_i hr
   split at h
   · simp at h
   rename_i hl
   simp only [Prod.mk.injEq] at h
   obtain ⟨rfl,rfl,_⟩:=h
   obtain ⟨g1,g2⟩:=ct_ok t.length (Nat.le_refl _) (show ct t=((ct t).1,(ct t).2.1,0) from Prod.ext rfl (Prod.ext rfl (Decidable.not_not.1 hr)))
   refine ⟨decide_eq_true (.inr (.inl ⟨rfl,rfl,by show (ct t).1.length≤4096;omega,rfl,rfl⟩)),rfl,?_,?_⟩
   · rw [wr_text,List.drop_succ_cons]
     have:34 :: t=34 :: (esc (ct t).1++34 :: t.drop (ct t).2.1):=by rw [← g1]
     refine this.trans ?_
     simp
   · rw [wr_text,g2];simp
def pz (l:List UInt8):Va × Nat × Nat :=
 if l.head? = some 34 then ctx l else if l.head? = some 45∨(∃ c,l.head? = some c∧dg c=true) then cnum l else (vz,0,10)
def ends (v:Va) (r:List UInt8):Prop:=v.k ≠ 1→noDigit r∧(v.k=0→r.head? ≠ some 58)
theorem pz_ok {l:List UInt8} {v:Va} {z:Nat} (h:pz l=(v,z,0)):rt v=true∧l=wr v++l.drop z∧z=(wr v).length∧ends v (l.drop z):=by
 unfold pz at h
 split at h
 · rename_i hh
   obtain ⟨g1,g2,g3,g4⟩:=ctx_ok h hh
   exact ⟨g1,g3,g4,fun h=>absurd g2 h⟩
 · split at h
   · obtain ⟨g1,_,g3,g4,g5,g6⟩:=cnum_ok h
     exact ⟨g1,g3,g4,fun _=>⟨g5,g6⟩⟩
   · simp at h
end Go.Proofs.YtgakcpcpfkoaiaaGreatDoor.Va
namespace Go.Proofs.YtgakcpcpfkoaiaaGreatDoor.Ex
open Ov Tp Ga Va
structure No where
 o:Int
 v:Va
 deriving DecidableEq
def wdl:List (List UInt8):=[[],[],[97,100,100],[115,117,98],[109,117,108],[100,105,118],[109,111,100],[110,101,103],[108,101,115,115],[115,97,109,101],[110,111,116],[105,102],[109,97,120],[109,105,110],[99,97,116],[108,101,110],[99,117,116],[119,111,114,100],[119,111,114,100,115],[110,117,109],[116,101,120,116],[97,116],[114,101],[105,109],[110,111,114,109],[99,111,110,106],[101,109,105,116],[116,104,101,110],[101,97,99,104],[108,101,116]]
def ptl:List Nat:=[0,0,2,2,2,2,2,1,2,2,1,3,2,2,2,1,3,2,1,1,1,2,1,1,1,1,2,2,2,2]
def nml:List (List UInt8):=[[107,101,121],[118,97,108],[97,99,99],[105],[105,116]]
def wd (o:Int):List UInt8:=if 0≤o then (wdl[o.toNat]?).getD [] else []
def pa (o:Int):Nat:=if 0≤o then (ptl[o.toNat]?).getD 0 else 0
def nm (n:Int):List UInt8:=if 0≤n then (nml[n.toNat]?).getD [] else []
theorem kinds_all:∀ i:Fin 30,2≤i.val→(1≤ptl[i.val]!∧ptl[i.val]!≤3∧1≤wdl[i.val]!.length∧wdl[i.val]!.length≤5)∧wdl[i.val]! ≠ []:=by decide +kernel
theorem wd_at {i:Nat} (h:i<30):wd (i:Int)=wdl[i]!:=by
 unfold wd
 rw [if_pos (by omega),Int.toNat_natCast,List.getElem!_eq_getElem?_getD];rfl
theorem pa_at {i:Nat} (h:i<30):pa (i:Int)=ptl[i]!:=by
 unfold pa
 rw [if_pos (by omega),Int.toNat_natCast,List.getElem!_eq_getElem?_getD];rfl
theorem kind_in {o:Int} (h:2≤o∧o≤29):(1≤pa o∧pa o≤3)∧1≤(wd o).length∧(wd o).length≤5:=by
 obtain ⟨i,rfl⟩:∃ i:Nat,o=(i:Int):=⟨o.toNat,by omega⟩
 have hi:i<30:=by omega
 have:=(kinds_all ⟨i,hi⟩ (by show 2≤i;omega)).1
 rw [wd_at hi,pa_at hi]
 exact ⟨⟨this.1,this.2.1⟩,this.2.2.1,this.2.2.2⟩
theorem kind_out {o:Int} (h:o<2∨30≤o):wd o=[]∧pa o=0:=by
 unfold wd pa
 by_cases h0:0≤o
 · rw [if_pos h0,if_pos h0]
   rcases h with h | h
   · have:o=0∨o=1:=by omega
     rcases this with rfl | rfl <;> exact ⟨rfl,rfl⟩
   · obtain ⟨i,rfl⟩:∃ i:Nat,o=(i:Int):=⟨o.toNat,by omega⟩
     rw [Int.toNat_natCast,List.getElem?_eq_none (by show 30≤i;omega),List.getElem?_eq_none (by show 30≤i;omega)]
     exact ⟨rfl,rfl⟩
 · rw [if_neg h0,if_neg h0];exact ⟨rfl,rfl⟩
theorem pa_le (o:Int):pa o≤3:=by
 by_cases h:2≤o∧o≤29
 · exact (kind_in h).1.2
 · rw [(kind_out (by omega)).2];omega
def nv (n:Int):Va:=⟨0,n,[],0,0⟩
def rn (n:No):Bool:=if n.o=0 then rt n.v else if n.o=1 then decide (n.v=nv n.v.n∧0≤n.v.n∧n.v.n<5) else decide ((2≤n.o∧n.o≤29)∧n.v=vz)
theorem rn_cases {n:No} (h:rn n=true):(n.o=0∧rt n.v=true)∨(n.o=1∧n.v=nv n.v.n∧0≤n.v.n∧n.v.n<5)∨((2≤n.o∧n.o≤29)∧n.v=vz):=by
 unfold rn at h
 split at h
 · exact .inl ⟨‹_›,h⟩
 split at h
 · exact .inr (.inl ⟨‹_›,of_decide_eq_true h⟩)
 · exact .inr (.inr (of_decide_eq_true h))
theorem rn_leaf {n:No} (h:n.o=0∨n.o=1):pa n.o=0:=(kind_out (by omega)).2
def it (f:List No→Option (List No)):Nat→List No→Option (List No)
 | 0,r=>some r
 | k+1,r=>(f r).bind (it f k)
def ex:Nat→List No→Option (List No)
 | 0,_=>none
 | _+1,[]=>none
 | d+1,n :: r=>if rn n=true then it (ex d) (pa n.o) r else none
theorem ex_nil (d:Nat):ex d []=none:=by cases d <;> rfl
theorem ex_cons (d:Nat) (n:No) (r:List No):ex (d+1) (n :: r)=if rn n=true then it (ex d) (pa n.o) r else none:=rfl
theorem it_zero (f:List No→Option (List No)) (r:List No):it f 0 r=some r:=rfl
theorem it_succ (f:List No→Option (List No)) (k:Nat) (r:List No):it f (k+1) r=(f r).bind (it f k):=rfl
def Rt (l:List No):Bool:=decide (l.length≤400∧ex 25 l=some [])
theorem Rt_in {l:List No} (h:Rt l=true):l.length≤400∧ex 25 l=some []:=of_decide_eq_true h
def ts (f:List No→List UInt8) (g:List No→Option (List No)):Nat→List No→List UInt8
 | 0,_=>[]
 | k+1,r=>32 :: (f r++(match g r with | some r'=>ts f g k r' | none=>[]))
def wt:Nat→List No→List UInt8
 | 0,_=>[]
 | _+1,[]=>[]
 | d+1,n :: r=>if n.o=0 then wr n.v else if n.o=1 then nm n.v.n else 40 :: (wd n.o++(ts (wt d) (ex d) (pa n.o) r++[41]))
def Takes (f:List No→Option (List No)):Prop:=∀ l r,f l=some r→∃ c,l=c++r∧c ≠ []∧∀ r2,f (c++r2)=some r2
theorem it_takes {f:List No→Option (List No)} (hf:Takes f):∀ k l r,it f k l=some r→∃ c,l=c++r∧k≤c.length∧∀ r2,it f k (c++r2)=some r2
 | 0,l,r,h=>⟨[],by rw [it_zero] at h;exact Option.some.inj h,Nat.le_refl 0,fun r2=>rfl⟩
 | k+1,l,r,h=>by
   rw [it_succ] at h
   obtain ⟨r1,h1,h2⟩:=Option.bind_eq_some_iff.1 h
   obtain ⟨c,rfl,hn,hc⟩:=hf _ _ h1
   obtain ⟨c2,rfl,hk,hc2⟩:=it_takes hf k _ _ h2
   refine ⟨c++c2,by rw [List.append_assoc],?_,fun r2=>?_⟩
   · have:0<c.length:=List.length_pos_iff.2 hn
     rw [List.length_append];omega
   · rw [List.append_assoc,it_succ,hc];exact hc2 r2
theorem ex_takes:∀ d,Takes (ex d)
 | 0=>fun l r h=>by cases h
 | d+1=>fun l r h=>by
   cases l with
   | nil=>cases h
   | cons n t =>
     rw [ex_cons] at h
     split at h
     · rename_i hn
       obtain ⟨c,rfl,_,hc⟩:=it_takes (ex_takes d) _ _ _ h
       exact ⟨n :: c,rfl,by simp,fun r2=>by rw [List.cons_append,ex_cons,if_pos hn];exact hc r2⟩
     · cases h
theorem ex_len {d:Nat} {l r:List No} (h:ex d l=some r):r.length<l.length∧r=l.drop (l.length - r.length):=by
 obtain ⟨c,rfl,hn,_⟩:=ex_takes d l r h
 have:0<c.length:=List.length_pos_iff.2 hn
 refine ⟨by rw [List.length_append];omega,?_⟩
 rw [List.length_append,show c.length+r.length - r.length=c.length by omega,List.drop_left]
theorem it_mono {f g:List No→Option (List No)} (h:∀ l r,f l=some r→g l=some r):∀ k l r,it f k l=some r→it g k l=some r
 | 0,_,_,e=>e
 | k+1,l,r,e=>by
   rw [it_succ] at e ⊢
   obtain ⟨r1,h1,h2⟩:=Option.bind_eq_some_iff.1 e
   rw [h _ _ h1];exact it_mono h k _ _ h2
theorem ex_mono:∀ d l r,ex d l=some r→ex (d+1) l=some r
 | 0,_,_,h=>by cases h
 | d+1,l,r,h=>by
   cases l with
   | nil=>cases h
   | cons n t =>
     rw [ex_cons] at h ⊢
     split at h
     · rename_i hn
       rw [if_pos hn];exact it_mono (ex_mono d) _ _ _ h
     · cases h
theorem ex_more {d e:Nat} {l r:List No} (h:ex d l=some r) (hd:d≤e):ex e l=some r:=by
 obtain ⟨k,rfl⟩:∃ k,e=d+k:=⟨e - d,by omega⟩
 clear hd
 induction k with
 | zero=>exact h
 | succ k ih=>exact ex_mono _ _ _ ih
theorem it_each {f:List No→Option (List No)} (hf:Takes f) (hi:∀ l r,f l=some r→∀ j,j<l.length - r.length→∃ r',f (l.drop j)=some r') :
 ∀ k l r,it f k l=some r→∀ j,j<l.length - r.length→∃ r',f (l.drop j)=some r'
 | 0,l,r,h,j,hj=>by
   rw [it_zero] at h
   obtain rfl:=Option.some.inj h
   omega
 | k+1,l,r,h,j,hj=>by
   rw [it_succ] at h
   obtain ⟨r1,h1,h2⟩:=Option.bind_eq_some_iff.1 h
   by_cases hlt:j<l.length - r1.length
   · exact hi _ _ h1 j hlt
   · obtain ⟨c,rfl,_,_⟩:=hf _ _ h1
     rw [List.length_append] at hj hlt
     obtain ⟨r',h'⟩:=it_each hf hi k r1 r h2 (j - c.length) (by omega)
     refine ⟨r',?_⟩
     rw [List.drop_append,List.drop_of_length_le (show c.length≤j by omega)];exact h'
theorem ex_each:∀ d l r,ex d l=some r→∀ j,j<l.length - r.length→∃ r',ex d (l.drop j)=some r'
 | 0,_,_,h,_,_=>by cases h
 | d+1,l,r,h,j,hj=>by
   cases l with
   | nil=>cases h
   | cons n t =>
     cases j with
     | zero=>exact ⟨r,h⟩
     | succ j =>
       rw [ex_cons] at h
       split at h
       · obtain ⟨r',h'⟩:=it_each (ex_takes d) (ex_each d) _ _ _ h j (by simp at hj;omega)
         exact ⟨r',ex_mono _ _ _ h'⟩
       · cases h
def nz:No:=⟨0,vz⟩
def bl:List UInt8→Nat
 | []=>0
 | c :: t=>if c=32 then bl t+1 else 0
def sh:List UInt8→Nat
 | []=>2
 | c :: _=>if c=41 then 0 else 12
def le (c:UInt8):Bool:=decide (97≤c.toNat∧c.toNat≤122)
def fl (t:List UInt8):List UInt8:=t.takeWhile le
def isK (w:List UInt8) (i:Nat):Bool:=decide (2≤i∧wdl[i]! = w)
def isN (w:List UInt8) (i:Nat):Bool:=decide (nml[i]! = w)
def kf (w:List UInt8):Option Nat:=(List.range 30).find? (isK w)
def nf (w:List UInt8):Option Nat:=(List.range 5).find? (isN w)
def ck (t:List UInt8):No × Nat × Nat:=match kf (fl t.tail) with
 | none=>(nz,1,10)
 | some i=>(⟨(i:Int),vz⟩,1+(fl t.tail).length,0)
def cn (t:List UInt8):No × Nat × Nat:=match nf (fl t) with
 | none=>(nz,0,10)
 | some i=>(⟨1,nv (i:Int)⟩,(fl t).length,0)
def cv (t:List UInt8):No × Nat × Nat:=if (pz t).2.2=10 then cn t else if (pz t).2.2 ≠ 0 then (nz,0,(pz t).2.2) else (⟨0,(pz t).1⟩,(pz t).2.1,0)
def cp (t:List UInt8) (b w:Nat):No × Nat × Nat :=
 if t=[] then (nz,0,2) else if b=400 then (nz,0,22) else if 24<w then (nz,0,23) else if 0<w∧t.head? = some 41 then (nz,0,12) else if t.head? = some 40 then ck t else cv t
structure St where
 a:List No
 st:List Nat
 t:List UInt8
 i:Nat
def push (n:No) (m:Nat) (more:List Nat):List Nat:=if 0<pa n.o then pa n.o :: m :: more else m :: more
def step (s:St):Sum St (List No × Nat × Nat) :=
 match s.st with
 | []=>.inr ([],s.i+bl s.t,10)
 | m :: more =>
   if 0<m then
    if (cp (s.t.drop (bl s.t)) s.a.length more.length).2.2 ≠ 0 then .inr ([],s.i+bl s.t+(cp (s.t.drop (bl s.t)) s.a.length more.length).2.1,(cp (s.t.drop (bl s.t)) s.a.length more.length).2.2)
    else .inl ⟨s.a++[(cp (s.t.drop (bl s.t)) s.a.length more.length).1],push (cp (s.t.drop (bl s.t)) s.a.length more.length).1 (m - 1) more,(s.t.drop (bl s.t)).drop (cp (s.t.drop (bl s.t)) s.a.length more.length).2.1,s.i+bl s.t+(cp (s.t.drop (bl s.t)) s.a.length more.length).2.1⟩
   else if more ≠ [] then
    if sh (s.t.drop (bl s.t)) ≠ 0 then .inr ([],s.i+bl s.t,sh (s.t.drop (bl s.t))) else .inl ⟨s.a,more,(s.t.drop (bl s.t)).drop 1,s.i+bl s.t+1⟩
   else if s.t.drop (bl s.t) ≠ [] then .inr ([],s.i+bl s.t,10) else .inr (s.a,0,0)
def run:Nat→St→List No × Nat × Nat
 | 0,_=>([],0,0)
 | f+1,s=>match step s with
   | .inr r=>r
   | .inl s'=>run f s'
def runs (s:St):List No × Nat × Nat:=run (s.t.length+1) s
def ps (s:List UInt8):List No × Nat × Nat:=if 4096<s.length then ([],0,3) else runs ⟨[],[1],s,0⟩
section
variable {l:List UInt8} {acc:List No} {m k b z e:Nat} {more:List Nat} {n:No}
end
def fin:List Nat→List No→Option (List No)
 | [],y=>some y
 | m :: more,y=>(it (ex (25 - more.length)) m y).bind (fin more)
end Go.Proofs.YtgakcpcpfkoaiaaGreatDoor.Ex
namespace Go.Proofs.YtgakcpcpfkoaiaaGreatDoor.Ex
open Go.ChangeShapes Go.WideShapes Go.ChangeAt Go.RowKit Ov Va
def kindsData:DataW Unit:=.agg ((List.range 30).map fun i=>.agg [.lit (.string wdl[i]!),.lit (.int .i64 ((ptl[i]!:Nat):Int))])
structure KN (w:World):Prop where
 word:∀ i,i<30→w.cell? ⟨0,2 * i,none⟩=some (.string (tx wdl[i]!))
 parts:∀ i,i<30→w.cell? ⟨0,2 * i+1,none⟩=some (.int .i64 ((ptl[i]!:Nat):Int))
theorem KN.next {w w':World} (h:KN w) (k:Below w.heap.size w w'):KN w':=by
 have h1:=block_lt_of_cell (h.word 0 (by omega))
 exact ⟨fun i hi=>(k.cell (p:=⟨0,2 * i,none⟩) h1).trans (h.word i hi),fun i hi=>(k.cell (p:=⟨0,2 * i+1,none⟩) h1).trans (h.parts i hi)⟩
theorem text_eq {s:ByteArray} {l:List UInt8} (h:s.data.toList=l):s=tx l:=tx_ext h
theorem at_take {cs:List Value} {i:Nat} {v:Value} (h:(cs.drop i).take 1=[v]):cs[i]? = some v:=by
 have:=congrArg (·[0]?) h
 simpa [List.getElem?_take,List.getElem?_drop] using this
theorem kinds_met {w : World} {l : List (String × DataW Unit)} {d : DataW Unit} (hd : d = kindsData) (hm : ("stook/expr.kinds", d) ∈ l) (h : laidMet Tryz.prog l w) :
 (∀ i,i<30→w.cell? ⟨0,2 * i,none⟩=some (.string (tx wdl[i]!)))∧∀ i,i<30→w.cell? ⟨0,2 * i+1,none⟩=some (.int .i64 ((ptl[i]!:Nat):Int)):=by
 obtain ⟨_,hv,_⟩:=h
 obtain ⟨g,t,cs,fuel,p,hg,ht,hvar,hr⟩:=laid_reads hv _ d hm
 obtain rfl := Option.some.inj ((show Tryz.prog.globalNamed "stook/expr.kinds" = some 0 by kernel_rfl).symm.trans hg)
 obtain rfl:=Option.some.inj ((show (Tryz.prog.globals[0]?).map (·.type)=some 134 by kernel_rfl).symm.trans ht)
 have hcell := World.var?_cell (show Tryz.prog.globalNamed "stook/expr.kinds" = some 0 by kernel_rfl) hvar
 have cK:Tryz.prog.cellsOf 133=2:=by kernel_rfl
 have c1:Tryz.prog.cellsOf 9=1:=by kernel_rfl
 have c2:Tryz.prog.cellsOf 3=1:=by kernel_rfl
 obtain ⟨xs,m,_,hx,hlen,hxl,hi⟩:=DataW.trod_array Tryz.underlying134 hr
 rw [hd] at hx
 simp only [Prod.mk.injEq] at hx
 have hxs:xs.map (·.1)=(List.range 30).map fun i=>(DataW.agg [.lit (.string wdl[i]!),.lit (.int .i64 ((ptl[i]!:Nat):Int))]:DataW Unit):=by
  have:=hx.1
  unfold kindsData at this
  injection this with this
  exact this.symm
 have key:∀ i,i<30→cs.toList[2 * i]? = some (.string (tx wdl[i]!))∧cs.toList[2 * i+1]? = some (.int .i64 ((ptl[i]!:Nat):Int)):=by
  intro i hlt
  have h1:=hi i hlt
  rw [cK] at h1
  have h2:xs[i]? = some (xs[i]'(by omega)):=List.getElem?_eq_getElem (by omega)
  rw [h2] at h1
  have h3:(xs[i]'(by omega)).1=.agg [.lit (.string wdl[i]!),.lit (.int .i64 ((ptl[i]!:Nat):Int))]:=by
   have:=congrArg (·[i]?) hxs
   simp only [List.getElem?_map,h2,Option.map_some] at this
   rw [List.getElem?_range hlt] at this
   exact Option.some.inj this
  obtain ⟨y0,y1,m',hy,_,g0,g1⟩:=trod_struct2 Tryz.underlying133 h1
  simp only [c1,c2] at g0 g1
  obtain ⟨s,e0,rfl,_⟩:=DataW.trod_string Tryz.underlying9 g0
  obtain ⟨n,e1,rfl,_⟩:=DataW.trod_int Tryz.underlying3 g1
  rw [hy] at h3
  simp only [DataW.agg.injEq,List.cons.injEq,DataW.lit.injEq,Lit.string.injEq,Lit.int.injEq,and_true,true_and] at h3
  obtain ⟨hs,hn⟩:=h3
  have f0:=at_take (cs:=(cs.toList.drop (i * 2)).take 2) e0
  have f1:=at_take (cs:=(cs.toList.drop (i * 2)).take 2) e1
  rw [text_eq hs] at f0
  rw [hn] at f1
  rw [List.getElem?_take,List.getElem?_drop] at f0 f1
  rw [show 2 * i=i * 2+0 by omega,show i * 2+0+1=i * 2+1 by omega]
  exact ⟨by simpa using f0,by simpa using f1⟩
 exact ⟨fun i hlt=>by rw [hcell,← Array.getElem?_toList];exact (key i hlt).1,fun i hlt=>by rw [hcell,← Array.getElem?_toList];exact (key i hlt).2⟩
theorem kk_met {w : World} {l : List (String × DataW Unit)} {d : DataW Unit} (hd : d = kindsData) (hm : ("stook/expr.kinds", d) ∈ l) (h : laidMet Tryz.prog l w) : KN w :=
 ⟨(kinds_met hd hm h).1,(kinds_met hd hm h).2⟩
end Go.Proofs.YtgakcpcpfkoaiaaGreatDoor.Ex
namespace Go.Proofs.YtgakcpcpfkoaiaaGreatDoor.Ov
open Go.ChangeShapes Go.WideShapes Go.ChangeAt Go.RowKit
structure Blk (w:World) (b:Nat) (vs:List Value):Prop where
 c:∀ (i:Nat) (v:Value),vs[i]? = some v→w.cell? ⟨b,i,none⟩=some v
 f:∀ (i:Nat) (v:Value),vs[i]? = some v→w.frozen? ⟨b,i,none⟩=false
 lt:b<w.heap.size
section
variable {w w':World} {b:Nat} {vs:List Value}
theorem Blk.next (h:Blk w b vs) (k:Below w.heap.size w w'):Blk w' b vs :=
 ⟨fun i v e=>(k.cell (p:=⟨b,i,none⟩) h.lt).trans (h.c i v e),fun i v e=>(k.frozen (p:=⟨b,i,none⟩) h.lt).trans (h.f i v e),Nat.lt_of_lt_of_le h.lt k.size⟩
theorem Blk.old (h:Blk w b vs) (o:Obj):Blk (w.alloc o) b vs:=h.next ((Below.refl _ _).alloc (Nat.le_refl _) _)
theorem Blk.over (h:Blk w b vs) (q:Over w):Blk q.val b vs:=h.next q.property
theorem Blk.put (h:Blk w b vs) {c:Nat} (hc:c ≠ b) (o:Nat) (z:Value):Blk (w.setCell ⟨c,o,none⟩ z) b vs :=
 ⟨fun i v e=>by rw [World.cell?_setCell_other _ _ _ _ (fun e=>hc (congrArg Addr.block e))];exact h.c i v e,
  fun i v e=>by rw [World.frozen?_setCell];exact h.f i v e,by simpa using h.lt⟩
theorem Blk.set (h:Blk w b vs) (o:Nat) (z:Value):Blk (w.setCell ⟨b,o,none⟩ z) b (vs.set o z):=by
 refine ⟨fun i v e=>?_,fun i v e=>?_,by simpa using h.lt⟩
 · by_cases ho:o=i
   · subst ho
     have hlt:o<vs.length:=by
      have:=(List.getElem?_eq_some_iff.1 e).1
      simpa using this
     rw [List.getElem?_set_self hlt] at e
     obtain rfl:=Option.some.inj e
     exact World.cell?_setCell_same _ _ _ (h.c o vs[o] (List.getElem?_eq_getElem hlt))
   · rw [List.getElem?_set_ne ho] at e
     rw [World.cell?_setCell_other _ _ _ _ (fun e=>ho (by injection e))]
     exact h.c i v e
 · rw [World.frozen?_setCell]
   by_cases ho:o=i
   · subst ho
     have hlt:o<vs.length:=by
      have:=(List.getElem?_eq_some_iff.1 e).1
      simpa using this
     exact h.f o vs[o] (List.getElem?_eq_getElem hlt)
   · rw [List.getElem?_set_ne ho] at e
     exact h.f i v e
theorem Blk.made (w:World) (t:TypeId) (vs:List Value) {n:Nat} (hn:w.heap.size=n):Blk (w.alloc (.cells vs.toArray t)) n vs:=by
 subst hn
 exact ⟨fun i v e=>by simpa [World.cell?_alloc_new] using e,fun i v _=>by simp [World.frozen?_alloc_new],by simp⟩
theorem Blk.cast {us:List Value} (h:Blk w b vs) (e:vs=us):Blk w b us:=e ▸ h
end
theorem box1 (w:World) (a:Obj):Below w.heap.size w (w.alloc a):=(Below.refl _ _).alloc (Nat.le_refl _) _
theorem box2 (w:World) (a b:Obj):Below w.heap.size w ((w.alloc a).alloc b):=(box1 w a).alloc (by simp) _
theorem box3 (w:World) (a b c:Obj):Below w.heap.size w (((w.alloc a).alloc b).alloc c):=(box2 w a b).alloc (by simp;omega) _
theorem box4 (w:World) (a b c d:Obj):Below w.heap.size w ((((w.alloc a).alloc b).alloc c).alloc d):=(box3 w a b c).alloc (by simp;omega) _
end Go.Proofs.YtgakcpcpfkoaiaaGreatDoor.Ov
namespace Go.Proofs.YtgakcpcpfkoaiaaGreatDoor
open Go
theorem ck5 {w:World} {b:Nat} {x0 x1 x2 x3 x4:Value} {t:List Value} (h:Ov.Blk w b (x0 :: x1 :: x2 :: x3 :: x4 :: t)):w.cell? ⟨b,0,none⟩=some x0∧w.cell? ⟨b,1,none⟩=some x1∧w.cell? ⟨b,2,none⟩=some x2∧w.cell? ⟨b,3,none⟩=some x3∧w.cell? ⟨b,4,none⟩=some x4 :=
 ⟨h.c 0 _ rfl,h.c 1 _ rfl,h.c 2 _ rfl,h.c 3 _ rfl,h.c 4 _ rfl⟩
theorem ck6 {w:World} {b:Nat} {x0 x1 x2 x3 x4 x5:Value} {t:List Value} (h:Ov.Blk w b (x0 :: x1 :: x2 :: x3 :: x4 :: x5 :: t)):w.cell? ⟨b,0,none⟩=some x0∧w.cell? ⟨b,1,none⟩=some x1∧w.cell? ⟨b,2,none⟩=some x2∧w.cell? ⟨b,3,none⟩=some x3∧w.cell? ⟨b,4,none⟩=some x4∧w.cell? ⟨b,5,none⟩=some x5 :=
 ⟨h.c 0 _ rfl,h.c 1 _ rfl,h.c 2 _ rfl,h.c 3 _ rfl,h.c 4 _ rfl,h.c 5 _ rfl⟩
theorem ck7 {w:World} {b:Nat} {x0 x1 x2 x3 x4 x5 x6:Value} {t:List Value} (h:Ov.Blk w b (x0 :: x1 :: x2 :: x3 :: x4 :: x5 :: x6 :: t)):w.cell? ⟨b,0,none⟩=some x0∧w.cell? ⟨b,1,none⟩=some x1∧w.cell? ⟨b,2,none⟩=some x2∧w.cell? ⟨b,3,none⟩=some x3∧w.cell? ⟨b,4,none⟩=some x4∧w.cell? ⟨b,5,none⟩=some x5∧w.cell? ⟨b,6,none⟩=some x6 :=
 ⟨h.c 0 _ rfl,h.c 1 _ rfl,h.c 2 _ rfl,h.c 3 _ rfl,h.c 4 _ rfl,h.c 5 _ rfl,h.c 6 _ rfl⟩
theorem ck11 {w:World} {b:Nat} {x0 x1 x2 x3 x4 x5 x6 x7 x8 x9 x10:Value} {t:List Value} (h:Ov.Blk w b (x0 :: x1 :: x2 :: x3 :: x4 :: x5 :: x6 :: x7 :: x8 :: x9 :: x10 :: t)):w.cell? ⟨b,0,none⟩=some x0∧w.cell? ⟨b,1,none⟩=some x1∧w.cell? ⟨b,2,none⟩=some x2∧w.cell? ⟨b,3,none⟩=some x3∧w.cell? ⟨b,4,none⟩=some x4∧w.cell? ⟨b,5,none⟩=some x5∧w.cell? ⟨b,6,none⟩=some x6∧w.cell? ⟨b,7,none⟩=some x7∧w.cell? ⟨b,8,none⟩=some x8∧w.cell? ⟨b,9,none⟩=some x9∧w.cell? ⟨b,10,none⟩=some x10 :=
 ⟨h.c 0 _ rfl,h.c 1 _ rfl,h.c 2 _ rfl,h.c 3 _ rfl,h.c 4 _ rfl,h.c 5 _ rfl,h.c 6 _ rfl,h.c 7 _ rfl,h.c 8 _ rfl,h.c 9 _ rfl,h.c 10 _ rfl⟩
end Go.Proofs.YtgakcpcpfkoaiaaGreatDoor
namespace Go.Proofs.YtgakcpcpfkoaiaaGreatDoor.Ga
open Go.ChangeShapes Go.WideShapes Go.ChangeAt Go.RowKit Ov
theorem bcell {W w1:World} (hb:Below W.heap.size W w1):(∀ b o,b<W.heap.size→w1.cell? ⟨b,o,none⟩=W.cell? ⟨b,o,none⟩)∧(∀ b o,b<W.heap.size→w1.frozen? ⟨b,o,none⟩=W.frozen? ⟨b,o,none⟩) :=
 ⟨fun b o h=>hb.cell (p:=⟨b,o,none⟩) h,fun b o h=>hb.frozen (p:=⟨b,o,none⟩) h⟩
theorem below1 (w:World) (a:Obj):Below w.heap.size w (w.alloc a):=(Below.refl _ _).alloc (Nat.le_refl _) _
theorem below2 (w:World) (a b:Obj):Below w.heap.size w ((w.alloc a).alloc b):=(below1 w a).alloc (by simp) _
theorem below3 (w:World) (a b c:Obj):Below w.heap.size w (((w.alloc a).alloc b).alloc c):=(below2 w a b).alloc (by simp;omega) _
theorem fits_any (n:Int) (w:World):Calls Tryz.prog 62 #[.int .i64 n] w fun e w'=>e=.returned (.bool (fb n))∧w=w':=by
 by_cases h1:-16777216≤n
 · by_cases h2:n≤16777216
   · have e:fb n=true:=fb_of h1 h2
     rw [e];clear e
     go_enter Tryz.func62,Tryz.ntmps62
     go_wp2_with fail
     go_ret
     exact ⟨rfl,rfl⟩
   · have e:fb n=false:=decide_eq_false (by omega)
     rw [e];clear e
     go_enter Tryz.func62,Tryz.ntmps62
     go_wp2_with fail
     go_ret
     exact ⟨rfl,rfl⟩
 · have e:fb n=false:=decide_eq_false (by omega)
   rw [e];clear e
   go_enter Tryz.func62,Tryz.ntmps62
   go_wp2_with fail
   go_ret
   exact ⟨rfl,rfl⟩
theorem right_any (x y:Int) (w:World):Calls Tryz.prog 35 #[.agg #[.int .i64 x,.int .i64 y]] w fun e w'=>e=.returned (.bool (rb ⟨x,y⟩))∧Below w.heap.size w w':=by
 have e:rb ⟨x,y⟩=(fb x && fb y):=rfl
 rw [e];clear e
 have HX:=qq (fits_any x)
 have HY:=qq (fits_any y)
 generalize fb x=p at *
 generalize fb y=q at *
 cases p
 · go_enter Tryz.func35,Tryz.ntmps35
   go_wp2_with fail
   refine (HX.out _).mono ?_
   rintro e w' ⟨rfl,rfl⟩
   go_wp2_with fail
   go_ret
   exact ⟨rfl,(Below.refl _ _).alloc (Nat.le_refl _) _⟩
 · go_enter Tryz.func35,Tryz.ntmps35
   go_wp2_with fail
   refine (HX.out _).mono ?_
   rintro e w' ⟨rfl,rfl⟩
   go_wp2_with fail
   refine (HY.out _).mono ?_
   rintro e w' ⟨rfl,rfl⟩
   go_wp2_with fail
   go_ret
   exact ⟨rfl,(Below.refl _ _).alloc (Nat.le_refl _) _⟩
theorem both_any (x y u v:Int) (w:World):Calls Tryz.prog 68 #[.agg #[.int .i64 x,.int .i64 y],.agg #[.int .i64 u,.int .i64 v]] w fun e w'=>e=.returned (.bool (rb ⟨x,y⟩ && rb ⟨u,v⟩))∧Below w.heap.size w w':=by
 have HX:=qq (right_any x y)
 have HY:=qq (right_any u v)
 generalize rb ⟨x,y⟩=p at *
 generalize rb ⟨u,v⟩=q at *
 cases p
 · go_enter Tryz.func68,Tryz.ntmps68
   go_wp2_with fail
   refine (HX.out _).mono ?_
   rintro e w1 ⟨rfl,hb⟩
   have HB:=qq hb;clear hb
   go_wp2_with fail
   go_ret
   exact ⟨rfl,Below.next (((Below.refl _ _).alloc (Nat.le_refl _) _).alloc (by simp) _) HB.out⟩
 · go_enter Tryz.func68,Tryz.ntmps68
   go_wp2_with fail
   refine (HX.out _).mono ?_
   rintro e w1 ⟨rfl,hb⟩
   have HB:=qq hb
   obtain ⟨hc,hf⟩:=bcell hb
   clear hb
   go_wp2_with fail
   refine (HY.out _).mono ?_
   rintro e w2 ⟨rfl,hb⟩
   have HB2:=qq hb;clear hb
   clear hc hf
   go_wp2_with fail
   go_ret
   exact ⟨rfl,Below.next (((Below.refl _ _).alloc (Nat.le_refl _) _).alloc (by simp) _) (Below.next HB.out HB2.out)⟩
theorem less_any (x y u v:Int) (w:World):Calls Tryz.prog 117 #[.agg #[.int .i64 x,.int .i64 y],.agg #[.int .i64 u,.int .i64 v]] w (Gives (.bool (decide (x<u∨x=u∧y<v))) w):=by
 by_cases h1:x=u
 · by_cases h2:y<v
   · have hd:decide (x<u∨x=u∧y<v)=true:=decide_eq_true (.inr ⟨h1,h2⟩)
     rw [hd];clear hd
     subst h1
     go_enter Tryz.func117,Tryz.ntmps117
     go_wp2_with fail
     go_ret
     exact ⟨rfl,below2 w _ _⟩
   · have hd:decide (x<u∨x=u∧y<v)=false:=decide_eq_false (by omega)
     rw [hd];clear hd
     subst h1
     go_enter Tryz.func117,Tryz.ntmps117
     go_wp2_with fail
     go_ret
     exact ⟨rfl,below2 w _ _⟩
 · have hne:(x == u)=false:=beq_eq_false_iff_ne.2 h1
   by_cases h2:x<u
   · have hd:decide (x<u∨x=u∧y<v)=true:=decide_eq_true (.inl h2)
     rw [hd];clear hd h1
     go_enter Tryz.func117,Tryz.ntmps117
     go_wp2_with fail
     go_ret
     exact ⟨rfl,below2 w _ _⟩
   · have hd:decide (x<u∨x=u∧y<v)=false:=decide_eq_false (by omega)
     rw [hd];clear hd h1
     go_enter Tryz.func117,Tryz.ntmps117
     go_wp2_with fail
     go_ret
     exact ⟨rfl,below2 w _ _⟩
end Go.Proofs.YtgakcpcpfkoaiaaGreatDoor.Ga
namespace Go.Proofs.YtgakcpcpfkoaiaaGreatDoor.Va
open Go.ChangeShapes Go.WideShapes Go.ChangeAt Go.RowKit Ov
theorem number_any (n:Int) (w:World):Calls Tryz.prog 32 #[.int .i64 n] w (Gives (.agg #[.int .i64 0,.int .i64 n,.string ⟨#[]⟩,.int .i64 0,.int .i64 0]) w):=by
 go_enter Tryz.func32,Tryz.ntmps32
 go_wp2_with fail
 refine bodyPost_ret (v:=.agg #[.int .i64 0,.int .i64 n,.string ⟨#[]⟩,.int .i64 0,.int .i64 0]) (by simp [results,Tryz.results32,go_sem]) rfl ⟨rfl,?_⟩
 exact box1 w _
theorem text_any (s:ByteArray) (w:World):Calls Tryz.prog 33 #[.string s] w (Gives (.agg #[.int .i64 1,.int .i64 0,.string s,.int .i64 0,.int .i64 0]) w):=by
 go_enter Tryz.func33,Tryz.ntmps33
 go_wp2_with fail
 refine bodyPost_ret (v:=.agg #[.int .i64 1,.int .i64 0,.string s,.int .i64 0,.int .i64 0]) (by simp [results,Tryz.results33,go_sem]) rfl ⟨rfl,?_⟩
 exact box1 w _
theorem point_any (x y:Int) (w:World):Calls Tryz.prog 34 #[.agg #[.int .i64 x,.int .i64 y]] w (Gives (.agg #[.int .i64 2,.int .i64 0,.string ⟨#[]⟩,.int .i64 x,.int .i64 y]) w):=by
 go_enter Tryz.func34,Tryz.ntmps34
 go_wp2_with fail
 refine bodyPost_ret (v:=.agg #[.int .i64 2,.int .i64 0,.string ⟨#[]⟩,.int .i64 x,.int .i64 y]) (by simp [results,Tryz.results34,go_sem]) rfl ⟨rfl,?_⟩
 exact box2 w _ _
theorem plain_any (c:UInt8) (w:World):Calls Tryz.prog 176 #[.int .u8 (c.toNat:Int)] w fun e w'=>e=.returned (.bool (pl c))∧w=w':=by
 obtain ⟨m,hm⟩:∃ m:Nat,m=c.toNat:=⟨_,rfl⟩
 have he:pl c=decide (32≤m∧m≤126∧m ≠ 34∧m ≠ 92):=by rw [hm];rfl
 have hlt:=c.toNat_lt
 rw [he,← hm]
 rw [← hm] at hlt
 clear he hm
 by_cases h1:32≤m
 · by_cases h2:m≤126
   · by_cases h3:m=34
     · subst h3
       go_enter Tryz.func176,Tryz.ntmps176
       go_wp2_with fail
       go_ret
       exact ⟨rfl,rfl⟩
     · have n3:((m:Int) != 34)=true:=by rw [bne_iff_ne];omega
       by_cases h4:m=92
       · subst h4
         go_enter Tryz.func176,Tryz.ntmps176
         go_wp2_with fail
         go_ret
         exact ⟨rfl,rfl⟩
       · have n4:((m:Int) != 92)=true:=by rw [bne_iff_ne];omega
         have he:decide (32≤m∧m≤126∧m ≠ 34∧m ≠ 92)=true:=decide_eq_true ⟨h1,h2,h3,h4⟩
         rw [he];clear he h3 h4
         go_enter Tryz.func176,Tryz.ntmps176
         go_wp2_with fail
         go_ret
         exact ⟨rfl,rfl⟩
   · have he:decide (32≤m∧m≤126∧m ≠ 34∧m ≠ 92)=false:=decide_eq_false (by omega)
     rw [he];clear he
     go_enter Tryz.func176,Tryz.ntmps176
     go_wp2_with fail
     go_ret
     exact ⟨rfl,rfl⟩
 · have he:decide (32≤m∧m≤126∧m ≠ 34∧m ≠ 92)=false:=decide_eq_false (by omega)
   rw [he];clear he
   go_enter Tryz.func176,Tryz.ntmps176
   go_wp2_with fail
   go_ret
   exact ⟨rfl,rfl⟩
theorem isDigit_any (c:UInt8) (w:World):Calls Tryz.prog 162 #[.int .u8 (c.toNat:Int)] w fun e w'=>e=.returned (.bool (dg c))∧w=w':=by
 obtain ⟨m,hm⟩:∃ m:Nat,m=c.toNat:=⟨_,rfl⟩
 have he:dg c=decide (48≤m∧m≤57):=by rw [hm];rfl
 have hlt:=c.toNat_lt
 rw [he,← hm]
 rw [← hm] at hlt
 clear he hm
 by_cases h1:48≤m
 · by_cases h2:m≤57
   · have he:decide (48≤m∧m≤57)=true:=decide_eq_true ⟨h1,h2⟩
     rw [he];clear he
     go_enter Tryz.func162,Tryz.ntmps162
     go_wp2_with fail
     go_ret
     exact ⟨congrArg (fun b=>Ending.returned (.bool b)) (decide_eq_true (by omega)),rfl⟩
   · have he:decide (48≤m∧m≤57)=false:=decide_eq_false (by omega)
     rw [he];clear he
     go_enter Tryz.func162,Tryz.ntmps162
     go_wp2_with fail
     go_ret
     exact ⟨congrArg (fun b=>Ending.returned (.bool b)) (decide_eq_false (by omega)),rfl⟩
 · have he:decide (48≤m∧m≤57)=false:=decide_eq_false (by omega)
   rw [he];clear he
   go_enter Tryz.func162,Tryz.ntmps162
   go_wp2_with fail
   go_ret
   exact ⟨rfl,rfl⟩
theorem cmpI_any (a b:Int) (w:World):Calls Tryz.prog 64 #[.int .i64 a,.int .i64 b] w fun e w'=>e=.returned (.int .i64 (cI a b))∧w=w':=by
 by_cases h1:a<b
 · have he:cI a b=-1:=if_pos h1
   rw [he];clear he
   go_enter Tryz.func64,Tryz.ntmps64
   go_wp2_with (go_in)
   go_ret
   exact ⟨rfl,rfl⟩
 · by_cases h2:b<a
   · have he:cI a b=1:=by unfold cI;rw [if_neg h1,if_pos h2]
     rw [he];clear he
     go_enter Tryz.func64,Tryz.ntmps64
     go_wp2_with (go_in)
     go_ret
     exact ⟨rfl,rfl⟩
   · have he:cI a b=0:=by unfold cI;rw [if_neg h1,if_neg h2]
     rw [he];clear he
     go_enter Tryz.func64,Tryz.ntmps64
     go_wp2_with (go_in)
     go_ret
     exact ⟨rfl,rfl⟩
theorem cmpS_any (a b:ByteArray) (w:World):Calls Tryz.prog 65 #[.string a,.string b] w fun e w'=>e=.returned (.int .i64 (cS a.data.toList b.data.toList))∧w=w':=by
 rw [← ByteArray.toList_eq,← ByteArray.toList_eq]
 rcases less_total a.toList b.toList with h | h | h
 · rw [cS_lt h]
   go_enter Tryz.func65,Tryz.ntmps65
   go_wp2_with (go_in)
   go_ret
   exact ⟨rfl,rfl⟩
 · rw [cS_gt h]
   have h1:=less_asymm h
   have h2:(a.toList == b.toList)=false:=by
    rw [beq_eq_false_iff_ne];intro e;rw [e,less_irrefl] at h;cases h
   go_enter Tryz.func65,Tryz.ntmps65
   go_wp2_with (go_in)
   go_ret
   exact ⟨rfl,rfl⟩
 · have h1:Op.bytesLess a.toList b.toList=false:=by rw [h];exact less_irrefl _
   have h2:(a.toList == b.toList)=true:=by rw [beq_iff_eq];exact h
   have he:cS a.toList b.toList=0:=by rw [h];exact cS_self _
   rw [he];clear he h
   go_enter Tryz.func65,Tryz.ntmps65
   go_wp2_with (go_in)
   go_ret
   exact ⟨rfl,rfl⟩
end Go.Proofs.YtgakcpcpfkoaiaaGreatDoor.Va
namespace Go.Proofs.YtgakcpcpfkoaiaaGreatDoor.Ov
open Go.ChangeShapes Go.WideShapes Go.ChangeAt Go.RowKit Go.Shelf
def ixbRen:Ren:=⟨fun | 137=>181 | 217=>186 | 266=>192 | n=>n,fun | 3=>3 | 5=>5 | 9=>9 | n=>n,fun n=>n⟩
theorem ixbLays:Lays.n137 Tryz.prog ixbRen :=
 { mixed:=by kernel_rfl
   f137:=by kernel_rfl
   f217:=by kernel_rfl
   f266:=by kernel_rfl
   t3:=by kernel_rfl
   a3:=fun _=>by kernel_rfl
   z3:=fun _=>by kernel_rfl
   v3:=fun _=>by kernel_rfl
   t5:=by kernel_rfl
   a5:=fun _=>by kernel_rfl
   z5:=fun _=>by kernel_rfl
   v5:=fun _=>by kernel_rfl
   t9:=by kernel_rfl
   a9:=fun _=>by kernel_rfl
   z9:=fun _=>by kernel_rfl
   v9:=fun _=>by kernel_rfl }
theorem index_any (s:ByteArray) (c:UInt8) (w:World) :
 Calls Tryz.prog 181 #[.string s,.int .u8 (c.toNat:Int)] w fun e w'=>e=.returned (.int .i64 (Lib.indexByte s.data.toList c))∧w=w' :=
 (Any.strings_IndexByte ixbLays s (c.toNat:Int) w).mono fun _ _ ⟨he,hw⟩=>⟨by rw [he];simp,hw.symm⟩
end Go.Proofs.YtgakcpcpfkoaiaaGreatDoor.Ov
namespace Go.Proofs.YtgakcpcpfkoaiaaGreatDoor.Ov
open Go.ChangeShapes Go.WideShapes Go.ChangeAt Go.RowKit
theorem wp_scope_once {P:Program} {a:Act} {w:World} {Q:Exit→Act→World→Prop} {c rest:Code} (l:Nat) (J:Act→World→Prop) (m:Act→World→Nat) (hf:findLabel c l=some (.seq .skip rest))
 (first:Hid (∀ a w,J a w→rest.wp P (Exit.jump l J Q) a w)→c.wp P (Exit.jump l J Q) a w)
 (pass:∀ a w,J a w→rest.wp P (Exit.jump l (fun a' w'=>J a' w'∧m a' w'<m a w) Q) a w):(Code.scope c).wp P Q a w :=
 wp_scope_jumps l J m hf (first (qq fun a w h=>Code.wp_mono (fun e a' w' q=>by
  cases e with
  | goto l'=>exact ⟨q.1,q.2.1⟩
  | _=>exact q) (pass a w h))) (fun a w h=>wp_seq (wp_skip (pass a w h)))
end Go.Proofs.YtgakcpcpfkoaiaaGreatDoor.Ov
namespace Go.Proofs.YtgakcpcpfkoaiaaGreatDoor.Va
open Go.ChangeShapes Go.WideShapes Go.ChangeAt Go.RowKit Ov Tp
def JB (s:ByteArray) (w:World) (a':Act) (w':World):Prop:=∃ (k n:Nat) (u7 u8 u9 u10 u11 u12 u13 u14 u15 u16 u17 u18 u19 u20 u21 u22 u23 u24 u25 u26 u27 u28 u29 u30 u31 u32 u33 u34 u35 u36 u37 u38 u39 u40:Value),
 k≤s.size∧((k=1∧n=0∧cb s.data.toList=cb2 (s.data.toList.drop 1))∨(k=2∧n<16∧cb s.data.toList=cb3 n (s.data.toList.drop 2)))∧w'=w ∧
 a'={ tmps:=#[.string s,undef,.int .u8 0,.int .i64 0,.int .i64 0,.int .i64 (n:Int),.int .i64 (k:Int),u7,u8,u9,u10,u11,u12,u13,u14,u15,u16,u17,u18,u19,u20,u21,u22,u23,u24,u25,u26,u27,u28,u29,u30,u31,u32,u33,u34,u35,u36,u37,u38,u39,u40],defers:=[] }
def muB (a:Act) (_:World):Nat:=3 - (intOf (a.tmps.getD 6 undef)).toNat
def cbv (r:UInt8 × Nat × Nat):Value:=.tuple #[.int .u8 (r.1.toNat:Int),.int .i64 (r.2.1:Int),.int .i64 (r.2.2:Int)]
theorem drop_at {s:ByteArray} {k:Nat} (h:k<s.size):s.data.toList.drop k=s[k] :: s.data.toList.drop (k+1):=by
 have hl:k<s.data.toList.length:=by simpa using h
 rw [List.drop_eq_getElem_cons hl];rfl
theorem digit_any (c:UInt8) (w:World):Calls Tryz.prog 181 #[.string ⟨#[48,49,50,51,52,53,54,55,56,57,97,98,99,100,101,102]⟩,.int .u8 (c.toNat:Int)] w fun e w'=>e=.returned (.int .i64 (sv c))∧w=w':=index_any ⟨#[48,49,50,51,52,53,54,55,56,57,97,98,99,100,101,102]⟩ c w
theorem cutByte_any (s:ByteArray) (w:World) (h0:0<s.size) (hs:s.size≤281474976710656) :
 Calls Tryz.prog 172 #[.string s] w fun e w'=>e=.returned (cbv (cb s.data.toList))∧w=w':=by
 have hl:s.data.toList=s[0] :: s.data.toList.drop 1:=(List.drop_zero).symm.trans (drop_at h0)
 obtain ⟨c,hc⟩:∃ c:UInt8,s[0]=c:=⟨_,rfl⟩
 rw [hc] at hl
 have HP:=qq (plain_any c)
 by_cases hp:pl c=true
 · rw [hp] at HP
   have HE:Hid (cb s.data.toList=(c,1,0)):=by show _=_;rw [hl];exact cb_plain _ hp
   clear hl hp
   go_enter Tryz.func172,Tryz.ntmps172
   go_wp2_with fail
   refine wp_scope_once 0 (fun _ _=>False) (fun _ _=>0) rfl (fun NX=>?_) (fun _ _ h=>h.elim)
   go_wp2_with fail
   refine (HP.out _).mono ?_
   rintro e w' ⟨rfl,rfl⟩
   go_wp2_with fail
   simp only [Exit.jump]
   go_ret3
   exact ⟨by rw [HE.out];rfl,rfl⟩
 · have hp':pl c=false:=by simpa using hp
   rw [hp'] at HP
   by_cases h92:c=92
   · subst h92
     have HL:Hid (cb s.data.toList=cb2 (s.data.toList.drop 1)):=by
      show _=_
      have:=congrArg cb hl
      rw [this];exact cb_esc _
     clear hl hp hp'
     go_enter Tryz.func172,Tryz.ntmps172
     go_wp2_with fail
     refine wp_scope_once 0 (JB s w) muB rfl (fun NX=>?_) ?_
     · go_wp2_with fail
       refine (HP.out _).mono ?_
       rintro e w' ⟨rfl,rfl⟩
       go_wp2_with fail
       go_step3
       rename_i hK
       exact hK _ _ (NX.out _ _ ⟨1,0,_,_,_,_,_,_,_,_,_,_,_,_,_,_,_,_,_,_,_,_,_,_,_,_,_,_,_,_,_,_,_,_,_,_,by omega,.inl ⟨rfl,rfl,HL.out⟩,rfl,rfl⟩)
     · rintro a' w' ⟨k,n,u7,u8,u9,u10,u11,u12,u13,u14,u15,u16,u17,u18,u19,u20,u21,u22,u23,u24,u25,u26,u27,u28,u29,u30,u31,u32,u33,u34,u35,u36,u37,u38,u39,u40,hk,hcase,rfl,rfl⟩
       clear HL HP
       rcases hcase with ⟨rfl,rfl,hcb⟩ | ⟨rfl,hn,hcb⟩
       · have HC:=qq hcb;clear hcb
         by_cases he:s.size=1
         · have g0:((1:Int) == (s.size:Int))=true:=by rw [beq_iff_eq];omega
           have HE:Hid (cb s.data.toList=(0,0,2)):=by
            show _=_
            rw [HC.out,List.drop_of_length_le (by simp;omega)];rfl
           clear he
           go_wp2_with fail
           simp only [Exit.jump]
           go_ret3
           exact ⟨by rw [HE.out];rfl,rfl⟩
         · have hlt:1<s.size:=by omega
           have g0:((1:Int) == (s.size:Int))=false:=by rw [beq_eq_false_iff_ne];omega
           have HD:=qq (drop_at hlt)
           obtain ⟨a,ha⟩:∃ a:UInt8,s[1]=a:=⟨_,rfl⟩
           rw [ha] at HD
           have HX:=qq (digit_any a)
           clear he
           rcases sv_cases a with ea | ⟨m,hm,ea,_⟩
           · have HE:Hid (cb s.data.toList=(0,0,6)):=by
              show _=_
              rw [HC.out,HD.out,cb2_cons,if_pos (by omega)]
             rw [ea] at HX;clear ea
             go_wp2_with fail
             refine (HX.out _).mono ?_
             rintro e w' ⟨rfl,rfl⟩
             go_wp2_with fail
             simp only [Exit.jump]
             go_ret3
             exact ⟨by rw [HE.out];rfl,rfl⟩
           · have HE:Hid (cb s.data.toList=cb3 m (s.data.toList.drop 2)):=by
              show _=_
              rw [HC.out,HD.out,cb2_cons,if_neg (by omega),ea];rfl
             rw [ea] at HX;clear ea
             go_wp2_with fail
             refine (HX.out _).mono ?_
             rintro e w' ⟨rfl,rfl⟩
             go_wp2_with fail
             go_step3
             refine ⟨rfl,⟨2,m,_,_,_,_,_,_,_,_,_,_,_,_,_,_,_,_,_,_,_,_,_,_,_,_,_,_,_,_,_,_,_,_,_,_,hlt,.inr ⟨rfl,hm,HE.out⟩,rfl,rfl⟩,?_⟩
             simp [muB,intOf]
       · have HC:=qq hcb;clear hcb
         by_cases he:s.size=2
         · have g0:((2:Int) == (s.size:Int))=true:=by rw [beq_iff_eq];omega
           have HE:Hid (cb s.data.toList=(0,0,2)):=by
            show _=_
            rw [HC.out,List.drop_of_length_le (by simp;omega)];rfl
           clear he
           go_wp2_with fail
           simp only [Exit.jump]
           go_ret3
           exact ⟨by rw [HE.out];rfl,rfl⟩
         · have hlt:2<s.size:=by omega
           have g0:((2:Int) == (s.size:Int))=false:=by rw [beq_eq_false_iff_ne];omega
           have HD:=qq (drop_at hlt)
           obtain ⟨a,ha⟩:∃ a:UInt8,s[2]=a:=⟨_,rfl⟩
           rw [ha] at HD
           have HX:=qq (digit_any a)
           clear he
           rcases sv_cases a with ea | ⟨m,hm,ea,_⟩
           · have HE:Hid (cb s.data.toList=(0,0,6)):=by
              show _=_
              rw [HC.out,HD.out,cb3_cons,if_pos (by omega)]
             rw [ea] at HX;clear ea
             go_wp2_with fail
             refine (HX.out _).mono ?_
             rintro e w' ⟨rfl,rfl⟩
             go_wp2_with fail
             simp only [Exit.jump]
             go_ret3
             exact ⟨by rw [HE.out];rfl,rfl⟩
           · obtain ⟨d,hd⟩:∃ d:UInt8,UInt8.ofNat (16 * n+m)=d:=⟨_,rfl⟩
             have HE1:Hid (cb s.data.toList=if pl d=true then (0,0,6) else (d,3,0)):=by
              show _=_
              rw [HC.out,HD.out,cb3_cons,if_neg (by omega),ea,Int.toNat_natCast,hd]
             have HY:Hid (IntKind.u8.wrap (16 * (n:Int)+(m:Int))=(d.toNat:Int)):=by
              show _=_
              rw [← hd,u8_nat (by omega),IntWalk.u8_in _ (by omega)];omega
             have HZ:Hid (16 * (n:Int)+(m:Int)=(d.toNat:Int)):=by
              show _=_
              rw [← hd,u8_nat (by omega)];omega
             have HPD:=qq (plain_any d)
             rw [ea] at HX;clear ea hd
             rcases Bool.eq_false_or_eq_true (pl d) with hpd | hpd
             · have HE:=qq (HE1.out.trans (if_pos hpd))
               rw [hpd] at HPD;clear hpd HE1
               go_wp2_with fail
               refine (HX.out _).mono ?_
               rintro e w' ⟨rfl,rfl⟩
               go_wp2_with fail
               rw [HZ.out]
               refine (HPD.out _).mono ?_
               rintro e w' ⟨rfl,rfl⟩
               go_wp2_with fail
               simp only [Exit.jump]
               go_ret3
               exact ⟨by rw [HE.out];rfl,rfl⟩
             · have HE:=qq (HE1.out.trans (if_neg (by rw [hpd];decide)))
               rw [hpd] at HPD;clear hpd HE1
               go_wp2_with fail
               refine (HX.out _).mono ?_
               rintro e w' ⟨rfl,rfl⟩
               go_wp2_with fail
               rw [HZ.out]
               refine (HPD.out _).mono ?_
               rintro e w' ⟨rfl,rfl⟩
               go_wp2_with fail
               simp only [Exit.jump]
               go_ret3
               exact ⟨by rw [HE.out];rfl,rfl⟩
   · have g1:((c.toNat:Int) != 92)=true:=by
      rw [bne_iff_ne]
      intro e
      exact h92 (UInt8.toNat_inj.1 (show c.toNat=92 by omega))
     have HE:Hid (cb s.data.toList=(0,0,6)):=by show _=_;rw [hl];exact cb_form _ hp' h92
     clear hl hp hp' h92
     go_enter Tryz.func172,Tryz.ntmps172
     go_wp2_with fail
     refine wp_scope_once 0 (fun _ _=>False) (fun _ _=>0) rfl (fun NX=>?_) (fun _ _ h=>h.elim)
     go_wp2_with fail
     refine (HP.out _).mono ?_
     rintro e w' ⟨rfl,rfl⟩
     go_wp2_with fail
     simp only [Exit.jump]
     go_ret3
     exact ⟨by rw [HE.out];rfl,rfl⟩
end Go.Proofs.YtgakcpcpfkoaiaaGreatDoor.Va

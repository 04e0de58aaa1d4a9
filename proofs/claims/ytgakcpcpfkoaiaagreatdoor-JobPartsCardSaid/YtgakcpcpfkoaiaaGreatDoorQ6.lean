/-
  Small texts of this claim, together: EvDo, EvKit, EvStand, EvGrow, EvBeh, ExRefX, ErMem, ErKit, ErSmall, ErKit2, ErKit3.
-/
import Derived.Test.YtgakcpcpfkoaiaaGreatDoorQ1
import Derived.Test.YtgakcpcpfkoaiaaGreatDoorQEvMem
import Derived.Test.YtgakcpcpfkoaiaaGreatDoorQ5
import Derived.Test.YtgakcpcpfkoaiaaGreatDoorQ2
import Derived.Deep.RegionWith
import Derived.Test.YtgakcpcpfkoaiaaGreatDoorQ3
import Derived.Defers
import Derived.Deep.AppendLies
import Derived.Deep.RegionLaw
import Derived.Deep.OwnRows
import Derived.Test.YtgakcpcpfkoaiaaGreatDoorQExRefO
import Derived.Test.YtgakcpcpfkoaiaaGreatDoorQVaRef
set_option maxHeartbeats 2000000
set_option maxRecDepth 100000
namespace Go.Proofs.YtgakcpcpfkoaiaaGreatDoor.Ev
open Go.ChangeShapes Go.WideShapes Go.ChangeAt Go.RowKit Ov Va Ex
def DeedC (d:Nat) (o:Nat) (F:FuncId):Prop:=∀ (w0:World) (A:Option Addr) (c E b:Nat) (l:List No) (S:St) (n:Nat) (ov:Value) (w:World) (k:Nat) (r:List No),
 Cx w0 A l→Doer w0 A c E b l S n ov w→Gd S n→k<l.length→(nd l k).o=(o:Int)→rn (nd l k)=true→it (ex d) (pa (o:Int)) (l.drop (k+1))=some r→d≤24 →
 Calls Tryz.prog F #[.pointer (some ⟨b,0,none⟩),.int .i64 (k:Int)] w (Dn (body (ev d) (nd l k) (l.drop (k+1)) S n) w0 A c E b l ov w)
theorem dcl_at (b:Nat) {o:Nat} (h:o<30) (A:Option Addr) (c E len:Nat) (S:St) (n:Nat) (ov:Value):(dcs A c E b len S n ov)[2+o]? = some (dfn b (dl[o]!)):=by
 unfold dcs
 rw [show 2+o=o+1+1 by omega,List.getElem?_cons_succ,List.getElem?_cons_succ,List.getElem?_append_left (by show o<30;exact h)]
 unfold dcl
 rw [List.getElem?_map,List.getElem!_eq_getElem?_getD,List.getElem?_eq_getElem (show o<dl.length from h)];rfl
theorem ev_zero {l:List No} {k:Nat} (h:k<l.length) (d:Nat) (S:St):ev (d+1) (l.drop k) S 0=.er 15:=by rw [drop_nd h];rfl
theorem ev_succ {l:List No} {k:Nat} (h:k<l.length) (d:Nat) (S:St) (n:Nat):ev (d+1) (l.drop k) S (n+1)=body (ev d) (nd l k) (l.drop (k+1)) S n:=by rw [drop_nd h];rfl
theorem run_enter {F : FuncId} {fn : Func} (hf : Tryz.prog.funcs[F]? = some fn) (h1 : (fn.name == "runtime.NumGoroutine") = false) (h2 : fn.body.isNone = false) (args : Array Value) (w : World) :
 (callFunc F args).run Tryz.prog w=.ok (.enter F args) w:=by
 have h3 : fn.name ≠ "runtime.NumGoroutine" := by simpa using h1
 have h4:fn.body ≠ none:=fun e=>by rw [e] at h2;cases h2
 simp [callFunc,go_sem,hf,h3,h4]
theorem enters (args:Array Value) (w:World):∀ o:Nat,o<30→(callFunc dl[o]! args).run Tryz.prog w=.ok (.enter dl[o]! args) w
 | 0,_=>run_enter Tryz.func80 (by kernel_rfl) (by kernel_rfl) args w
 | 1,_=>run_enter Tryz.func81 (by kernel_rfl) (by kernel_rfl) args w
 | 2,_=>run_enter Tryz.func82 (by kernel_rfl) (by kernel_rfl) args w
 | 3,_=>run_enter Tryz.func83 (by kernel_rfl) (by kernel_rfl) args w
 | 4,_=>run_enter Tryz.func84 (by kernel_rfl) (by kernel_rfl) args w
 | 5,_=>run_enter Tryz.func85 (by kernel_rfl) (by kernel_rfl) args w
 | 6,_=>run_enter Tryz.func86 (by kernel_rfl) (by kernel_rfl) args w
 | 7,_=>run_enter Tryz.func87 (by kernel_rfl) (by kernel_rfl) args w
 | 8,_=>run_enter Tryz.func88 (by kernel_rfl) (by kernel_rfl) args w
 | 9,_=>run_enter Tryz.func89 (by kernel_rfl) (by kernel_rfl) args w
 | 10,_=>run_enter Tryz.func90 (by kernel_rfl) (by kernel_rfl) args w
 | 11,_=>run_enter Tryz.func91 (by kernel_rfl) (by kernel_rfl) args w
 | 12,_=>run_enter Tryz.func92 (by kernel_rfl) (by kernel_rfl) args w
 | 13,_=>run_enter Tryz.func93 (by kernel_rfl) (by kernel_rfl) args w
 | 14,_=>run_enter Tryz.func94 (by kernel_rfl) (by kernel_rfl) args w
 | 15,_=>run_enter Tryz.func95 (by kernel_rfl) (by kernel_rfl) args w
 | 16,_=>run_enter Tryz.func96 (by kernel_rfl) (by kernel_rfl) args w
 | 17,_=>run_enter Tryz.func97 (by kernel_rfl) (by kernel_rfl) args w
 | 18,_=>run_enter Tryz.func98 (by kernel_rfl) (by kernel_rfl) args w
 | 19,_=>run_enter Tryz.func99 (by kernel_rfl) (by kernel_rfl) args w
 | 20,_=>run_enter Tryz.func100 (by kernel_rfl) (by kernel_rfl) args w
 | 21,_=>run_enter Tryz.func101 (by kernel_rfl) (by kernel_rfl) args w
 | 22,_=>run_enter Tryz.func102 (by kernel_rfl) (by kernel_rfl) args w
 | 23,_=>run_enter Tryz.func103 (by kernel_rfl) (by kernel_rfl) args w
 | 24,_=>run_enter Tryz.func104 (by kernel_rfl) (by kernel_rfl) args w
 | 25,_=>run_enter Tryz.func105 (by kernel_rfl) (by kernel_rfl) args w
 | 26,_=>run_enter Tryz.func106 (by kernel_rfl) (by kernel_rfl) args w
 | 27,_=>run_enter Tryz.func107 (by kernel_rfl) (by kernel_rfl) args w
 | 28,_=>run_enter Tryz.func108 (by kernel_rfl) (by kernel_rfl) args w
 | 29,_=>run_enter Tryz.func109 (by kernel_rfl) (by kernel_rfl) args w
 | n+30,h=>absurd h (by omega)
def vbox:Obj:=.cells zz 28
theorem do_step {d:Nat} (HA:∀ o:Nat,o<30→DeedC d o dl[o]!):DoC (ev (d+1)) (d+1):=by
 intro w0 A c E b l S n ov w k r hcx hd hg hx hd25
 have hl:=hcx.len
 have hkl:k<l.length:=by
  rcases Nat.lt_or_ge k l.length with h | h
  · exact h
  · rw [List.drop_of_length_le h,ex_nil] at hx;cases hx
 rw [drop_nd hkl,ex_cons] at hx
 have hrn:rn (nd l k)=true:=by
  rcases Bool.eq_false_or_eq_true (rn (nd l k)) with h | h
  · exact h
  · rw [if_neg (by rw [h];decide)] at hx;cases hx
 rw [if_pos hrn] at hx
 obtain ⟨o,ho⟩:∃ o:Nat,(nd l k).o=(o:Int):=⟨(nd l k).o.toNat,by have:=rn_range hrn;omega⟩
 have ho30:o<30:=by have:=rn_range hrn;omega
 rw [ho] at hx
 have HX:=qq hx
 have HO:=qq ho
 have HR:=qq hrn
 have HG:=qq hg
 have HC:=qq hcx
 obtain ⟨B,O,rfl⟩:=HC.out.nds.shape (by omega)
 have hnw:=HC.out.nds.next hd.fro
 have e0:=hnw.cell hkl 0 _ rfl
 rw [Nat.add_zero,ho] at e0
 have HD:=qq hd
 clear hx hrn hg ho hcx hnw
 have f1:=HD.out.blk.f 58 _ rfl
 have hb:B ≠ b:=by
  have h1:=HC.out.nds.lt (by omega)
  have h2:=HD.out.hb
  omega
 have hn5:=HG.out.fuel
 have hlt:=HD.out.blk.lt
 cases n with
 | zero =>
   have e1:w.cell? ⟨b,58,none⟩=some (.int .i64 0):=HD.out.blk.c 58 _ rfl
   clear HX HO HR HG HC e0 f1 hb
   have HE:=qq (hd.old (box1 w vbox))
   have HM:Hid (Mv b ov w ov (w.alloc vbox)):=Mv.of (box1 w _)
   have HZ:=qq (ev_zero hkl d S)
   clear hd HD
   go_enter Tryz.func56,Tryz.ntmps56
   go_wp2_with fail
   refine bodyPost_ret (v:=.tuple #[.agg zz,.int .i64 15]) (by simp [results,Tryz.results56,go_sem]) rfl ⟨vz,15,S,0,ov,rfl,Ans.er HZ.out rfl (by decide),HE.out,HM.out⟩
 | succ n =>
   have e1:w.cell? ⟨b,58,none⟩=some (.int .i64 ((n:Int)+1)):=HD.out.blk.c 58 _ rfl
   have hBl:B<w.heap.size:=block_lt_of_cell e0
   have HF:=qq (HA o ho30)
   obtain ⟨F,hF⟩:∃ F,dl[o]! = F:=⟨_,rfl⟩
   have HFF:=qq hF
   rw [hF] at HF
   have hent:∀ args w,(callFunc F args).run Tryz.prog w=.ok (.enter F args) w:=fun args w=>by rw [← hF];exact enters args w o ho30
   clear hF hd
   go_enter Tryz.func56,Tryz.ntmps56
   go_wp2_with fail
   have hd1:=HD.out.putb (S':=S) (n':=n) 58 (.int .i64 (n:Int)) rfl rfl
   have hm1:Mv b ov w ov _:=Mv.refl.putb 58 (.int .i64 (n:Int))
   have g0:(w.setCell ⟨b,58,none⟩ (.int .i64 (n:Int))).cell? ⟨B,O+k * 6,none⟩=some (.int .i64 (o:Int)):=by
    rw [World.cell?_setCell_other _ _ _ _ (fun e=>hb (by injection e with e1;exact e1.symm))];exact e0
   have hs1:(w.setCell ⟨b,58,none⟩ (.int .i64 (n:Int))).heap.size=w.heap.size:=by simp
   generalize w.setCell ⟨b,58,none⟩ (.int .i64 (n:Int))=w1 at *
   have hx2:Box w0 b E ov w1.heap.size (vcs 0 0 ⟨#[]⟩ 0 0) (w1.alloc vbox):=Box.made hd1 (by omega) 28 (vcs 0 0 ⟨#[]⟩ 0 0)
   have hd2:=hd1.old (box1 w1 vbox)
   have hm2:=hm1.old (box1 w1 vbox)
   have g2:(w1.alloc vbox).cell? ⟨B,O+k * 6,none⟩=some (.int .i64 (o:Int)):=by rw [World.cell?_alloc_past _ _ _ (block_lt_of_cell g0)];exact g0
   rw [hs1] at hx2
   have HZ:Hid (w.heap.size≤w.heap.size):=qq (Nat.le_refl _)
   change Code.wp _ _ _ _ (w1.alloc vbox)
   clear hd1 hm1 g0 hs1 e0 e1 f1 hlt hBl HD
   generalize w1.alloc vbox=w2 at *
   clear w1
   have e0:=hd2.blk.c 0 _ rfl
   have e2:=hd2.blk.c _ _ (dcl_at b ho30 (some ⟨B,O,none⟩) c E l.length S n ov)
   rw [HFF.out] at e2
   unfold dfn at e2
   have HC1:=qq (HF.out w0 (some ⟨B,O,none⟩) c E b l S n ov w2.drew k r HC.out hd2.drew ⟨HG.out.key,HG.out.val,HG.out.acc,HG.out.i,HG.out.it,HG.out.out,by omega⟩ hkl HO.out HR.out HX.out (by omega))
   have HY:=qq (ev_succ hkl d S n)
   have HD2:=qq hd2;have HX2:=qq hx2.drew;have HM2:=qq (hm2.old (Below.refl _ _).drew)
   clear hd2 hx2 hm2 HX HO HR HG HF HFF
   go_region_with ((refine HC1.out.mono ?_;rintro e w3 ⟨v,x,S',n',ov',rfl,ha,hd,hm⟩;(have HA:=qq ha;clear ha);(have HD3:=qq hd;clear hd);(have HX3:=qq (HX2.out.mv hm));(have HM3:=qq (HM2.out.trans hm));clear hm;have c0:=HX3.out.blk.v0;have c1:=HX3.out.blk.v1;have c2:=HX3.out.blk.v2;have c3:=HX3.out.blk.v3;have c4:=HX3.out.blk.v4;have i0:=HX3.out.blk.g0;have i1:=HX3.out.blk.g1;have i2:=HX3.out.blk.g2;have i3:=HX3.out.blk.g3;have i4:=HX3.out.blk.g4))
   have hx4:=HX3.out.all5 (.int .i64 v.k) (.int .i64 v.n) (.string (tx v.s)) (.int .i64 v.x) (.int .i64 v.y)
   have hd4:=HD3.out.all5 HX3.out (.int .i64 v.k) (.int .i64 v.n) (.string (tx v.s)) (.int .i64 v.x) (.int .i64 v.y)
   have hm4:=HM3.out.all5 HZ.out (.int .i64 v.k) (.int .i64 v.n) (.string (tx v.s)) (.int .i64 v.x) (.int .i64 v.y)
   clear c0 c1 c2 c3 c4 i0 i1 i2 i3 i4 HX3 HD3 HM3
   go_wp2_with fail
   generalize ((((w3.setCell ⟨w.heap.size,0,none⟩ (.int .i64 v.k)).setCell ⟨w.heap.size,1,none⟩ (.int .i64 v.n)).setCell ⟨w.heap.size,2,none⟩ (.string (tx v.s))).setCell ⟨w.heap.size,3,none⟩ (.int .i64 v.x)).setCell ⟨w.heap.size,4,none⟩ (.int .i64 v.y)=w4 at *
   have c0:=hx4.blk.c 0 _ rfl
   have c1:=hx4.blk.c 1 _ rfl
   have c2:=hx4.blk.c 2 _ rfl
   have c3:=hx4.blk.c 3 _ rfl
   have c4:=hx4.blk.c 4 _ rfl
   refine bodyPost_ret (v:=.tuple #[.agg v,.int .i64 x]) (by simp [results,Tryz.results56,go_sem,c0,c1,c2,c3,c4]) rfl ⟨v,x,S',n',ov',rfl,by rw [HY.out];exact HA.out,hd4,hm4⟩
theorem do_none:DoC (ev 0) 0:=by
 intro w0 A c E b l S n ov w k r _ _ _ hx
 cases hx
section
variable {w0 w wa:World} {A:Option Addr} {c E b B C n:Nat} {l:List No} {S:St} {ov ova:Value} {x0 x1 x2 x3 x4 y0 y1 y2 y3 y4:Value}
theorem Box.fiv (h:Box w0 b E ov B [x0,x1,x2,x3,x4] w):w.cell? ⟨B,0,none⟩=some x0∧w.cell? ⟨B,1,none⟩=some x1∧w.cell? ⟨B,2,none⟩=some x2∧w.cell? ⟨B,3,none⟩=some x3∧w.cell? ⟨B,4,none⟩=some x4∧w.frozen? ⟨B,0,none⟩=false∧w.frozen? ⟨B,1,none⟩=false∧w.frozen? ⟨B,2,none⟩=false∧w.frozen? ⟨B,3,none⟩=false∧w.frozen? ⟨B,4,none⟩=false∧B<w.heap.size :=
 ⟨h.blk.c 0 _ rfl,h.blk.c 1 _ rfl,h.blk.c 2 _ rfl,h.blk.c 3 _ rfl,h.blk.c 4 _ rfl,h.blk.f 0 _ rfl,h.blk.f 1 _ rfl,h.blk.f 2 _ rfl,h.blk.f 3 _ rfl,h.blk.f 4 _ rfl,h.blk.lt⟩
theorem dend {P:World→Prop} (T:World→World) (hT:∀ W,Below W.heap.size W (T W)) (hd:Doer w0 A c E b l S n ov w) (hm:Mv b ova wa ov w) (hx:Box w0 b E ov B [x0,x1,x2,x3,x4] w) (hB:wa.heap.size≤B) (a0 a1 a2 a3 a4:Value)
 (k:∀ w9,Doer w0 A c E b l S n ov w9→Mv b ova wa ov w9→w9.cell? ⟨B,0,none⟩=some a0→w9.cell? ⟨B,1,none⟩=some a1→w9.cell? ⟨B,2,none⟩=some a2→w9.cell? ⟨B,3,none⟩=some a3→w9.cell? ⟨B,4,none⟩=some a4→P w9):P (T (((((w.setCell ⟨B,0,none⟩ a0).setCell ⟨B,1,none⟩ a1).setCell ⟨B,2,none⟩ a2).setCell ⟨B,3,none⟩ a3).setCell ⟨B,4,none⟩ a4)) :=
 have hb:Box w0 b E ov B [a0,a1,a2,a3,a4] _:=((((hx.set 0 a0).set 1 a1).set 2 a2).set 3 a3).set 4 a4
 have h:=(hb.old (hT _)).blk
 k _ ((hd.puts hx 0 [a0,a1,a2,a3,a4]).old (hT _)) ((hm.puts hB 0 [a0,a1,a2,a3,a4]).old (hT _)) (h.c 0 _ rfl) (h.c 1 _ rfl) (h.c 2 _ rfl) (h.c 3 _ rfl) (h.c 4 _ rfl)
theorem dend0 {P:World→Prop} (hd:Doer w0 A c E b l S n ov w) (hm:Mv b ova wa ov w) (hx:Box w0 b E ov B [x0,x1,x2,x3,x4] w) (hB:wa.heap.size≤B) (a0 a1 a2 a3 a4:Value)
 (k:∀ w9,Doer w0 A c E b l S n ov w9→Mv b ova wa ov w9→w9.cell? ⟨B,0,none⟩=some a0→w9.cell? ⟨B,1,none⟩=some a1→w9.cell? ⟨B,2,none⟩=some a2→w9.cell? ⟨B,3,none⟩=some a3→w9.cell? ⟨B,4,none⟩=some a4→P w9):P (((((((w).setCell ⟨B,0,none⟩ a0).setCell ⟨B,1,none⟩ a1).setCell ⟨B,2,none⟩ a2).setCell ⟨B,3,none⟩ a3).setCell ⟨B,4,none⟩ a4)) :=
 dend (P:=P) (fun W=>W) (fun _=>Below.refl _ _) hd hm hx hB a0 a1 a2 a3 a4 k
theorem denda {P:World→Prop} {o:Obj} (hd:Doer w0 A c E b l S n ov w) (hm:Mv b ova wa ov w) (hx:Box w0 b E ov B [x0,x1,x2,x3,x4] w) (hB:wa.heap.size≤B) (a0 a1 a2 a3 a4:Value)
 (k:∀ w9,Doer w0 A c E b l S n ov w9→Mv b ova wa ov w9→w9.cell? ⟨B,0,none⟩=some a0→w9.cell? ⟨B,1,none⟩=some a1→w9.cell? ⟨B,2,none⟩=some a2→w9.cell? ⟨B,3,none⟩=some a3→w9.cell? ⟨B,4,none⟩=some a4→P w9):P (((((((w).setCell ⟨B,0,none⟩ a0).setCell ⟨B,1,none⟩ a1).setCell ⟨B,2,none⟩ a2).setCell ⟨B,3,none⟩ a3).setCell ⟨B,4,none⟩ a4).alloc o) :=
 dend (P:=P) (fun W=>W.alloc o) (fun W=>box1 W o) hd hm hx hB a0 a1 a2 a3 a4 k
theorem dendaa {P:World→Prop} {o o2:Obj} (hd:Doer w0 A c E b l S n ov w) (hm:Mv b ova wa ov w) (hx:Box w0 b E ov B [x0,x1,x2,x3,x4] w) (hB:wa.heap.size≤B) (a0 a1 a2 a3 a4:Value)
 (k:∀ w9,Doer w0 A c E b l S n ov w9→Mv b ova wa ov w9→w9.cell? ⟨B,0,none⟩=some a0→w9.cell? ⟨B,1,none⟩=some a1→w9.cell? ⟨B,2,none⟩=some a2→w9.cell? ⟨B,3,none⟩=some a3→w9.cell? ⟨B,4,none⟩=some a4→P w9):P ((((((((w).setCell ⟨B,0,none⟩ a0).setCell ⟨B,1,none⟩ a1).setCell ⟨B,2,none⟩ a2).setCell ⟨B,3,none⟩ a3).setCell ⟨B,4,none⟩ a4).alloc o).alloc o2) :=
 dend (P:=P) (fun W=>(W.alloc o).alloc o2) (fun W=>box2 W o o2) hd hm hx hB a0 a1 a2 a3 a4 k
theorem dend2 {P:World→Prop} (T:World→World) (hT:∀ W,Below W.heap.size W (T W)) (hd:Doer w0 A c E b l S n ov w) (hm:Mv b ova wa ov w) (hx:Box w0 b E ov B [x0,x1,x2,x3,x4] w) (hy:Box w0 b E ov C [y0,y1,y2,y3,y4] w) (hB:wa.heap.size≤B) (hC:wa.heap.size≤C) (hne:C ≠ B) (a0 a1 a2 a3 a4 b0 b1 b2 b3 b4:Value)
 (k:∀ w9,Doer w0 A c E b l S n ov w9→Mv b ova wa ov w9→w9.cell? ⟨B,0,none⟩=some a0→w9.cell? ⟨B,1,none⟩=some a1→w9.cell? ⟨B,2,none⟩=some a2→w9.cell? ⟨B,3,none⟩=some a3→w9.cell? ⟨B,4,none⟩=some a4→w9.cell? ⟨C,0,none⟩=some b0→w9.cell? ⟨C,1,none⟩=some b1→w9.cell? ⟨C,2,none⟩=some b2→w9.cell? ⟨C,3,none⟩=some b3→w9.cell? ⟨C,4,none⟩=some b4→P w9) :
 P (T ((((((((((w.setCell ⟨B,0,none⟩ a0).setCell ⟨B,1,none⟩ a1).setCell ⟨B,2,none⟩ a2).setCell ⟨B,3,none⟩ a3).setCell ⟨B,4,none⟩ a4).setCell ⟨C,0,none⟩ b0).setCell ⟨C,1,none⟩ b1).setCell ⟨C,2,none⟩ b2).setCell ⟨C,3,none⟩ b3).setCell ⟨C,4,none⟩ b4)) :=
 have hx1:Box w0 b E ov B [a0,a1,a2,a3,a4] (putL w B 0 [a0,a1,a2,a3,a4]):=hx.puts _ rfl
 have hy1:=hy.puts_other hne.symm 0 [a0,a1,a2,a3,a4]
 have hx2:=hx1.puts_other hne 0 [b0,b1,b2,b3,b4]
 have hy2:=hy1.puts [b0,b1,b2,b3,b4] rfl
 have h:=(hx2.old (hT _)).blk
 have h2:=(hy2.old (hT _)).blk
 k _ (((hd.puts hx 0 [a0,a1,a2,a3,a4]).puts hy1 0 [b0,b1,b2,b3,b4]).old (hT _)) (((hm.puts hB 0 [a0,a1,a2,a3,a4]).puts hC 0 [b0,b1,b2,b3,b4]).old (hT _)) (h.c 0 _ rfl) (h.c 1 _ rfl) (h.c 2 _ rfl) (h.c 3 _ rfl) (h.c 4 _ rfl) (h2.c 0 _ rfl) (h2.c 1 _ rfl) (h2.c 2 _ rfl) (h2.c 3 _ rfl) (h2.c 4 _ rfl)
theorem dend2a {P:World→Prop} {o:Obj} (hd:Doer w0 A c E b l S n ov w) (hm:Mv b ova wa ov w) (hx:Box w0 b E ov B [x0,x1,x2,x3,x4] w) (hy:Box w0 b E ov C [y0,y1,y2,y3,y4] w) (hB:wa.heap.size≤B) (hC:wa.heap.size≤C) (hne:C ≠ B) (a0 a1 a2 a3 a4 b0 b1 b2 b3 b4:Value)
 (k:∀ w9,Doer w0 A c E b l S n ov w9→Mv b ova wa ov w9→w9.cell? ⟨B,0,none⟩=some a0→w9.cell? ⟨B,1,none⟩=some a1→w9.cell? ⟨B,2,none⟩=some a2→w9.cell? ⟨B,3,none⟩=some a3→w9.cell? ⟨B,4,none⟩=some a4→w9.cell? ⟨C,0,none⟩=some b0→w9.cell? ⟨C,1,none⟩=some b1→w9.cell? ⟨C,2,none⟩=some b2→w9.cell? ⟨C,3,none⟩=some b3→w9.cell? ⟨C,4,none⟩=some b4→P w9) :
 P (((((((((((((w).setCell ⟨B,0,none⟩ a0).setCell ⟨B,1,none⟩ a1).setCell ⟨B,2,none⟩ a2).setCell ⟨B,3,none⟩ a3).setCell ⟨B,4,none⟩ a4)).setCell ⟨C,0,none⟩ b0).setCell ⟨C,1,none⟩ b1).setCell ⟨C,2,none⟩ b2).setCell ⟨C,3,none⟩ b3).setCell ⟨C,4,none⟩ b4).alloc o) :=
 dend2 (P:=P) (fun W=>W.alloc o) (fun W=>box1 W o) hd hm hx hy hB hC hne a0 a1 a2 a3 a4 b0 b1 b2 b3 b4 k
theorem dend2ad {P:World→Prop} {o:Obj} (hd:Doer w0 A c E b l S n ov w) (hm:Mv b ova wa ov w) (hx:Box w0 b E ov B [x0,x1,x2,x3,x4] w) (hy:Box w0 b E ov C [y0,y1,y2,y3,y4] w) (hB:wa.heap.size≤B) (hC:wa.heap.size≤C) (hne:C ≠ B) (a0 a1 a2 a3 a4 b0 b1 b2 b3 b4:Value)
 (k:∀ w9,Doer w0 A c E b l S n ov w9→Mv b ova wa ov w9→w9.cell? ⟨B,0,none⟩=some a0→w9.cell? ⟨B,1,none⟩=some a1→w9.cell? ⟨B,2,none⟩=some a2→w9.cell? ⟨B,3,none⟩=some a3→w9.cell? ⟨B,4,none⟩=some a4→w9.cell? ⟨C,0,none⟩=some b0→w9.cell? ⟨C,1,none⟩=some b1→w9.cell? ⟨C,2,none⟩=some b2→w9.cell? ⟨C,3,none⟩=some b3→w9.cell? ⟨C,4,none⟩=some b4→P w9) :
 P ((((((((((((((w).setCell ⟨B,0,none⟩ a0).setCell ⟨B,1,none⟩ a1).setCell ⟨B,2,none⟩ a2).setCell ⟨B,3,none⟩ a3).setCell ⟨B,4,none⟩ a4)).setCell ⟨C,0,none⟩ b0).setCell ⟨C,1,none⟩ b1).setCell ⟨C,2,none⟩ b2).setCell ⟨C,3,none⟩ b3).setCell ⟨C,4,none⟩ b4).alloc o).drew) :=
 dend2 (P:=P) (fun W=>(W.alloc o).drew) (fun W=>(box1 W o).drew) hd hm hx hy hB hC hne a0 a1 a2 a3 a4 b0 b1 b2 b3 b4 k
end
theorem second_any {w0:World} {A:Option Addr} {c E b n:Nat} {l:List No} {S:St} {ov:Value} (w:World) (k:Nat) (hd:Doer w0 A c E b l S n ov w) (hk:k+1<l.length) (hl:l.length≤400) :
 Calls Tryz.prog 143 #[.pointer (some ⟨b,0,none⟩),.int .i64 (k:Int)] w (Gives (.int .i64 ((l.length - (nx (l.drop (k+1))).length:Nat):Int)) w):=by
 have e1:=hd.blk.c 1 _ rfl
 have e2:=hd.beh (k+1) hk
 generalize l.length - (nx (l.drop (k+1))).length=y at *
 clear hd
 go_enter Tryz.func143,Tryz.ntmps143
 go_wp2_with fail
 go_ret
 exact ⟨rfl,Below.refl _ _⟩
def Std (w0:World) (A:Option Addr) (c E b:Nat) (l:List No) (S:St) (n:Nat) (ov:Value) (w:World) (e:Ending) (w':World):Prop :=
 e=.returned (.tuple #[])∧Doer w0 A c E b l S n ov w'∧Mv b ov w ov w'
theorem stand3_any {w0:World} {A:Option Addr} {c E b n:Nat} {l:List No} {S:St} {ov:Value} (w:World) (i:Int) (hd:Doer w0 A c E b l S n ov w) :
 Calls Tryz.prog 150 #[.pointer (some ⟨b,0,none⟩),.int .i64 3,.agg #[.int .i64 0,.int .i64 i,.string ⟨#[]⟩,.int .i64 0,.int .i64 0]] w (Std w0 A c E b l { S with i:=i } n ov w):=by
 have hd1:=((hd.put5b (S':={ S with i:=i }) (n':=n) 47 (.int .i64 0) (.int .i64 i) (.string ⟨#[]⟩) (.int .i64 0) (.int .i64 0) rfl rfl).old (box1 _ (.cells #[.int .i64 0,.int .i64 i,.string ⟨#[]⟩,.int .i64 0,.int .i64 0] 28))).drew
 have hm1:=(((((((Mv.refl:Mv b ov w ov w).putb 47 (.int .i64 0)).putb 48 (.int .i64 i)).putb 49 (.string ⟨#[]⟩)).putb 50 (.int .i64 0)).putb 51 (.int .i64 0)).old (box1 _ (.cells #[.int .i64 0,.int .i64 i,.string ⟨#[]⟩,.int .i64 0,.int .i64 0] 28))).old (Below.refl _ _).drew
 have HD:=qq hd1;have HM:=qq hm1
 have hlt:=hd.blk.lt
 have c0:=hd.blk.c 47 _ rfl;have c1:=hd.blk.c 48 _ rfl;have c2:=hd.blk.c 49 _ rfl;have c3:=hd.blk.c 50 _ rfl;have c4:=hd.blk.c 51 _ rfl
 have z0:=hd.blk.f 47 _ rfl;have z1:=hd.blk.f 48 _ rfl;have z2:=hd.blk.f 49 _ rfl;have z3:=hd.blk.f 50 _ rfl;have z4:=hd.blk.f 51 _ rfl
 clear hd hd1 hm1
 go_enter Tryz.func150,Tryz.ntmps150
 go_wp2_with fail
 go_region
 go_end0
 exact ⟨rfl,HD.out,HM.out⟩
theorem stand3_def {w0:World} {A:Option Addr} {c E b n:Nat} {l:List No} {S:St} {ov:Value} (w:World) (i:Int) (hd:Doer w0 A c E b l S n ov w) (u:FrameMode) :
 CallsD Tryz.prog 150 #[.pointer (some ⟨b,0,none⟩),.int .i64 3,.agg #[.int .i64 0,.int .i64 i,.string ⟨#[]⟩,.int .i64 0,.int .i64 0]] u w (fun e u' w'=>u'=u∧Std w0 A c E b l { S with i:=i } n ov w e w'):=by
 have hd1:=((hd.put5b (S':={ S with i:=i }) (n':=n) 47 (.int .i64 0) (.int .i64 i) (.string ⟨#[]⟩) (.int .i64 0) (.int .i64 0) rfl rfl).old (box1 _ (.cells #[.int .i64 0,.int .i64 i,.string ⟨#[]⟩,.int .i64 0,.int .i64 0] 28))).drew
 have hm1:=(((((((Mv.refl:Mv b ov w ov w).putb 47 (.int .i64 0)).putb 48 (.int .i64 i)).putb 49 (.string ⟨#[]⟩)).putb 50 (.int .i64 0)).putb 51 (.int .i64 0)).old (box1 _ (.cells #[.int .i64 0,.int .i64 i,.string ⟨#[]⟩,.int .i64 0,.int .i64 0] 28))).old (Below.refl _ _).drew
 have HD:=qq hd1;have HM:=qq hm1
 have hlt:=hd.blk.lt
 have c0:=hd.blk.c 47 _ rfl;have c1:=hd.blk.c 48 _ rfl;have c2:=hd.blk.c 49 _ rfl;have c3:=hd.blk.c 50 _ rfl;have c4:=hd.blk.c 51 _ rfl
 have z0:=hd.blk.f 47 _ rfl;have z1:=hd.blk.f 48 _ rfl;have z2:=hd.blk.f 49 _ rfl;have z3:=hd.blk.f 50 _ rfl;have z4:=hd.blk.f 51 _ rfl
 clear hd hd1 hm1
 go_enter_d Tryz.func150,Tryz.ntmps150
 go_wp2_with fail
 go_region
 go_end0
 exact ⟨rfl,HD.out,HM.out⟩
theorem stand4_any {w0:World} {A:Option Addr} {c E b n:Nat} {l:List No} {S:St} {ov:Value} (w:World) (v:Va) (hd:Doer w0 A c E b l S n ov w) :
 Calls Tryz.prog 150 #[.pointer (some ⟨b,0,none⟩),.int .i64 4,.agg v] w (Std w0 A c E b l { S with it:=v } n ov w):=by
 have hd1:=((hd.put5b (S':={ S with it:=v }) (n':=n) 52 (.int .i64 v.k) (.int .i64 v.n) (.string (tx v.s)) (.int .i64 v.x) (.int .i64 v.y) rfl rfl).old (box1 _ (.cells v 28))).drew
 have hm1:=(((((((Mv.refl:Mv b ov w ov w).putb 52 (.int .i64 v.k)).putb 53 (.int .i64 v.n)).putb 54 (.string (tx v.s))).putb 55 (.int .i64 v.x)).putb 56 (.int .i64 v.y)).old (box1 _ (.cells v 28))).old (Below.refl _ _).drew
 have HD:=qq hd1;have HM:=qq hm1
 have hlt:=hd.blk.lt
 have c0:=hd.blk.c 52 _ rfl;have c1:=hd.blk.c 53 _ rfl;have c2:=hd.blk.c 54 _ rfl;have c3:=hd.blk.c 55 _ rfl;have c4:=hd.blk.c 56 _ rfl
 have z0:=hd.blk.f 52 _ rfl;have z1:=hd.blk.f 53 _ rfl;have z2:=hd.blk.f 54 _ rfl;have z3:=hd.blk.f 55 _ rfl;have z4:=hd.blk.f 56 _ rfl
 clear hd hd1 hm1
 go_enter Tryz.func150,Tryz.ntmps150
 go_wp2_with fail
 go_region
 go_end0
 exact ⟨rfl,HD.out,HM.out⟩
theorem stand4_def {w0:World} {A:Option Addr} {c E b n:Nat} {l:List No} {S:St} {ov:Value} (w:World) (v:Va) (hd:Doer w0 A c E b l S n ov w) (u:FrameMode) :
 CallsD Tryz.prog 150 #[.pointer (some ⟨b,0,none⟩),.int .i64 4,.agg v] u w (fun e u' w'=>u'=u∧Std w0 A c E b l { S with it:=v } n ov w e w'):=by
 have hd1:=((hd.put5b (S':={ S with it:=v }) (n':=n) 52 (.int .i64 v.k) (.int .i64 v.n) (.string (tx v.s)) (.int .i64 v.x) (.int .i64 v.y) rfl rfl).old (box1 _ (.cells v 28))).drew
 have hm1:=(((((((Mv.refl:Mv b ov w ov w).putb 52 (.int .i64 v.k)).putb 53 (.int .i64 v.n)).putb 54 (.string (tx v.s))).putb 55 (.int .i64 v.x)).putb 56 (.int .i64 v.y)).old (box1 _ (.cells v 28))).old (Below.refl _ _).drew
 have HD:=qq hd1;have HM:=qq hm1
 have hlt:=hd.blk.lt
 have c0:=hd.blk.c 52 _ rfl;have c1:=hd.blk.c 53 _ rfl;have c2:=hd.blk.c 54 _ rfl;have c3:=hd.blk.c 55 _ rfl;have c4:=hd.blk.c 56 _ rfl
 have z0:=hd.blk.f 52 _ rfl;have z1:=hd.blk.f 53 _ rfl;have z2:=hd.blk.f 54 _ rfl;have z3:=hd.blk.f 55 _ rfl;have z4:=hd.blk.f 56 _ rfl
 clear hd hd1 hm1
 go_enter_d Tryz.func150,Tryz.ntmps150
 go_wp2_with fail
 go_region
 go_end0
 exact ⟨rfl,HD.out,HM.out⟩
theorem infoP:(Tryz.prog.info? 152).map (fun i=>(i.zero,i.size,i.bytes))=some (some (.agg (pcl ([],vz)).toArray),6,64):=by kernel_rfl
theorem pair_at (W:World) (p:List UInt8 × Va) (ty:TypeId) (b:Nat) (hb:b=W.heap.size):∀ j u,(pcl p)[j]? = some u→(W.alloc (.cells #[.string (tx p.1),.int .i64 p.2.k,.int .i64 p.2.n,.string (tx p.2.s),.int .i64 p.2.x,.int .i64 p.2.y] ty)).cell? ((⟨b,0,none⟩:Addr).add j)=some u:=by
 intro j u hu
 subst hb
 have e:(⟨W.heap.size,0,none⟩:Addr).add j=⟨W.heap.size,j,none⟩:=by
  unfold Addr.add
  split
  · rename_i h;subst h;rfl
  · simp
 rw [e]
 exact (Blk.made W ty (pcl p) rfl).c j u hu
section
variable {w0 W w':World} {A:Option Addr} {c E b n g cap:Nat} {l:List No} {S:St} {ov:Value} {p:List UInt8 × Va}
theorem Doer.cell_far (h:Doer w0 A c E b l S n ov W) (hg:W.grownBy w' ov.ownBlock):w'.cell? ⟨b,57,none⟩=some ov∧w'.frozen? ⟨b,57,none⟩=false :=
 ⟨(hg.cell_far ⟨b,57,none⟩ h.lt (fun e=>h.sb e.symm)).trans (h.blk.c 57 _ rfl),(hg.frozen_far ⟨b,57,none⟩ h.lt (fun e=>h.sb e.symm)).trans (h.blk.f 57 _ rfl)⟩
theorem Doer.grown (h:Doer w0 A c E b l S n ov W) (hl:0<l.length) (ho:w'.ownsRow w0.heap.size 152 6 (.slice (some ⟨g,0,none⟩) (S.out.length+1) cap) (S.out.length+1) (pcells S.out++pcl p)) (hg:W.grownBy w' ov.ownBlock) (hgr:ov.ownBlock=some g∨g=W.heap.size) :
 Doer w0 A c E b l { S with out:=S.out++[p] } n (.slice (some ⟨g,0,none⟩) (S.out.length+1) cap) (w'.setCell ⟨b,57,none⟩ (.slice (some ⟨g,0,none⟩) (S.out.length+1) cap)) ∧
 Mv b ov W (.slice (some ⟨g,0,none⟩) (S.out.length+1) cap) (w'.setCell ⟨b,57,none⟩ (.slice (some ⟨g,0,none⟩) (S.out.length+1) cap)):=by
 have hEl:=h.ltE hl
 have hbl:=h.lt
 have hgb:g ≠ b:=fun e=>by
  rcases hgr with e1 | e1
  · exact h.sb (by rw [e1,e])
  · omega
 have hgE:g ≠ E:=fun e=>by
  rcases hgr with e1 | e1
  · exact h.sE (by rw [e1,e])
  · omega
 have hv:(Value.slice (some ⟨g,0,none⟩) (S.out.length+1) cap).ownBlock=some g:=rfl
 have hblk:Blk w' b (dcs A c E b l.length S n ov):=⟨fun i v x=>(hg.cell_far ⟨b,i,none⟩ hbl (fun e=>h.sb e.symm)).trans (h.blk.c i v x),fun i v x=>(hg.frozen_far ⟨b,i,none⟩ hbl (fun e=>h.sb e.symm)).trans (h.blk.f i v x),Nat.lt_of_lt_of_le hbl hg.size⟩
 refine ⟨⟨(h.fro.grown hg h.fro.size (fun k e=>(h.out.lt k e).1)).setCell h.hb _,h.hb,h.hE,h.ne,(hblk.set 57 _).cast rfl,fun i hi=>?_,?_,fun e=>hgb (by rw [hv] at e;exact Option.some.inj e),fun e=>hgE (by rw [hv] at e;exact Option.some.inj e)⟩,
  ⟨hg.os,hg.tape,hg.output,by simpa using hg.size,fun k hk hkb hko=>(Below.heap_setCell _ _ _ _ hkb).trans (hg.block k hk (fun e=>hko e.symm)),?_⟩⟩
 · rw [World.cell?_setCell_other _ _ _ _ (fun e=>h.ne (by injection e with e1;exact e1.symm))]
   exact (hg.cell_far ⟨E,i,none⟩ hEl (fun e=>h.sE e.symm)).trans (h.beh i hi)
 · show World.ownsRow _ _ _ _ _ (S.out++[p]).length _
   rw [pcells_snoc,List.length_append]
   exact ownsRow_setCell_other ho (by rw [hv];exact fun e=>hgb (Option.some.inj e)) _
 · rw [hv]
   rcases hgr with e1 | e1
   · exact .inl e1.symm
   · exact .inr ⟨g,rfl,by omega⟩
end
theorem infoI:(Tryz.prog.info? 3).map (fun i=>(i.zero,i.size,i.bytes))=some (some (.int .i64 0),1,8):=by kernel_rfl
def bhv (l:List No) (k:Nat):Value:=.int .i64 ((l.length - (nx (l.drop k)).length:Nat):Int)
def BehL (w:World) (l:List No) (wr:World) (k:Nat):Prop:=∃ xs:List Value,xs.length=l.length∧Blk wr w.heap.size xs∧(∀ i,k≤i→i<l.length→xs[i]? = some (bhv l i))∧Below w.heap.size w wr
theorem behL_start (w:World) (l:List No) (ty:TypeId):BehL w l (w.alloc (.cells (madeCells #[.int .i64 0] l.length) ty)) l.length:=by
 refine ⟨List.replicate l.length (.int .i64 0),List.length_replicate,?_,fun i h1 h2=>absurd h2 (by omega),box1 w _⟩
 have h:=Blk.made w ty (madeCells #[.int .i64 0] l.length).toList rfl
 rw [Array.toArray_toList,toList_madeCells_one] at h
 exact h
theorem ex_at {l:List No} (h:Rt l=true) {k:Nat} (hk:k<l.length):∃ r,ex 25 (l.drop k)=some r:=ex_each 25 l [] (Rt_in h).2 k (by simpa using hk)
theorem behinds_any (l:List No) (A:Option Addr) (c:Nat) (w:World) (hn:Nds w A l) (hk:KN w) (hr:Rt l=true):Calls Tryz.prog 53 #[.slice A l.length c] w (fun e w'=>e=.returned (.slice (some ⟨w.heap.size,0,none⟩) l.length l.length)∧Below w.heap.size w w'∧w.heap.size<w'.heap.size∧∀ k,k<l.length→w'.cell? ⟨w.heap.size,k,none⟩=some (bhv l k)):=by
 have hl:=(Rt_in hr).1
 have hmk:=run_make_row' (P:=Tryz.prog) 87 3 (.int .i64 0) 8 Tryz.underlying87 infoI rfl .i64 .i64 l.length (by omega) (by omega)
 have HN:=qq hn;have HK:=qq hk;have HR:=qq hr
 have HPA:=qq (fun o w1=>Go.Proofs.YtgakcpcpfkoaiaaGreatDoor.Ex.parts_any o w1)
 clear hn hk hr
 go_enter Tryz.func53,Tryz.ntmps53
 go_wp2_with fail
 clear hmk
 go_loopw [4] (fun i wr=>∃ k:Nat,k≤l.length∧i=.int .i64 ((k:Int) - 1)∧BehL w l wr k) (fun i _=>(intOf i+1).toNat)
 case atStart=>exact ⟨l.length,Nat.le_refl _,rfl,behL_start w l _⟩
 case round =>
  obtain ⟨k,hkl,rfl,hb⟩:=hrel
  have HB:=qq hb;clear hb
  by_cases h0:k=0
  · subst h0
    go_wp2_with fail
    go_ret
    obtain ⟨xs,h1,h2,h3,h4⟩:=HB.out
    exact ⟨rfl,h4,h2.lt,fun i hi=>h2.c i _ (h3 i (Nat.zero_le _) hi)⟩
  · obtain ⟨j,rfl⟩:∃ j,k=j+1:=⟨k - 1,by omega⟩
    have hjl:j<l.length:=by omega
    rw [show ((j+1:Nat):Int) - 1=(j:Int) by omega]
    obtain ⟨r,hx⟩:=ex_at HR.out hjl
    rw [drop_nd hjl,ex_cons] at hx
    have hrn:rn (nd l j)=true:=by
     rcases Bool.eq_false_or_eq_true (rn (nd l j)) with h | h
     · exact h
     · rw [if_neg (by rw [h];decide)] at hx;cases hx
    rw [if_pos hrn] at hx
    obtain ⟨xs,x1,x2,x3,x4⟩:=HB.out
    obtain ⟨B,O,rfl⟩:=HN.out.shape (by omega)
    have hnw:=HN.out.next x4
    have e0:=hnw.cell hjl 0 _ rfl
    rw [Nat.add_zero] at e0
    have c1:=x2.c j _ (List.getElem?_eq_getElem (by omega))
    have f1:=x2.f j _ (List.getElem?_eq_getElem (by omega))
    have hBl:=HN.out.lt (by omega)
    have hBne:B ≠ w.heap.size:=by omega
    have HX:=qq hx
    have HPO:=qq (HPA.out (nd l j).o)
    unfold ptv at HPO
    have hp3:=pa_le (nd l j).o
    have HXN:Hid (nx (l.drop j)=r):=by
     show _=_
     refine nx_of (d:=25) ?_ (Nat.le_refl _)
     rw [drop_nd hjl,ex_cons,if_pos hrn];exact hx
    have X2:=qq x2;have X3:=qq x3;have X4:=qq x4
    generalize (nd l j).o=o at *
    have hwrap:((j:Int)+1)≤401:=by omega
    clear hnw hx hrn x2 x3 x4 HB
    go_wp2_with fail
    refine (HPO.out _ (HK.out.next (X4.out.setCell (Nat.le_refl _) _))).mono ?_
    rintro e w2 ⟨rfl,hb⟩
    have x2:=(X2.out.set j (.int .i64 ((j:Int)+1))).next hb
    have x4:=Below.next (X4.out.setCell (Nat.le_refl _) (.int .i64 ((j:Int)+1))) hb
    have HXS:Hid (∀ i,j+1≤i→i<l.length→(xs.set j (.int .i64 ((j:Int)+1)))[i]? = some (bhv l i)):=fun i h1 h2=>by
     rw [List.getElem?_set_ne (by omega)];exact X3.out i h1 h2
    have HXJ:Hid ((xs.set j (.int .i64 ((j:Int)+1)))[j]? = some (.int .i64 ((j:Int)+1))):=List.getElem?_set_self (by omega)
    have hxl:(xs.set j (.int .i64 ((j:Int)+1))).length=l.length:=by rw [List.length_set];exact x1
    have X22:=qq x2;have X42:=qq x4;have HXL:=qq hxl
    clear hb x2 x4 X2 X3 X4 c1 f1 e0 hxl
    generalize xs.set j (.int .i64 ((j:Int)+1))=xs2 at *
    clear x1 xs
    go_wp2_with fail
    go_loopw [34] (fun i wr=>∃ (p:Nat) (rp:List No) (xs:List Value),p≤pa o∧i=.int .i64 (p:Int)∧it (ex 24) (pa o - p) rp=some r∧rp.length≤l.length∧rp=l.drop (l.length - rp.length)∧j<l.length - rp.length∧xs.length=l.length∧Blk wr w.heap.size xs∧(∀ i,j+1≤i→i<l.length→xs[i]? = some (bhv l i))∧xs[j]? = some (.int .i64 ((l.length - rp.length:Nat):Int))∧Below w.heap.size w wr) (fun i _=>pa o - (intOf i).toNat)
    case atStart =>
     have hdl:(l.drop (j+1)).length=l.length - (j+1):=List.length_drop
     refine ⟨0,l.drop (j+1),xs2,Nat.zero_le _,rfl,HX.out,by omega,by rw [hdl,show l.length - (l.length - (j+1))=j+1 by omega],by omega,HXL.out,X22.out,HXS.out,?_,X42.out⟩
     rw [hdl,show l.length - (l.length - (j+1))=j+1 by omega];exact HXJ.out
    case round =>
     clear HXS HXJ X22 X42 HXL HX
     obtain ⟨p,rp,xs,hp,rfl,hi,hr1,hr2,hr3,y1,y2,y3,y4,y5⟩:=hrel
     by_cases hlt:p<pa o
     · rw [show pa o - p=(pa o - (p+1))+1 by omega,it_succ] at hi
       obtain ⟨r1,e1,e2⟩:=Option.bind_eq_some_iff.1 hi
       obtain ⟨y,hy⟩:∃ y,l.length - rp.length=y:=⟨_,rfl⟩
       rw [hy] at hr2 hr3 y4
       rw [hr2] at e1
       obtain ⟨g1,g2,g3⟩:=ex_drop_len e1 (by omega)
       have c1:=y2.c j _ y4
       have f1:=y2.f j _ y4
       have c2:=y2.c y _ (y3 y (by omega) (by omega))
       unfold bhv at c2
       rw [nx_of e1 (by omega)] at c2
       obtain ⟨z,hz⟩:∃ z,l.length - r1.length=z:=⟨_,rfl⟩
       rw [hz] at c2 g1 g2
       have hyl:y<l.length:=by omega
       have E2:=qq e2;have Y2:=qq y2;have Y3:=qq y3;have Y5:=qq y5;have HG1:=qq g1;have HZ:=qq hz
       clear hi e1 e2 hr2 y2 y3 y4 y5 g1 hy hz hr1
       go_wp2_with fail
       go_roundw
       case rel =>
        refine ⟨p+1,r1,xs.set j (.int .i64 (z:Int)),by omega,by go_num,E2.out,g3,by rw [HZ.out];exact HG1.out,by rw [HZ.out];omega,by rw [List.length_set];exact y1,Y2.out.set j _,fun i h1 h2=>?_,?_,Y5.out.setCell (Nat.le_refl _) _⟩
        · rw [List.getElem?_set_ne (by omega)];exact Y3.out i h1 h2
        · rw [HZ.out];exact List.getElem?_set_self (by omega)
       case measure=>simp [intOf];omega
     · obtain rfl:p=pa o:=by omega
       rw [Nat.sub_self,it_zero] at hi
       obtain rfl:=Option.some.inj hi
       have Y2:=qq y2;have Y3:=qq y3;have Y5:=qq y5;have Y4:=qq y4
       clear hi hr1 hr2 y2 y3 y5 y4
       go_wp2_with fail
       go_roundw
       case rel =>
        refine ⟨j,by omega,by go_num,xs,y1,Y2.out,fun i h1 h2=>?_,Y5.out⟩
        by_cases h:i=j
        · subst h
          unfold bhv
          rw [HXN.out];exact Y4.out
        · exact Y3.out i (by omega) h2
       case measure=>simp [intOf]
end Go.Proofs.YtgakcpcpfkoaiaaGreatDoor.Ev
namespace Go.Proofs.YtgakcpcpfkoaiaaGreatDoor.Ex
open Go.ChangeShapes Go.WideShapes Go.ChangeAt Go.RowKit Ov Va
theorem xright_any (l:List No) (A:Option Addr) (c:Nat) (w:World) (hn:Nds w A l) (hl:l.length≤4294967296):Calls Tryz.prog 28 #[.slice A l.length c] w (Gives (.bool (Rt l)) w):=by
 rw [Rt_val]
 by_cases h4:l.length≤400
 · rw [decide_eq_true h4,Bool.true_and]
   have HC:=qq (one_any 25 l A c 0 0 w hn rfl hl)
   rw [List.drop_zero] at HC
   clear hn
   obtain ⟨x,hx⟩:∃ x,ex 25 l=x:=⟨_,rfl⟩
   rw [hx] at HC ⊢
   have HX:=qq hx;clear hx
   cases x with
   | none =>
     rw [decide_eq_false (show ¬ (none:Option (List No))=some [] by simp)]
     unfold onv at HC
     have g:((-1:Int) == (l.length:Int))=false:=by rw [beq_eq_false_iff_ne];omega
     go_enter Tryz.func28,Tryz.ntmps28
     go_wp2_with fail
     refine HC.out.mono ?_
     rintro e w1 ⟨rfl,hb⟩
     have HB:=qq hb;clear hb
     go_wp2_with fail
     go_ret
     exact ⟨rfl,HB.out⟩
   | some r =>
     have hr:=(ex_len HX.out).1
     unfold onv at HC
     dsimp only at HC
     obtain ⟨v,hv⟩:∃ v,l.length - r.length=v:=⟨_,rfl⟩
     rw [hv] at HC
     have HE:decide (some r=some ([]:List No))=((v:Int) == (l.length:Int)):=by
      rw [Bool.eq_iff_iff]
      simp only [decide_eq_true_eq,beq_iff_eq,Option.some.injEq]
      constructor
      · rintro rfl;rw [List.length_nil] at hv;omega
      · intro h;exact List.eq_nil_of_length_eq_zero (by omega)
     rw [HE]
     clear HE hv HX hr
     go_enter Tryz.func28,Tryz.ntmps28
     go_wp2_with fail
     refine HC.out.mono ?_
     rintro e w1 ⟨rfl,hb⟩
     have HB:=qq hb;clear hb
     go_wp2_with fail
     go_ret
     exact ⟨rfl,HB.out⟩
 · rw [decide_eq_false h4,Bool.false_and]
   have h5:400<l.length:=by omega
   clear hn
   go_enter Tryz.func28,Tryz.ntmps28
   go_wp2_with fail
   go_ret
   exact ⟨rfl,Below.refl _ _⟩
end Go.Proofs.YtgakcpcpfkoaiaaGreatDoor.Ex
namespace Go.Proofs.YtgakcpcpfkoaiaaGreatDoor.Ev
open Go.ChangeShapes Go.WideShapes Go.ChangeAt Go.RowKit Ov Va Ex
def mcs (A:Option Addr) (c E len:Nat) (S:St) (n:Nat) (xe:Int) (ov:Value):List Value :=
 .slice A len c :: .slice (some ⟨E,0,none⟩) len len :: .string (tx S.key) :: (vcl S.val++(vcl S.acc++(.int .i64 S.i :: (vcl S.it++[ov,.int .i64 (n:Int),.int .i64 xe]))))
structure Mac (w0:World) (A:Option Addr) (c E b:Nat) (l:List No) (S:St) (n:Nat) (xe:Int) (ov:Value) (w:World):Prop where
 fro:Below w0.heap.size w0 w
 hb:w0.heap.size≤b
 hE:w0.heap.size≤E
 ne:E ≠ b
 blk:Blk w b (mcs A c E l.length S n xe ov)
 beh:∀ k,k<l.length→w.cell? ⟨E,k,none⟩=some (.int .i64 ((l.length - (nx (l.drop k)).length:Nat):Int))
 out:w.ownsRow w0.heap.size 152 6 ov S.out.length (pcells S.out)
 sb:ov.ownBlock ≠ some b
 sE:ov.ownBlock ≠ some E
section
variable {w0 w w':World} {A:Option Addr} {c E b B n n':Nat} {l:List No} {S S':St} {xe xe':Int} {ov ov':Value} {xs:List Value}
theorem Mac.ltE (h:Mac w0 A c E b l S n xe ov w) (hl:0<l.length):E<w.heap.size:=block_lt_of_cell (h.beh 0 hl)
theorem Mac.olt (h:Mac w0 A c E b l S n xe ov w):ov.ownBlock ≠ some w.heap.size:=fun e=>by have:=(h.out.lt _ e).2;omega
theorem Mac.old (h:Mac w0 A c E b l S n xe ov w) (k:Below w.heap.size w w'):Mac w0 A c E b l S n xe ov w' :=
 ⟨Below.next h.fro k,h.hb,h.hE,h.ne,h.blk.next k,fun i hi=>(k.cell (p:=⟨E,i,none⟩) (block_lt_of_cell (h.beh i hi))).trans (h.beh i hi),own_old h.out k,h.sb,h.sE⟩
theorem Mac.put (h:Mac w0 A c E b l S n xe ov w) (k:Box w0 b E ov B xs w) (j:Nat) (v:Value):Mac w0 A c E b l S n xe ov (w.setCell ⟨B,j,none⟩ v) :=
 ⟨h.fro.setCell k.lo _,h.hb,h.hE,h.ne,h.blk.put k.nb _ _,fun i hi=>(World.cell?_setCell_other _ _ _ _ (fun e=>k.nE (by injection e))).trans (h.beh i hi),
  ownsRow_setCell_other h.out (by simpa using k.no) _,h.sb,h.sE⟩
theorem Mac.putb (h:Mac w0 A c E b l S n xe ov w) (j:Nat) (v:Value) (hs:(mcs A c E l.length S n xe ov).set j v=mcs A c E l.length S' n' xe' ov) (ho:S'.out=S.out):Mac w0 A c E b l S' n' xe' ov (w.setCell ⟨b,j,none⟩ v) :=
 ⟨h.fro.setCell h.hb _,h.hb,h.hE,h.ne,(h.blk.set j v).cast hs,fun i hi=>(World.cell?_setCell_other _ _ _ _ (fun e=>h.ne (by injection e with e1;exact e1.symm))).trans (h.beh i hi),
  by rw [ho];exact ownsRow_setCell_other h.out (by simpa using h.sb) _,h.sb,h.sE⟩
theorem Mac.drew (h:Mac w0 A c E b l S n xe ov w):Mac w0 A c E b l S n xe ov w.drew:=h.old (Below.refl _ _).drew
theorem Mac.lt (h:Mac w0 A c E b l S n xe ov w):b<w.heap.size:=h.blk.lt
theorem Mac.put5b (h:Mac w0 A c E b l S n xe ov w) (o:Nat) (a0 a1 a2 a3 a4:Value) (hs:((((((mcs A c E l.length S n xe ov).set o a0).set (o+1) a1).set (o+2) a2).set (o+3) a3).set (o+4) a4)=mcs A c E l.length S' n' xe' ov) (ho:S'.out=S.out):Mac w0 A c E b l S' n' xe' ov (((((w.setCell ⟨b,o,none⟩ a0).setCell ⟨b,o+1,none⟩ a1).setCell ⟨b,o+2,none⟩ a2).setCell ⟨b,o+3,none⟩ a3).setCell ⟨b,o+4,none⟩ a4):=by
 have hne:∀ (i j:Nat) (W:World) (v:Value),(W.setCell ⟨b,j,none⟩ v).cell? ⟨E,i,none⟩=W.cell? ⟨E,i,none⟩:=fun i j W v=>World.cell?_setCell_other _ _ _ _ (fun e=>h.ne (by injection e with e1;exact e1.symm))
 have hsb:∀ j,ov.ownBlock ≠ some (Addr.mk b j none).block:=fun j=>h.sb
 refine ⟨((((h.fro.setCell h.hb _).setCell h.hb _).setCell h.hb _).setCell h.hb _).setCell h.hb _,h.hb,h.hE,h.ne,(((((h.blk.set o a0).set (o+1) a1).set (o+2) a2).set (o+3) a3).set (o+4) a4).cast hs,fun i hi=>?_,?_,h.sb,h.sE⟩
 · rw [hne,hne,hne,hne,hne];exact h.beh i hi
 · rw [ho];exact ownsRow_setCell_other (ownsRow_setCell_other (ownsRow_setCell_other (ownsRow_setCell_other (ownsRow_setCell_other h.out (hsb _) _) (hsb _) _) (hsb _) _) (hsb _) _) (hsb _) _
theorem Box.makeM (h:Mac w0 A c E b l S n xe ov w) (hl:0<l.length) (t:TypeId) (xs:List Value):Box w0 b E ov w.heap.size xs (w.alloc (.cells xs.toArray t)) :=
 ⟨Blk.made w t xs rfl,fun e=>by have:=h.blk.lt;omega,fun e=>by have:=h.ltE hl;omega,h.olt,h.fro.size⟩
theorem Mac.all5 (h:Mac w0 A c E b l S n xe ov w) (k:Box w0 b E ov B xs w) (a0 a1 a2 a3 a4:Value):Mac w0 A c E b l S n xe ov (((((w.setCell ⟨B,0,none⟩ a0).setCell ⟨B,1,none⟩ a1).setCell ⟨B,2,none⟩ a2).setCell ⟨B,3,none⟩ a3).setCell ⟨B,4,none⟩ a4) :=
 ((((h.put k 0 a0).put (k.set 0 a0) 1 a1).put ((k.set 0 a0).set 1 a1) 2 a2).put (((k.set 0 a0).set 1 a1).set 2 a2) 3 a3).put ((((k.set 0 a0).set 1 a1).set 2 a2).set 3 a3) 4 a4
end
def Rn (X:Rs Va) (w0:World) (A:Option Addr) (c E b:Nat) (l:List No) (ov:Value) (w:World) (e:Ending) (w':World):Prop :=
 ∃ (v:Va) (x:Int) (S':St) (n':Nat) (ov':Value),e=.returned (.agg v)∧Ans X (fun a=>v=a) x S' n'∧(x ≠ 0→v=vz)∧Mac w0 A c E b l S' n' x ov' w'∧Mv b ov w ov' w'
section
variable {w0 w wa:World} {A:Option Addr} {c E b B C n:Nat} {l:List No} {S:St} {xe:Int} {ov ova:Value} {x0 x1 x2 x3 x4:Value} {ys:List Value}
theorem Box.five (h:Box w0 b E ov B [x0,x1,x2,x3,x4] w):w.cell? ⟨B,0,none⟩=some x0∧w.cell? ⟨B,1,none⟩=some x1∧w.cell? ⟨B,2,none⟩=some x2∧w.cell? ⟨B,3,none⟩=some x3∧w.cell? ⟨B,4,none⟩=some x4∧w.frozen? ⟨B,0,none⟩=false∧w.frozen? ⟨B,1,none⟩=false∧w.frozen? ⟨B,2,none⟩=false∧w.frozen? ⟨B,3,none⟩=false∧w.frozen? ⟨B,4,none⟩=false∧B<w.heap.size :=
 ⟨h.blk.c 0 _ rfl,h.blk.c 1 _ rfl,h.blk.c 2 _ rfl,h.blk.c 3 _ rfl,h.blk.c 4 _ rfl,h.blk.f 0 _ rfl,h.blk.f 1 _ rfl,h.blk.f 2 _ rfl,h.blk.f 3 _ rfl,h.blk.f 4 _ rfl,h.blk.lt⟩
theorem mend {P:World→Prop} (hd:Mac w0 A c E b l S n xe ov w) (hm:Mv b ova wa ov w) (hx:Box w0 b E ov B [x0,x1,x2,x3,x4] w) (hB:wa.heap.size≤B) (a0 a1 a2 a3 a4:Value)
 (k:∀ w9,Mac w0 A c E b l S n xe ov w9→Mv b ova wa ov w9→w9.cell? ⟨B,0,none⟩=some a0→w9.cell? ⟨B,1,none⟩=some a1→w9.cell? ⟨B,2,none⟩=some a2→w9.cell? ⟨B,3,none⟩=some a3→w9.cell? ⟨B,4,none⟩=some a4→P w9):P (((((w.setCell ⟨B,0,none⟩ a0).setCell ⟨B,1,none⟩ a1).setCell ⟨B,2,none⟩ a2).setCell ⟨B,3,none⟩ a3).setCell ⟨B,4,none⟩ a4) :=
 have hb:Blk _ B [a0,a1,a2,a3,a4]:=(((((hx.set 0 a0).set 1 a1).set 2 a2).set 3 a3).set 4 a4).blk
 k _ (hd.all5 hx a0 a1 a2 a3 a4) (hm.all5 hB a0 a1 a2 a3 a4) (hb.c 0 _ rfl) (hb.c 1 _ rfl) (hb.c 2 _ rfl) (hb.c 3 _ rfl) (hb.c 4 _ rfl)
theorem mput2 {P:World→Prop} (hd:Mac w0 A c E b l S n xe ov w) (hm:Mv b ova wa ov w) (hx:Box w0 b E ov B [x0,x1,x2,x3,x4] w) (hy:Box w0 b E ov C ys w) (hB:wa.heap.size≤B) (hne:B ≠ C) (a3 a4:Value)
 (k:∀ w9,Mac w0 A c E b l S n xe ov w9→Mv b ova wa ov w9→Box w0 b E ov B [x0,x1,x2,a3,a4] w9→Box w0 b E ov C ys w9→P w9):P ((w.setCell ⟨B,3,none⟩ a3).setCell ⟨B,4,none⟩ a4) :=
 k _ ((hd.put hx 3 a3).put (hx.set 3 a3) 4 a4) ((hm.put hB 3 a3).put hB 4 a4) ((hx.set 3 a3).set 4 a4) ((hy.put hne 3 a3).put hne 4 a4)
end
section
variable {w0 w:World} {A:Option Addr} {c E b n:Nat} {l:List No} {S:St} {xe:Int} {ov:Value}
theorem mbox1 (hd:Mac w0 A c E b l S n xe ov w) (hl:0<l.length) (t0:TypeId) (x0:List Value) :
 ∃ w1,(w.alloc (.cells x0.toArray t0))=w1∧Mac w0 A c E b l S n xe ov w1∧Mv b ov w ov w1∧Below w.heap.size w w1∧w1.heap.size=w.heap.size+1∧Box w0 b E ov (w.heap.size) x0 w1:=by
 exact ⟨_,rfl,hd.old (box1 w _),Mv.refl.old (box1 w _),box1 w _,World.size_alloc _ _,Box.makeM hd hl t0 x0⟩
theorem mbox2 (hd:Mac w0 A c E b l S n xe ov w) (hl:0<l.length) (t0:TypeId) (x0:List Value) (t1:TypeId) (x1:List Value) :
 ∃ w1,((w.alloc (.cells x0.toArray t0)).alloc (.cells x1.toArray t1))=w1∧Mac w0 A c E b l S n xe ov w1∧Mv b ov w ov w1∧Below w.heap.size w w1∧w1.heap.size=w.heap.size+2∧Box w0 b E ov (w.heap.size) x0 w1∧Box w0 b E ov (w.heap.size+1) x1 w1:=by
 obtain ⟨w1,e,h1,h2,h3,h4,k0⟩:=mbox1 hd hl t0 x0
 have hb:=Box.makeM h1 hl t1 x1
 rw [h4] at hb
 rw [e]
 exact ⟨_,rfl,h1.old (box1 w1 _),h2.old (box1 w1 _),Below.next h3 (box1 w1 _),by rw [World.size_alloc,h4],k0.old (box1 w1 _),hb⟩
theorem mbox3 (hd:Mac w0 A c E b l S n xe ov w) (hl:0<l.length) (t0:TypeId) (x0:List Value) (t1:TypeId) (x1:List Value) (t2:TypeId) (x2:List Value) :
 ∃ w1,(((w.alloc (.cells x0.toArray t0)).alloc (.cells x1.toArray t1)).alloc (.cells x2.toArray t2))=w1∧Mac w0 A c E b l S n xe ov w1∧Mv b ov w ov w1∧Below w.heap.size w w1∧w1.heap.size=w.heap.size+3∧Box w0 b E ov (w.heap.size) x0 w1∧Box w0 b E ov (w.heap.size+1) x1 w1∧Box w0 b E ov (w.heap.size+2) x2 w1:=by
 obtain ⟨w1,e,h1,h2,h3,h4,k0,k1⟩:=mbox2 hd hl t0 x0 t1 x1
 have hb:=Box.makeM h1 hl t2 x2
 rw [h4] at hb
 rw [e]
 exact ⟨_,rfl,h1.old (box1 w1 _),h2.old (box1 w1 _),Below.next h3 (box1 w1 _),by rw [World.size_alloc,h4],k0.old (box1 w1 _),k1.old (box1 w1 _),hb⟩
theorem mbox4 (hd:Mac w0 A c E b l S n xe ov w) (hl:0<l.length) (t0:TypeId) (x0:List Value) (t1:TypeId) (x1:List Value) (t2:TypeId) (x2:List Value) (t3:TypeId) (x3:List Value) :
 ∃ w1,((((w.alloc (.cells x0.toArray t0)).alloc (.cells x1.toArray t1)).alloc (.cells x2.toArray t2)).alloc (.cells x3.toArray t3))=w1∧Mac w0 A c E b l S n xe ov w1∧Mv b ov w ov w1∧Below w.heap.size w w1∧w1.heap.size=w.heap.size+4∧Box w0 b E ov (w.heap.size) x0 w1∧Box w0 b E ov (w.heap.size+1) x1 w1∧Box w0 b E ov (w.heap.size+2) x2 w1∧Box w0 b E ov (w.heap.size+3) x3 w1:=by
 obtain ⟨w1,e,h1,h2,h3,h4,k0,k1,k2⟩:=mbox3 hd hl t0 x0 t1 x1 t2 x2
 have hb:=Box.makeM h1 hl t3 x3
 rw [h4] at hb
 rw [e]
 exact ⟨_,rfl,h1.old (box1 w1 _),h2.old (box1 w1 _),Below.next h3 (box1 w1 _),by rw [World.size_alloc,h4],k0.old (box1 w1 _),k1.old (box1 w1 _),k2.old (box1 w1 _),hb⟩
end
section
variable {w wa:World} {B:Nat} {x0 x1 x2 x3 x4:Value}
theorem blk_five (h:Blk w B [x0,x1,x2,x3,x4]):w.cell? ⟨B,0,none⟩=some x0∧w.cell? ⟨B,1,none⟩=some x1∧w.cell? ⟨B,2,none⟩=some x2∧w.cell? ⟨B,3,none⟩=some x3∧w.cell? ⟨B,4,none⟩=some x4∧w.frozen? ⟨B,0,none⟩=false∧w.frozen? ⟨B,1,none⟩=false∧w.frozen? ⟨B,2,none⟩=false∧w.frozen? ⟨B,3,none⟩=false∧w.frozen? ⟨B,4,none⟩=false∧B<w.heap.size :=
 ⟨h.c 0 _ rfl,h.c 1 _ rfl,h.c 2 _ rfl,h.c 3 _ rfl,h.c 4 _ rfl,h.f 0 _ rfl,h.f 1 _ rfl,h.f 2 _ rfl,h.f 3 _ rfl,h.f 4 _ rfl,h.lt⟩
theorem bend {P:World→Prop} {m:Nat} (hx:Blk w B [x0,x1,x2,x3,x4]) (hb:Below m wa w) (hB:m≤B) (a0 a1 a2 a3 a4:Value)
 (k:∀ w9,Blk w9 B [a0,a1,a2,a3,a4]→Below m wa w9→w9.cell? ⟨B,0,none⟩=some a0→w9.cell? ⟨B,1,none⟩=some a1→w9.cell? ⟨B,2,none⟩=some a2→w9.cell? ⟨B,3,none⟩=some a3→w9.cell? ⟨B,4,none⟩=some a4→P w9):P (((((w.setCell ⟨B,0,none⟩ a0).setCell ⟨B,1,none⟩ a1).setCell ⟨B,2,none⟩ a2).setCell ⟨B,3,none⟩ a3).setCell ⟨B,4,none⟩ a4) :=
 have h:Blk _ B [a0,a1,a2,a3,a4]:=((((hx.set 0 a0).set 1 a1).set 2 a2).set 3 a3).set 4 a4
 k _ h (((((hb.setCell hB _).setCell hB _).setCell hB _).setCell hB _).setCell hB _) (h.c 0 _ rfl) (h.c 1 _ rfl) (h.c 2 _ rfl) (h.c 3 _ rfl) (h.c 4 _ rfl)
theorem bend2 {P:World→Prop} {m:Nat} (hx:Blk w B [x0,x1,x2,x3,x4]) (hb:Below m wa w) (hB:m≤B) {C:Nat} {ys:List Value} (hy:Blk w C ys) (hne:B ≠ C) (a0 a1 a2 a3 a4:Value)
 (k:∀ w9,Blk w9 C ys→Blk w9 B [a0,a1,a2,a3,a4]→Below m wa w9→w9.cell? ⟨B,0,none⟩=some a0→w9.cell? ⟨B,1,none⟩=some a1→w9.cell? ⟨B,2,none⟩=some a2→w9.cell? ⟨B,3,none⟩=some a3→w9.cell? ⟨B,4,none⟩=some a4→P w9):P (((((w.setCell ⟨B,0,none⟩ a0).setCell ⟨B,1,none⟩ a1).setCell ⟨B,2,none⟩ a2).setCell ⟨B,3,none⟩ a3).setCell ⟨B,4,none⟩ a4) :=
 have h:Blk _ B [a0,a1,a2,a3,a4]:=((((hx.set 0 a0).set 1 a1).set 2 a2).set 3 a3).set 4 a4
 k _ (((((hy.put hne 0 a0).put hne 1 a1).put hne 2 a2).put hne 3 a3).put hne 4 a4) h (((((hb.setCell hB _).setCell hB _).setCell hB _).setCell hB _).setCell hB _) (h.c 0 _ rfl) (h.c 1 _ rfl) (h.c 2 _ rfl) (h.c 3 _ rfl) (h.c 4 _ rfl)
end
end Go.Proofs.YtgakcpcpfkoaiaaGreatDoor.Ev
namespace Go.Proofs.YtgakcpcpfkoaiaaGreatDoor.Ev
open Go.ChangeShapes Go.WideShapes Go.ChangeAt Go.RowKit Ov Va Ga Ex
theorem rright_va (v:Va) (w:World):Calls Tryz.prog 18 #[.agg v] w (Gives (.bool (rt v)) w):=by
 have h:=rright_val v.k v.n v.x v.y (tx v.s) w
 rw [tx_list] at h
 exact h
theorem mnum_any (n:Int) (w:World):Calls Tryz.prog 113 #[.int .i64 n] w (Gives (.agg #[.int .i64 0,.int .i64 n,.string ⟨#[]⟩,.int .i64 0,.int .i64 0]) w):=by
 go_enter Tryz.func113,Tryz.ntmps113
 go_wp2_with fail
 refine bodyPost_ret (v:=.agg #[.int .i64 0,.int .i64 n,.string ⟨#[]⟩,.int .i64 0,.int .i64 0]) (by simp [results,Tryz.results113,go_sem]) rfl ⟨rfl,?_⟩
 exact box1 w _
theorem mtext_any (s:ByteArray) (w:World):Calls Tryz.prog 112 #[.string s] w (Gives (.agg #[.int .i64 1,.int .i64 0,.string s,.int .i64 0,.int .i64 0]) w):=by
 go_enter Tryz.func112,Tryz.ntmps112
 go_wp2_with fail
 refine bodyPost_ret (v:=.agg #[.int .i64 1,.int .i64 0,.string s,.int .i64 0,.int .i64 0]) (by simp [results,Tryz.results112,go_sem]) rfl ⟨rfl,?_⟩
 exact box1 w _
theorem mabs_any (a:Int) (h:-9223372036854775807≤a∧a≤9223372036854775807) (w:World):Calls Tryz.prog 166 #[.int .i64 a] w (Gives (.int .i64 (max a (-a))) w):=by
 obtain ⟨h1,h2⟩:=h
 go_enter Tryz.func166,Tryz.ntmps166
 go_wp2_with fail
 go_ret
 exact ⟨rfl,Below.refl _ _⟩
theorem mfail_any {w0:World} {A:Option Addr} {c E b n:Nat} {l:List No} {S:St} {ov:Value} {w:World} (x:Int) (hx:x ≠ 0) (hd:Mac w0 A c E b l S n 0 ov w) (hl:0<l.length):Calls Tryz.prog 111 #[.pointer (some ⟨b,0,none⟩),.int .i64 x] w (Rn (.er x) w0 A c E b l ov w):=by
 have hlt:=hd.lt
 have e0:=hd.blk.c 21 _ rfl;have f0:=hd.blk.f 21 _ rfl
 have hd1:=hd.putb (S':=S) (n':=n) (xe':=x) 21 (.int .i64 x) rfl rfl
 have hm1:Mv b ov w ov (w.setCell ⟨b,21,none⟩ (.int .i64 x)):=Mv.refl.putb 21 (.int .i64 x)
 have hx1:=Box.makeM hd1 hl 28 zz
 have hd2:=hd1.old (box1 (w.setCell ⟨b,21,none⟩ (.int .i64 x)) (.cells zz 28));have hm2:=hm1.old (box1 (w.setCell ⟨b,21,none⟩ (.int .i64 x)) (.cells zz 28))
 have HD:=qq hd2;have HM:=qq hm2;have HX0:=qq hx;have HB:=qq hx1
 clear hd hd1 hm1 hx1 hd2 hm2 hx
 go_enter Tryz.func111,Tryz.ntmps111
 go_wp2_with fail
 refine bodyPost_ret (v:=.agg zz) (by simp [results,Tryz.results111,go_sem]) rfl ⟨vz,x,S,n,ov,rfl,Ans.er rfl rfl HX0.out,fun _=>rfl,HD.out,HM.out⟩
theorem mright_any {w0:World} {A:Option Addr} {c E b n:Nat} {l:List No} {S:St} {ov:Value} {w:World} (v:Va) (hd:Mac w0 A c E b l S n 0 ov w) (hl:0<l.length):Calls Tryz.prog 155 #[.pointer (some ⟨b,0,none⟩),.agg v] w (Rn (lift (chk v) S n) w0 A c E b l ov w):=by
 have HR:=qq (rright_va v)
 have HF:=qq (fun w1 (h:Mac w0 A c E b l S n 0 ov w1)=>mfail_any 14 (by decide) h hl)
 have hl0:Hid (0<l.length):=hl
 obtain ⟨w1,hw1,hd1,hm1,hbel,hsz,hbV,hbX⟩:=mbox2 hd hl 28 v 28 zz
 have HD1:=qq hd1;have HM1:=qq hm1;have HW1:=qq hw1;have HV1:=qq hbV;have HX1:=qq hbX
 clear hd hd1 hm1 hbel hsz hw1 hbV hbX
 go_enter Tryz.func155,Tryz.ntmps155
 go_wp2_with fail
 rw [HW1.out]
 refine (HR.out _).mono ?_
 rintro e w2 ⟨rfl,hb⟩
 have HD2:=qq (HD1.out.old hb)
 have HM2:=qq (HM1.out.old hb)
 have HV2:=qq (HV1.out.old hb)
 have HX2:=qq (HX1.out.old hb)
 clear hb HD1 HM1 HV1 HX1  
 rcases Bool.eq_false_or_eq_true (rt v) with hr | hr
 · have HRR:Hid (lift (chk v) S n=.ok v S n):=by show _=_;unfold chk;rw [if_pos hr];rfl
   rw [hr]
   clear hr
   obtain ⟨qV0,qV1,qV2,qV3,qV4⟩:=ck5 HV2.out.blk
   obtain ⟨cX0,cX1,cX2,cX3,cX4,zX0,zX1,zX2,zX3,zX4,hltX⟩:=HX2.out.five
   go_wp2_with fail
   refine mend (P:=bodyPost _ _ _ _ _) HD2.out HM2.out HX2.out (by omega) _ _ _ _ _ ?_
   clear HD2 HM2 HV2 HX2 qV0 qV1 qV2 qV3 qV4 cX0 cX1 cX2 cX3 cX4 zX0 zX1 zX2 zX3 zX4
   intro w9 hd9 hm9 c0 c1 c2 c3 c4
   refine bodyPost_ret (v:=.agg v) (by simp [results,Tryz.results155,go_sem,c0,c1,c2,c3,c4]) rfl ⟨v,0,S,n,ov,rfl,Ans.ok HRR.out rfl,fun h=>absurd rfl h,hd9,hm9⟩
 · have HRR:Hid (lift (chk v) S n=.er 14):=by show _=_;unfold chk;rw [if_neg (by rw [hr];decide)];rfl
   rw [hr]
   clear hr
   go_wp2_with fail
   refine (HF.out _ HD2.out).mono ?_
   rintro e w3 ⟨u,x,S1,n1,ov1,rfl,ha,hz,hd3,hm3⟩
   have HA:=qq ha;have HZ:=qq hz;have HD3:=qq hd3;have HM3:=qq (HM2.out.trans hm3);have HX3:=qq (HX2.out.mv hm3)
   clear ha hz hd3 hm3 HD2 HM2 HX2 HV2
   obtain ⟨cX0,cX1,cX2,cX3,cX4,zX0,zX1,zX2,zX3,zX4,hltX⟩:=HX3.out.five
   go_wp2_with fail
   refine mend (P:=bodyPost _ _ _ _ _) HD3.out HM3.out HX3.out (by omega) _ _ _ _ _ ?_
   clear HD3 HM3 HX3 cX0 cX1 cX2 cX3 cX4 zX0 zX1 zX2 zX3 zX4
   intro w9 hd9 hm9 c0 c1 c2 c3 c4
   refine bodyPost_ret (v:=.agg u) (by simp [results,Tryz.results155,go_sem,c0,c1,c2,c3,c4]) rfl ⟨u,x,S1,n1,ov1,rfl,by rw [HRR.out];exact HA.out,HZ.out,hd9,hm9⟩
end Go.Proofs.YtgakcpcpfkoaiaaGreatDoor.Ev
namespace Go.Proofs.YtgakcpcpfkoaiaaGreatDoor.Ev
open Go.ChangeShapes Go.WideShapes Go.ChangeAt Go.RowKit Ov Va Ex
section
variable {w0 w wa:World} {A:Option Addr} {c E b B C n:Nat} {l:List No} {S:St} {xe:Int} {ov ova:Value} {x0 x1 x2 x3 x4:Value} {ys:List Value}
theorem mput3 {P:World→Prop} {D:Nat} {zs:List Value} (hd:Mac w0 A c E b l S n xe ov w) (hm:Mv b ova wa ov w) (hx:Box w0 b E ov B [x0,x1,x2,x3,x4] w) (hy:Box w0 b E ov C ys w) (hz:Box w0 b E ov D zs w) (hB:wa.heap.size≤B) (hne:B ≠ C) (hne2:B ≠ D) (a3 a4:Value)
 (k:∀ w9,Mac w0 A c E b l S n xe ov w9→Mv b ova wa ov w9→Box w0 b E ov B [x0,x1,x2,a3,a4] w9→Box w0 b E ov C ys w9→Box w0 b E ov D zs w9→P w9):P ((w.setCell ⟨B,3,none⟩ a3).setCell ⟨B,4,none⟩ a4) :=
 k _ ((hd.put hx 3 a3).put (hx.set 3 a3) 4 a4) ((hm.put hB 3 a3).put hB 4 a4) ((hx.set 3 a3).set 4 a4) ((hy.put hne 3 a3).put hne 4 a4) ((hz.put hne2 3 a3).put hne2 4 a4)
end
section
variable {w0 w wa:World} {A:Option Addr} {c E b B n:Nat} {l:List No} {S:St} {xe:Int} {ov ova:Value} {x0 x1 x2 x3 x4:Value}
theorem mstore5 {P:World→Prop} (hd:Mac w0 A c E b l S n xe ov w) (hm:Mv b ova wa ov w) (hx:Box w0 b E ov B [x0,x1,x2,x3,x4] w) (hB:wa.heap.size≤B) (a0 a1 a2 a3 a4:Value)
 (k:∀ w9,Mac w0 A c E b l S n xe ov w9→Mv b ova wa ov w9→Box w0 b E ov B [a0,a1,a2,a3,a4] w9→(∀ C ys,B ≠ C→Box w0 b E ov C ys w→Box w0 b E ov C ys w9)→P w9):P (((((w.setCell ⟨B,0,none⟩ a0).setCell ⟨B,1,none⟩ a1).setCell ⟨B,2,none⟩ a2).setCell ⟨B,3,none⟩ a3).setCell ⟨B,4,none⟩ a4) :=
 k _ (hd.all5 hx a0 a1 a2 a3 a4) (hm.all5 hB a0 a1 a2 a3 a4) (((((hx.set 0 a0).set 1 a1).set 2 a2).set 3 a3).set 4 a4) (fun _ _ hc h=>((((h.put hc 0 a0).put hc 1 a1).put hc 2 a2).put hc 3 a3).put hc 4 a4)
theorem mit5 {P:World→Prop} (hd:Mac w0 A c E b l S n xe ov w) (hm:Mv b ova wa ov w) (u:Va)
 (k:∀ w9,Mac w0 A c E b l { S with it:=u } n xe ov w9→Mv b ova wa ov w9→(∀ C ys,Box w0 b E ov C ys w→Box w0 b E ov C ys w9)→P w9):P (((((w.setCell ⟨b,14,none⟩ (.int .i64 u.k)).setCell ⟨b,15,none⟩ (.int .i64 u.n)).setCell ⟨b,16,none⟩ (.string (tx u.s))).setCell ⟨b,17,none⟩ (.int .i64 u.x)).setCell ⟨b,18,none⟩ (.int .i64 u.y)) :=
 k _ (hd.put5b (S':={ S with it:=u }) (n':=n) (xe':=xe) 14 _ _ _ _ _ rfl rfl) (((((hm.putb 14 _).putb 15 _).putb 16 _).putb 17 _).putb 18 _)
  (fun _ _ h=>((((h.put h.nb.symm 14 _).put h.nb.symm 15 _).put h.nb.symm 16 _).put h.nb.symm 17 _).put h.nb.symm 18 _)
theorem mi1 {P:World→Prop} (hd:Mac w0 A c E b l S n xe ov w) (hm:Mv b ova wa ov w) (i:Int)
 (k:∀ w9,Mac w0 A c E b l { S with i:=i } n xe ov w9→Mv b ova wa ov w9→(∀ C ys,Box w0 b E ov C ys w→Box w0 b E ov C ys w9)→P w9):P (w.setCell ⟨b,13,none⟩ (.int .i64 i)) :=
 k _ (hd.putb (S':={ S with i:=i }) (n':=n) (xe':=xe) 13 _ rfl rfl) (hm.putb 13 _) (fun _ _ h=>h.put h.nb.symm 13 _)
end
end Go.Proofs.YtgakcpcpfkoaiaaGreatDoor.Ev

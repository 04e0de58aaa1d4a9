/-
  A text of this claim: EvMem.
-/
import Derived.Test.YtgakcpcpfkoaiaaGreatDoorQ1
import Derived.Test.YtgakcpcpfkoaiaaGreatDoorQEvGood
import Derived.Test.YtgakcpcpfkoaiaaGreatDoorQ5
import Derived.Test.YtgakcpcpfkoaiaaGreatDoorQVaRight
import Derived.OneCell
namespace Go.Proofs.YtgakcpcpfkoaiaaGreatDoor.Ev
open Go.ChangeShapes Go.WideShapes Go.ChangeAt Go.RowKit Ov Va Ex
def vcl (v:Va):List Value:=vcs v.k v.n (tx v.s) v.x v.y
def pcl (p:List UInt8 × Va):List Value:=.string (tx p.1) :: vcl p.2
def pcells (l:List (List UInt8 × Va)):List Value:=l.flatMap pcl
theorem pcells_snoc (l:List (List UInt8 × Va)) (p:List UInt8 × Va):pcells (l++[p])=pcells l++pcl p:=by
 unfold pcells
 rw [List.flatMap_append];simp
theorem pcl_one (p:List UInt8 × Va):∀ u ∈ pcl p,u.oneCell'=true:=by
 intro u hu
 unfold pcl vcl vcs at hu
 simp only [List.mem_cons,List.not_mem_nil,or_false] at hu
 rcases hu with rfl | rfl | rfl | rfl | rfl | rfl <;> rfl
def dl:List FuncId:=[80,81,82,83,84,85,86,87,88,89,90,91,92,93,94,95,96,97,98,99,100,101,102,103,104,105,106,107,108,109]
def dfn (b:Nat) (f:FuncId):Value:=.func (.func f) #[.pointer (some ⟨b,0,none⟩)] #[]
def dcl (b:Nat):List Value:=dl.map (dfn b)
def stc (S:St):List Value:=vcl (tv S.key)++(vcl S.val++(vcl S.acc++(vcl (nv S.i)++vcl S.it)))
def dcs (A:Option Addr) (c E b len:Nat) (S:St) (n:Nat) (ov:Value):List Value :=
 .slice A len c :: .slice (some ⟨E,0,none⟩) len len :: (dcl b++(stc S++[ov,.int .i64 (n:Int)]))
structure Mv (b:Nat) (ov:Value) (w:World) (ov':Value) (w':World):Prop where
 os:w'.os=w.os
 tape:w'.tape=w.tape
 output:w'.output=w.output
 size:w.heap.size≤w'.heap.size
 block:∀ k,k<w.heap.size→k ≠ b→ov.ownBlock ≠ some k→w'.heap[k]? = w.heap[k]?
 row:ov'.ownBlock=ov.ownBlock∨∃ g,ov'.ownBlock=some g∧w.heap.size≤g
section
variable {w w' w'':World} {b:Nat} {ov ov' ov'':Value}
theorem Mv.refl:Mv b ov w ov w:=⟨rfl,rfl,rfl,Nat.le_refl _,fun _ _ _ _=>rfl,.inl rfl⟩
theorem Mv.ne {k:Nat} (h:Mv b ov w ov' w') (hk:k<w.heap.size) (ho:ov.ownBlock ≠ some k):ov'.ownBlock ≠ some k:=by
 rcases h.row with e | ⟨g,e,hg⟩
 · rw [e];exact ho
 · rw [e];intro h;have:=Option.some.inj h;omega
theorem Mv.trans (h:Mv b ov w ov' w') (k:Mv b ov' w' ov'' w''):Mv b ov w ov'' w'' :=
 ⟨k.os.trans h.os,k.tape.trans h.tape,k.output.trans h.output,Nat.le_trans h.size k.size,
  fun i hi hb ho=>(k.block i (Nat.lt_of_lt_of_le hi h.size) hb (h.ne hi ho)).trans (h.block i hi hb ho),by
  rcases k.row with e | ⟨g,e,hg⟩
  · rw [e];exact h.row
  · exact .inr ⟨g,e,Nat.le_trans h.size hg⟩⟩
theorem Mv.of (h:Below w.heap.size w w'):Mv b ov w ov w':=⟨h.os,h.tape,h.output,h.size,fun k hk _ _=>h.block k hk,.inl rfl⟩
theorem Mv.put (h:Mv b ov w ov' w') {B:Nat} (hB:w.heap.size≤B) (j:Nat) (v:Value):Mv b ov w ov' (w'.setCell ⟨B,j,none⟩ v) :=
 ⟨h.os,h.tape,h.output,by simpa using h.size,fun k hk hb ho=>(Below.heap_setCell _ _ _ _ (show k ≠ B by omega)).trans (h.block k hk hb ho),h.row⟩
theorem Mv.putb (h:Mv b ov w ov' w') (j:Nat) (v:Value):Mv b ov w ov' (w'.setCell ⟨b,j,none⟩ v) :=
 ⟨h.os,h.tape,h.output,by simpa using h.size,fun k hk hb ho=>(Below.heap_setCell _ _ _ _ hb).trans (h.block k hk hb ho),h.row⟩
theorem Mv.old (h:Mv b ov w ov' w') (k:Below w'.heap.size w' w''):Mv b ov w ov' w'':=h.trans (Mv.of k)
end
theorem blk_mv {w w':World} {b B:Nat} {ov ov':Value} {xs:List Value} (h:Blk w B xs) (k:Mv b ov w ov' w') (hb:B ≠ b) (ho:ov.ownBlock ≠ some B):Blk w' B xs :=
 have e:=k.block B h.lt hb ho
 ⟨fun i v x=>(World.cell?_of_block (a:=⟨B,i,none⟩) e).trans (h.c i v x),fun i v x=>(World.frozen?_of_block (a:=⟨B,i,none⟩) e).trans (h.f i v x),Nat.lt_of_lt_of_le h.lt k.size⟩
structure Doer (w0:World) (A:Option Addr) (c E b:Nat) (l:List No) (S:St) (n:Nat) (ov:Value) (w:World):Prop where
 fro:Below w0.heap.size w0 w
 hb:w0.heap.size≤b
 hE:w0.heap.size≤E
 ne:E ≠ b
 blk:Blk w b (dcs A c E b l.length S n ov)
 beh:∀ k,k<l.length→w.cell? ⟨E,k,none⟩=some (.int .i64 ((l.length - (nx (l.drop k)).length:Nat):Int))
 out:w.ownsRow w0.heap.size 152 6 ov S.out.length (pcells S.out)
 sb:ov.ownBlock ≠ some b
 sE:ov.ownBlock ≠ some E
structure Box (w0:World) (b E:Nat) (ov:Value) (B:Nat) (xs:List Value) (w:World):Prop where
 blk:Blk w B xs
 nb:B ≠ b
 nE:B ≠ E
 no:ov.ownBlock ≠ some B
 lo:w0.heap.size≤B
section
variable {w0 w w':World} {A:Option Addr} {c E b B n n':Nat} {l:List No} {S S':St} {ov ov':Value} {xs:List Value}
theorem Doer.ltE (h:Doer w0 A c E b l S n ov w) (hl:0<l.length):E<w.heap.size:=block_lt_of_cell (h.beh 0 hl)
theorem Doer.olt (h:Doer w0 A c E b l S n ov w):ov.ownBlock ≠ some w.heap.size:=fun e=>by have:=(h.out.lt _ e).2;omega
theorem Doer.old (h:Doer w0 A c E b l S n ov w) (k:Below w.heap.size w w'):Doer w0 A c E b l S n ov w' :=
 ⟨Below.next h.fro k,h.hb,h.hE,h.ne,h.blk.next k,fun i hi=>(k.cell (p:=⟨E,i,none⟩) (block_lt_of_cell (h.beh i hi))).trans (h.beh i hi),own_old h.out k,h.sb,h.sE⟩
theorem Doer.put (h:Doer w0 A c E b l S n ov w) (k:Box w0 b E ov B xs w) (j:Nat) (v:Value):Doer w0 A c E b l S n ov (w.setCell ⟨B,j,none⟩ v) :=
 ⟨h.fro.setCell k.lo _,h.hb,h.hE,h.ne,h.blk.put k.nb _ _,fun i hi=>(World.cell?_setCell_other _ _ _ _ (fun e=>k.nE (by injection e))).trans (h.beh i hi),
  ownsRow_setCell_other h.out (by simpa using k.no) _,h.sb,h.sE⟩
theorem Doer.putb (h:Doer w0 A c E b l S n ov w) (j:Nat) (v:Value) (hs:(dcs A c E b l.length S n ov).set j v=dcs A c E b l.length S' n' ov) (ho:S'.out=S.out):Doer w0 A c E b l S' n' ov (w.setCell ⟨b,j,none⟩ v) :=
 ⟨h.fro.setCell h.hb _,h.hb,h.hE,h.ne,(h.blk.set j v).cast hs,fun i hi=>(World.cell?_setCell_other _ _ _ _ (fun e=>h.ne (by injection e with e1;exact e1.symm))).trans (h.beh i hi),
  by rw [ho];exact ownsRow_setCell_other h.out (by simpa using h.sb) _,h.sb,h.sE⟩
theorem Doer.drew (h:Doer w0 A c E b l S n ov w):Doer w0 A c E b l S n ov w.drew:=h.old (Below.refl _ _).drew
theorem Doer.lt (h:Doer w0 A c E b l S n ov w):b<w.heap.size:=h.blk.lt
theorem Doer.put5b (h:Doer w0 A c E b l S n ov w) (o:Nat) (a0 a1 a2 a3 a4:Value) (hs:((((((dcs A c E b l.length S n ov).set o a0).set (o+1) a1).set (o+2) a2).set (o+3) a3).set (o+4) a4)=dcs A c E b l.length S' n' ov) (ho:S'.out=S.out):Doer w0 A c E b l S' n' ov (((((w.setCell ⟨b,o,none⟩ a0).setCell ⟨b,o+1,none⟩ a1).setCell ⟨b,o+2,none⟩ a2).setCell ⟨b,o+3,none⟩ a3).setCell ⟨b,o+4,none⟩ a4):=by
 have hne:∀ (i j:Nat) (W:World) (v:Value),(W.setCell ⟨b,j,none⟩ v).cell? ⟨E,i,none⟩=W.cell? ⟨E,i,none⟩:=fun i j W v=>World.cell?_setCell_other _ _ _ _ (fun e=>h.ne (by injection e with e1;exact e1.symm))
 have hsb:∀ j,ov.ownBlock ≠ some (Addr.mk b j none).block:=fun j=>h.sb
 refine ⟨((((h.fro.setCell h.hb _).setCell h.hb _).setCell h.hb _).setCell h.hb _).setCell h.hb _,h.hb,h.hE,h.ne,(((((h.blk.set o a0).set (o+1) a1).set (o+2) a2).set (o+3) a3).set (o+4) a4).cast hs,fun i hi=>?_,?_,h.sb,h.sE⟩
 · rw [hne,hne,hne,hne,hne];exact h.beh i hi
 · rw [ho];exact ownsRow_setCell_other (ownsRow_setCell_other (ownsRow_setCell_other (ownsRow_setCell_other (ownsRow_setCell_other h.out (hsb _) _) (hsb _) _) (hsb _) _) (hsb _) _) (hsb _) _
theorem Box.old (h:Box w0 b E ov B xs w) (k:Below w.heap.size w w'):Box w0 b E ov B xs w':=⟨h.blk.next k,h.nb,h.nE,h.no,h.lo⟩
theorem Box.mv (h:Box w0 b E ov B xs w) (k:Mv b ov w ov' w'):Box w0 b E ov' B xs w':=⟨blk_mv h.blk k h.nb h.no,h.nb,h.nE,k.ne h.blk.lt h.no,h.lo⟩
theorem Box.put (h:Box w0 b E ov B xs w) {C:Nat} (hc:C ≠ B) (j:Nat) (v:Value):Box w0 b E ov B xs (w.setCell ⟨C,j,none⟩ v):=⟨h.blk.put hc j v,h.nb,h.nE,h.no,h.lo⟩
theorem Box.set (h:Box w0 b E ov B xs w) (j:Nat) (v:Value):Box w0 b E ov B (xs.set j v) (w.setCell ⟨B,j,none⟩ v):=⟨h.blk.set j v,h.nb,h.nE,h.no,h.lo⟩
theorem Box.made (h:Doer w0 A c E b l S n ov w) (hl:0<l.length) (t:TypeId) (xs:List Value):Box w0 b E ov w.heap.size xs (w.alloc (.cells xs.toArray t)) :=
 ⟨Blk.made w t xs rfl,fun e=>by have:=h.blk.lt;omega,fun e=>by have:=h.ltE hl;omega,h.olt,h.fro.size⟩
end
section
variable {w0 w w':World} {A:Option Addr} {c E b B n:Nat} {l:List No} {S:St} {ov ov':Value} {xs:List Value} {k m s x y:Int} {t:ByteArray}
theorem Box.drew (h:Box w0 b E ov B xs w):Box w0 b E ov B xs w.drew:=h.old (Below.refl _ _).drew
theorem Box.all5 (h:Box w0 b E ov B (vcs k m t x y) w) (a0 a1 a2 a3 a4:Value):Box w0 b E ov B [a0,a1,a2,a3,a4] (((((w.setCell ⟨B,0,none⟩ a0).setCell ⟨B,1,none⟩ a1).setCell ⟨B,2,none⟩ a2).setCell ⟨B,3,none⟩ a3).setCell ⟨B,4,none⟩ a4) :=
 ⟨h.blk.all5 a0 a1 a2 a3 a4,h.nb,h.nE,h.no,h.lo⟩
theorem Doer.all5 (h:Doer w0 A c E b l S n ov w) (k:Box w0 b E ov B xs w) (a0 a1 a2 a3 a4:Value):Doer w0 A c E b l S n ov (((((w.setCell ⟨B,0,none⟩ a0).setCell ⟨B,1,none⟩ a1).setCell ⟨B,2,none⟩ a2).setCell ⟨B,3,none⟩ a3).setCell ⟨B,4,none⟩ a4) :=
 ((((h.put k 0 a0).put (k.set 0 a0) 1 a1).put ((k.set 0 a0).set 1 a1) 2 a2).put (((k.set 0 a0).set 1 a1).set 2 a2) 3 a3).put ((((k.set 0 a0).set 1 a1).set 2 a2).set 3 a3) 4 a4
theorem Mv.all5 (h:Mv b ov w ov' w') (hB:w.heap.size≤B) (a0 a1 a2 a3 a4:Value):Mv b ov w ov' (((((w'.setCell ⟨B,0,none⟩ a0).setCell ⟨B,1,none⟩ a1).setCell ⟨B,2,none⟩ a2).setCell ⟨B,3,none⟩ a3).setCell ⟨B,4,none⟩ a4) :=
 ((((h.put hB 0 a0).put hB 1 a1).put hB 2 a2).put hB 3 a3).put hB 4 a4
end
def putL (w:World) (B o:Nat):List Value→World
 | []=>w
 | v :: vs=>putL (w.setCell ⟨B,o,none⟩ v) B (o+1) vs
section
variable {w0 w w':World} {A:Option Addr} {c E b B n:Nat} {l:List No} {S:St} {ov ov':Value} {xs:List Value}
theorem Box.puts_at (h:Box w0 b E ov B xs w) (o:Nat) (vs:List Value) (hl:o+vs.length≤xs.length):Box w0 b E ov B (xs.take o++vs++xs.drop (o+vs.length)) (putL w B o vs):=by
 induction vs generalizing w xs o with
 | nil=>simpa [putL] using h
 | cons v vs ih =>
   rw [List.length_cons] at hl
   have:=ih (h.set o v) (o+1) (by rw [List.length_set];omega)
   have e:(xs.set o v).take (o+1)++vs++(xs.set o v).drop (o+1+vs.length)=xs.take o++v :: vs++xs.drop (o+(v :: vs).length):=by
    rw [List.take_set,List.drop_set,if_pos (by omega),List.length_cons,show o+1+vs.length=o+(vs.length+1) by omega]
    congr 1
    rw [List.take_succ_eq_append_getElem (show o<xs.length by omega),List.set_append_right _ _ (by rw [List.length_take];omega),List.length_take,show o - min o xs.length=0 by omega]
    simp
   rw [e] at this
   exact this
theorem Box.puts (h:Box w0 b E ov B xs w) (vs:List Value) (hl:vs.length=xs.length):Box w0 b E ov B vs (putL w B 0 vs):=by
 have:=h.puts_at 0 vs (by omega)
 rwa [List.take_zero,List.nil_append,List.drop_of_length_le (by omega),List.append_nil] at this
theorem Doer.puts (h:Doer w0 A c E b l S n ov w) (k:Box w0 b E ov B xs w) (o:Nat) (vs:List Value):Doer w0 A c E b l S n ov (putL w B o vs):=by
 induction vs generalizing w xs o with
 | nil=>exact h
 | cons v vs ih=>exact ih (h.put k o v) (k.set o v) (o+1)
theorem Mv.puts (h:Mv b ov w ov' w') (hB:w.heap.size≤B) (o:Nat) (vs:List Value):Mv b ov w ov' (putL w' B o vs):=by
 induction vs generalizing w' o with
 | nil=>exact h
 | cons v vs ih=>exact ih (h.put hB o v) (o+1)
theorem Box.puts_other {C:Nat} (h:Box w0 b E ov B xs w) (hc:C ≠ B) (o:Nat) (vs:List Value):Box w0 b E ov B xs (putL w C o vs):=by
 induction vs generalizing w o with
 | nil=>exact h
 | cons v vs ih=>exact ih (h.put hc o v) (o+1)
end
def pcs (l:List Va):List Value:=vcl (at0 l)++(vcl (at1 l)++vcl (at2 l))
theorem pcs_snoc (l:List Va) (v:Va) (h:l.length<3):(pcs l).take (l.length * 5)++vcl v++(pcs l).drop (l.length * 5+5)=pcs (l++[v]):=by
 match l,h with
 | [],_=>rfl
 | [_],_=>rfl
 | [_,_],_=>rfl
theorem pcs_kind (l:List Va) (j:Nat) (h:j<3):(pcs l)[j * 5]? = some (.int .i64 (l.getD j vz).k):=by
 match j,h with
 | 0,_=>rfl
 | 1,_=>rfl
 | 2,_=>rfl
theorem pcs_cells {w:World} {B:Nat} {l:List Va} (h:Blk w B (pcs l)):w.cell? ⟨B,0,none⟩=some (.int .i64 (at0 l).k)∧w.cell? ⟨B,1,none⟩=some (.int .i64 (at0 l).n)∧w.cell? ⟨B,2,none⟩=some (.string (tx (at0 l).s))∧w.cell? ⟨B,3,none⟩=some (.int .i64 (at0 l).x)∧w.cell? ⟨B,4,none⟩=some (.int .i64 (at0 l).y)∧w.cell? ⟨B,5,none⟩=some (.int .i64 (at1 l).k)∧w.cell? ⟨B,6,none⟩=some (.int .i64 (at1 l).n)∧w.cell? ⟨B,7,none⟩=some (.string (tx (at1 l).s))∧w.cell? ⟨B,8,none⟩=some (.int .i64 (at1 l).x)∧w.cell? ⟨B,9,none⟩=some (.int .i64 (at1 l).y)∧w.cell? ⟨B,10,none⟩=some (.int .i64 (at2 l).k)∧w.cell? ⟨B,11,none⟩=some (.int .i64 (at2 l).n)∧w.cell? ⟨B,12,none⟩=some (.string (tx (at2 l).s))∧w.cell? ⟨B,13,none⟩=some (.int .i64 (at2 l).x)∧w.cell? ⟨B,14,none⟩=some (.int .i64 (at2 l).y) :=
 ⟨h.c 0 _ rfl,h.c 1 _ rfl,h.c 2 _ rfl,h.c 3 _ rfl,h.c 4 _ rfl,h.c 5 _ rfl,h.c 6 _ rfl,h.c 7 _ rfl,h.c 8 _ rfl,h.c 9 _ rfl,h.c 10 _ rfl,h.c 11 _ rfl,h.c 12 _ rfl,h.c 13 _ rfl,h.c 14 _ rfl⟩
theorem pcs_frozen {w:World} {B:Nat} {l:List Va} (h:Blk w B (pcs l)):w.frozen? ⟨B,0,none⟩=false∧w.frozen? ⟨B,1,none⟩=false∧w.frozen? ⟨B,2,none⟩=false∧w.frozen? ⟨B,3,none⟩=false∧w.frozen? ⟨B,4,none⟩=false∧w.frozen? ⟨B,5,none⟩=false∧w.frozen? ⟨B,6,none⟩=false∧w.frozen? ⟨B,7,none⟩=false∧w.frozen? ⟨B,8,none⟩=false∧w.frozen? ⟨B,9,none⟩=false∧w.frozen? ⟨B,10,none⟩=false∧w.frozen? ⟨B,11,none⟩=false∧w.frozen? ⟨B,12,none⟩=false∧w.frozen? ⟨B,13,none⟩=false∧w.frozen? ⟨B,14,none⟩=false :=
 ⟨h.f 0 _ rfl,h.f 1 _ rfl,h.f 2 _ rfl,h.f 3 _ rfl,h.f 4 _ rfl,h.f 5 _ rfl,h.f 6 _ rfl,h.f 7 _ rfl,h.f 8 _ rfl,h.f 9 _ rfl,h.f 10 _ rfl,h.f 11 _ rfl,h.f 12 _ rfl,h.f 13 _ rfl,h.f 14 _ rfl⟩
theorem pcs_has (l:List Va) {i:Nat} (h:i<15):∃ v,(pcs l)[i]? = some v:=⟨_,List.getElem?_eq_getElem (show i<(pcs l).length from h)⟩
theorem pcs_five {w:World} {B:Nat} {l:List Va} (h:Blk w B (pcs l)) {j:Nat} (hj:j<3):(∃ v,w.cell? ⟨B,j * 5,none⟩=some v)∧(∃ v,w.cell? ⟨B,j * 5+1,none⟩=some v)∧(∃ v,w.cell? ⟨B,j * 5+2,none⟩=some v)∧(∃ v,w.cell? ⟨B,j * 5+3,none⟩=some v)∧(∃ v,w.cell? ⟨B,j * 5+4,none⟩=some v)∧w.frozen? ⟨B,j * 5,none⟩=false∧w.frozen? ⟨B,j * 5+1,none⟩=false∧w.frozen? ⟨B,j * 5+2,none⟩=false∧w.frozen? ⟨B,j * 5+3,none⟩=false∧w.frozen? ⟨B,j * 5+4,none⟩=false:=by
 obtain ⟨v0,e0⟩:=pcs_has l (i:=j * 5) (by omega)
 obtain ⟨v1,e1⟩:=pcs_has l (i:=j * 5+1) (by omega)
 obtain ⟨v2,e2⟩:=pcs_has l (i:=j * 5+2) (by omega)
 obtain ⟨v3,e3⟩:=pcs_has l (i:=j * 5+3) (by omega)
 obtain ⟨v4,e4⟩:=pcs_has l (i:=j * 5+4) (by omega)
 exact ⟨⟨v0,h.c _ _ e0⟩,⟨v1,h.c _ _ e1⟩,⟨v2,h.c _ _ e2⟩,⟨v3,h.c _ _ e3⟩,⟨v4,h.c _ _ e4⟩,h.f _ _ e0,h.f _ _ e1,h.f _ _ e2,h.f _ _ e3,h.f _ _ e4⟩
def Ans {α:Type} (X:Rs α) (P:α→Prop) (x:Int) (S:St) (n:Nat):Prop:=match X with
 | .er y=>x=y∧x ≠ 0
 | .ok a S1 n1=>x=0∧P a∧S=S1∧n=n1
theorem Ans.er {α:Type} {X:Rs α} {P:α→Prop} {x y:Int} {S:St} {n:Nat} (h:X=.er y) (hx:x=y) (h0:x ≠ 0):Ans X P x S n:=by rw [h];exact ⟨hx,h0⟩
theorem Ans.ok {α:Type} {X:Rs α} {P:α→Prop} {a:α} {S:St} {n:Nat} (h:X=.ok a S n) (ha:P a):Ans X P 0 S n:=by rw [h];exact ⟨rfl,ha,rfl,rfl⟩
theorem Ans.bnd {α β:Type} {f:M α} {g:α→M β} {P:α→Prop} {Q:β→Prop} {x:Int} {S S1:St} {n n1:Nat} (h:Ans (f S n) P x S1 n1) (hg:x=0→∀ a,P a→f S n=.ok a S1 n1→∃ v,g a S1 n1=.ok v S1 n1∧Q v):Ans (bnd f g S n) Q x S1 n1:=by
 unfold Ans at h
 unfold Ev.bnd
 split at h
 · rename_i y hy
   rw [hy];exact h
 · rename_i a S2 n2 hy
   obtain ⟨h1,h2,rfl,rfl⟩:=h
   obtain ⟨v,hv,hq⟩:=hg h1 a h2 hy
   rw [hy]
   show Ans (g a S1 n1) Q x S1 n1
   rw [hv,h1];exact ⟨rfl,hq,rfl,rfl⟩
theorem Ans.cases {α:Type} {X:Rs α} {P:α→Prop} {x:Int} {S:St} {n:Nat} (h:Ans X P x S n):(x ≠ 0∧X=.er x)∨(x=0∧∃ a,P a∧X=.ok a S n):=by
 unfold Ans at h
 split at h
 · exact .inl ⟨h.2,by rw [h.1]⟩
 · obtain ⟨h1,h2,rfl,rfl⟩:=h;exact .inr ⟨h1,_,h2,rfl⟩
def Dn (X:Rs Va) (w0:World) (A:Option Addr) (c E b:Nat) (l:List No) (ov:Value) (w:World) (e:Ending) (w':World):Prop :=
 ∃ (v:Va) (x:Int) (S':St) (n':Nat) (ov':Value),e=.returned (.tuple #[.agg v,.int .i64 x])∧Ans X (fun a=>v=a) x S' n'∧Doer w0 A c E b l S' n' ov' w'∧Mv b ov w ov' w'
def Pn (X:Rs (List Va)) (w0:World) (A:Option Addr) (c E b:Nat) (l:List No) (ov:Value) (w:World) (e:Ending) (w':World):Prop :=
 ∃ (p0 p1 p2:Va) (x:Int) (S':St) (n':Nat) (ov':Value),e=.returned (.tuple #[.agg #[.int .i64 p0.k,.int .i64 p0.n,.string (tx p0.s),.int .i64 p0.x,.int .i64 p0.y,.int .i64 p1.k,.int .i64 p1.n,.string (tx p1.s),.int .i64 p1.x,.int .i64 p1.y,.int .i64 p2.k,.int .i64 p2.n,.string (tx p2.s),.int .i64 p2.x,.int .i64 p2.y],.int .i64 x]) ∧
  Ans X (fun a=>p0=at0 a∧p1=at1 a∧p2=at2 a) x S' n'∧(x ≠ 0→p0=vz∧p1=vz∧p2=vz)∧Doer w0 A c E b l S' n' ov' w'∧Mv b ov w ov' w'
structure Cx (w0:World) (A:Option Addr) (l:List No):Prop where
 nds:Nds w0 A l
 kn:KN w0
 tab:Tab w0
 len:l.length≤400
def DoC (f:List No→M Va) (d:Nat):Prop:=∀ (w0:World) (A:Option Addr) (c E b:Nat) (l:List No) (S:St) (n:Nat) (ov:Value) (w:World) (k:Nat) (r:List No),
 Cx w0 A l→Doer w0 A c E b l S n ov w→Gd S n→ex d (l.drop k)=some r→d≤25 →
 Calls Tryz.prog 56 #[.pointer (some ⟨b,0,none⟩),.int .i64 (k:Int)] w (Dn (f (l.drop k) S n) w0 A c E b l ov w)
end Go.Proofs.YtgakcpcpfkoaiaaGreatDoor.Ev

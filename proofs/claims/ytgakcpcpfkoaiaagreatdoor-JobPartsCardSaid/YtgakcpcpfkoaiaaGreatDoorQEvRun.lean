/-
  A text of this claim: EvRun.
-/
import Derived.Test.YtgakcpcpfkoaiaaGreatDoorQ1
import Derived.Test.YtgakcpcpfkoaiaaGreatDoorQ8
import Derived.Deep.MidRow
set_option maxHeartbeats 4000000
set_option maxRecDepth 100000
namespace Go.Proofs.YtgakcpcpfkoaiaaGreatDoor.Ev
open Go.ChangeShapes Go.WideShapes Go.ChangeAt Go.RowKit Ov Va Ga Ex
def S0 (k:List UInt8) (v a:Va):St:=⟨k,v,a,0,vz,[]⟩
def rnX (l:List No) (k:List UInt8) (v a:Va) (n:Int):Rs Va:=if Rt l=true∧rEnv k v a=true∧0≤n∧n≤100000 then ev 25 l (S0 k v a) n.toNat else .er 1
def rz7:List Value:=[.int .i64 0,.int .i64 0,.string ⟨#[]⟩,.int .i64 0,.int .i64 0,.slice none 0 0,.int .i64 0]
def RunQ (X:Rs Va) (w:World) (e:Ending) (w':World):Prop:=Below w.heap.size w w'∧match X with
 | .er x=>x ≠ 0∧e=.returned (.tuple #[.agg #[.int .i64 0,.int .i64 0,.string ⟨#[]⟩,.int .i64 0,.int .i64 0,.slice none 0 0,.int .i64 0],.int .i64 x])
 | .ok v S n=>∃ A c,w'.ownsRow w.heap.size 152 6 (.slice A S.out.length c) S.out.length (pcells S.out) ∧
    e=.returned (.tuple #[.agg #[.int .i64 v.k,.int .i64 v.n,.string (tx v.s),.int .i64 v.x,.int .i64 v.y,.slice A S.out.length c,.int .i64 (n:Int)],.int .i64 0])
def dcz (A:Option Addr) (c E len:Nat) (S:St) (n:Nat) (ov:Value):List Value :=
 .slice A len c :: .slice (some ⟨E,0,none⟩) len len :: (List.replicate 30 .nilFunc++(stc S++[ov,.int .i64 (n:Int)]))
theorem dcz_dcs (A:Option Addr) (c E b len:Nat) (S:St) (n:Nat) (ov:Value):(dcz A c E len S n ov).take 2++dcl b++(dcz A c E len S n ov).drop (2+(dcl b).length)=dcs A c E b len S n ov:=rfl
theorem Blk.there {w:World} {b:Nat} {xs:List Value} (h:Blk w b xs) {o n:Nat} (hl:o+n≤xs.length):w.there b o n:=fun j hj=>by
 have e:xs[o+j]? = some xs[o+j]:=List.getElem?_eq_getElem (by omega)
 exact ⟨by rw [h.c _ _ e];rfl,h.f _ _ e⟩
theorem setCells_putL (B:Nat):∀ (vs:List Value) (o:Nat) (w:World),w.setCells B o vs=putL w B o vs
 | [],_,_=>rfl
 | v :: vs,o,w=>by show (w.setCell ⟨B,o,none⟩ v).setCells B (o+1) vs=_;rw [setCells_putL B vs (o+1)];rfl
theorem blk_puts {w:World} {B:Nat}:∀ (vs:List Value) (o:Nat) {xs:List Value},Blk w B xs→o+vs.length≤xs.length→Blk (putL w B o vs) B (xs.take o++vs++xs.drop (o+vs.length)):=by
 intro vs
 induction vs generalizing w with
 | nil=>intro o xs h _;simpa [putL] using h
 | cons v vs ih =>
   intro o xs h hl
   rw [List.length_cons] at hl
   have:=ih (o+1) (h.set o v) (by rw [List.length_set];omega)
   have e:(xs.set o v).take (o+1)++vs++(xs.set o v).drop (o+1+vs.length)=xs.take o++v :: vs++xs.drop (o+(v :: vs).length):=by
    rw [List.take_set,List.drop_set,if_pos (by omega),List.length_cons,show o+1+vs.length=o+(vs.length+1) by omega]
    congr 1
    rw [List.take_succ_eq_append_getElem (show o<xs.length by omega),List.set_append_right _ _ (by rw [List.length_take];omega),List.length_take,show o - min o xs.length=0 by omega]
    simp
   rw [e] at this
   exact this
theorem below_puts {w0 w:World} {lo B:Nat}:∀ (vs:List Value) (o:Nat),Below lo w0 w→lo≤B→Below lo w0 (putL w B o vs):=by
 intro vs
 induction vs generalizing w with
 | nil=>intro o h _;exact h
 | cons v vs ih=>intro o h hB;exact ih (o+1) (h.setCell hB _) hB
theorem blk_puts_other {w:World} {B C:Nat} {xs:List Value} (hc:C ≠ B):∀ (vs:List Value) (o:Nat),Blk w B xs→Blk (putL w C o vs) B xs:=by
 intro vs
 induction vs generalizing w with
 | nil=>intro o h;exact h
 | cons v vs ih=>intro o h;exact ih (o+1) (h.put hc o v)
theorem cell_puts_other {w:World} {B C i:Nat} (hc:C ≠ B) (vs:List Value):∀ (o:Nat),(putL w C o vs).cell? ⟨B,i,none⟩=w.cell? ⟨B,i,none⟩:=by
 induction vs generalizing w with
 | nil=>intro o;rfl
 | cons v vs ih=>intro o;exact (ih (o+1)).trans (World.cell?_setCell_other _ _ _ _ (fun e=>hc (by injection e)))
theorem size_puts {w:World} {C:Nat} (vs:List Value):∀ (o:Nat),(putL w C o vs).heap.size=w.heap.size:=by
 induction vs generalizing w with
 | nil=>intro o;rfl
 | cons v vs ih=>intro o;rw [putL,ih];simp
theorem dcz_lit (A:Option Addr) (c E:Nat) (l:List No) (k:List UInt8) (v a:Va) (m:Nat):dcz A c E l.length (S0 k v a) m (.slice none 0 0)=[.slice A l.length c,.slice (some ⟨E,0,none⟩) l.length l.length,.nilFunc,.nilFunc,.nilFunc,.nilFunc,.nilFunc,.nilFunc,.nilFunc,.nilFunc,.nilFunc,.nilFunc,.nilFunc,.nilFunc,.nilFunc,.nilFunc,.nilFunc,.nilFunc,.nilFunc,.nilFunc,.nilFunc,.nilFunc,.nilFunc,.nilFunc,.nilFunc,.nilFunc,.nilFunc,.nilFunc,.nilFunc,.nilFunc,.nilFunc,.nilFunc,.int .i64 1,.int .i64 0,.string (tx k),.int .i64 0,.int .i64 0,.int .i64 v.k,.int .i64 v.n,.string (tx v.s),.int .i64 v.x,.int .i64 v.y,.int .i64 a.k,.int .i64 a.n,.string (tx a.s),.int .i64 a.x,.int .i64 a.y,.int .i64 0,.int .i64 0,.string ⟨#[]⟩,.int .i64 0,.int .i64 0,.int .i64 0,.int .i64 0,.string ⟨#[]⟩,.int .i64 0,.int .i64 0,.slice none 0 0,.int .i64 (m:Int)]:=rfl
theorem dcz_made (W:World) (A:Option Addr) (c E:Nat) (l:List No) (k:List UInt8) (v a:Va) (m:Nat):Blk (W.alloc (.cells #[.slice A l.length c,.slice (some ⟨E,0,none⟩) l.length l.length,.nilFunc,.nilFunc,.nilFunc,.nilFunc,.nilFunc,.nilFunc,.nilFunc,.nilFunc,.nilFunc,.nilFunc,.nilFunc,.nilFunc,.nilFunc,.nilFunc,.nilFunc,.nilFunc,.nilFunc,.nilFunc,.nilFunc,.nilFunc,.nilFunc,.nilFunc,.nilFunc,.nilFunc,.nilFunc,.nilFunc,.nilFunc,.nilFunc,.nilFunc,.nilFunc,.int .i64 1,.int .i64 0,.string (tx k),.int .i64 0,.int .i64 0,.int .i64 v.k,.int .i64 v.n,.string (tx v.s),.int .i64 v.x,.int .i64 v.y,.int .i64 a.k,.int .i64 a.n,.string (tx a.s),.int .i64 a.x,.int .i64 a.y,.int .i64 0,.int .i64 0,.string ⟨#[]⟩,.int .i64 0,.int .i64 0,.int .i64 0,.int .i64 0,.string ⟨#[]⟩,.int .i64 0,.int .i64 0,.slice none 0 0,.int .i64 (m:Int)] 94)) W.heap.size (dcz A c E l.length (S0 k v a) m (.slice none 0 0)):=by
 rw [dcz_lit]
 exact Blk.made W 94 [.slice A l.length c,.slice (some ⟨E,0,none⟩) l.length l.length,.nilFunc,.nilFunc,.nilFunc,.nilFunc,.nilFunc,.nilFunc,.nilFunc,.nilFunc,.nilFunc,.nilFunc,.nilFunc,.nilFunc,.nilFunc,.nilFunc,.nilFunc,.nilFunc,.nilFunc,.nilFunc,.nilFunc,.nilFunc,.nilFunc,.nilFunc,.nilFunc,.nilFunc,.nilFunc,.nilFunc,.nilFunc,.nilFunc,.nilFunc,.nilFunc,.int .i64 1,.int .i64 0,.string (tx k),.int .i64 0,.int .i64 0,.int .i64 v.k,.int .i64 v.n,.string (tx v.s),.int .i64 v.x,.int .i64 v.y,.int .i64 a.k,.int .i64 a.n,.string (tx a.s),.int .i64 a.x,.int .i64 a.y,.int .i64 0,.int .i64 0,.string ⟨#[]⟩,.int .i64 0,.int .i64 0,.int .i64 0,.int .i64 0,.string ⟨#[]⟩,.int .i64 0,.int .i64 0,.slice none 0 0,.int .i64 (m:Int)] rfl
theorem rnX_bad {l:List No} {k:List UInt8} {v a:Va} {n:Int} (h:¬ (Rt l=true∧rEnv k v a=true∧0≤n∧n≤100000)):rnX l k v a n=.er 1:=if_neg h
theorem run_no (l:List No) (A:Option Addr) (c:Nat) (k:List UInt8) (v a:Va) (n:Int) (w:World) (hn:Nds w A l) (hkn:KN w) (ht:Tab w) (hl:l.length≤4294967296) (hno:¬ (Rt l=true∧rEnv k v a=true∧0≤n∧n≤100000)) :
 Calls Tryz.prog 26 #[.slice A l.length c,.agg #[.string (tx k),.int .i64 v.k,.int .i64 v.n,.string (tx v.s),.int .i64 v.x,.int .i64 v.y,.int .i64 a.k,.int .i64 a.n,.string (tx a.s),.int .i64 a.x,.int .i64 a.y],.int .i64 n] w (RunQ (rnX l k v a n) w):=by
 have h1:Blk ((w.alloc (.cells #[.string (tx k),.int .i64 v.k,.int .i64 v.n,.string (tx v.s),.int .i64 v.x,.int .i64 v.y,.int .i64 a.k,.int .i64 a.n,.string (tx a.s),.int .i64 a.x,.int .i64 a.y] 64)).alloc (.cells rz7.toArray 60)) w.heap.size (ecl k v a):=(Blk.made w 64 (ecl k v a) rfl).old _
 have h2:Blk ((w.alloc (.cells #[.string (tx k),.int .i64 v.k,.int .i64 v.n,.string (tx v.s),.int .i64 v.x,.int .i64 v.y,.int .i64 a.k,.int .i64 a.n,.string (tx a.s),.int .i64 a.x,.int .i64 a.y] 64)).alloc (.cells rz7.toArray 60)) (w.heap.size+1) rz7:=Blk.made _ 60 rz7 (by simp)
 have hb1:=box2 w (.cells #[.string (tx k),.int .i64 v.k,.int .i64 v.n,.string (tx v.s),.int .i64 v.x,.int .i64 v.y,.int .i64 a.k,.int .i64 a.n,.string (tx a.s),.int .i64 a.x,.int .i64 a.y] 64) (.cells rz7.toArray 60)
 have HE1:=qq h1;have HR1:=qq h2;have HB1:=qq hb1
 have HN:=qq hn;have HK:=qq hkn;have HT:=qq ht
 have HRI:=qq (fun w1 (h:Below w.heap.size w w1)=>eright_any l A c w1 (hn.next h) (hkn.next h) hl)
 have HX:Hid (rnX l k v a n=.er 1):=rnX_bad hno
 clear h1 h2 hb1 hn hkn ht
 go_enter Tryz.func26,Tryz.ntmps26
 go_wp2_with fail
 refine (HRI.out _ HB1.out).mono ?_
 rintro e w2 ⟨rfl,hb⟩
 have HE2:=qq (HE1.out.next hb);have HR2:=qq (HR1.out.next hb);have HB2:=qq (Below.next HB1.out hb)
 clear hb HE1 HR1 HB1 HRI
 rcases Bool.eq_false_or_eq_true (Rt l) with hr | hr
 rotate_left
 · rw [hr]
   obtain ⟨r0,r1,r2,r3,r4,r5,r6⟩:=ck7 HR2.out
   have zr0:=HR2.out.f 0 _ rfl;have zr1:=HR2.out.f 1 _ rfl;have zr2:=HR2.out.f 2 _ rfl;have zr3:=HR2.out.f 3 _ rfl;have zr4:=HR2.out.f 4 _ rfl;have zr5:=HR2.out.f 5 _ rfl;have zr6:=HR2.out.f 6 _ rfl
   have hltR:=HR2.out.lt
   go_wp2_with fail
   have hx9:=(blk_puts rz7 0 HR2.out (Nat.le_refl 7))
   have hb9:=(below_puts (B:=w.heap.size+1) rz7 0 HB2.out (by omega))
   change Blk _ _ rz7 at hx9
   clear r0 zr0 r1 zr1 r2 zr2 r3 zr3 r4 zr4 r5 zr5 r6 zr6
   change bodyPost _ _ _ _ _ (putL w2 (w.heap.size+1) 0 rz7)
   generalize (putL w2 (w.heap.size+1) 0 rz7)=w9 at *
   have c0:=(qq hx9).out.c 0 _ rfl;have c1:=(qq hx9).out.c 1 _ rfl;have c2:=(qq hx9).out.c 2 _ rfl;have c3:=(qq hx9).out.c 3 _ rfl;have c4:=(qq hx9).out.c 4 _ rfl;have c5:=(qq hx9).out.c 5 _ rfl;have c6:=(qq hx9).out.c 6 _ rfl
   refine bodyPost_ret (v:=.tuple #[.agg #[.int .i64 0,.int .i64 0,.string ⟨#[]⟩,.int .i64 0,.int .i64 0,.slice none 0 0,.int .i64 0],.int .i64 1]) (by simp [results,Tryz.results26,go_sem,c0,c1,c2,c3,c4,c5,c6]) rfl ⟨hb9,?_⟩
   rw [HX.out];exact ⟨by decide,rfl⟩
 rw [hr]
 have HRT:=qq hr
 have HRE:=qq (renv_any k v a)
 obtain ⟨c0,c1,c2,c3,c4,c5,c6,c7,c8,c9,c10⟩:=ck11 HE2.out
 go_wp2_with fail
 refine (HRE.out _).mono ?_
 rintro e w3 ⟨rfl,hb⟩
 have HE3:=qq (HE2.out.next hb);have HR3:=qq (HR2.out.next hb);have HB3:=qq (Below.next HB2.out hb)
 clear hb HE2 HR2 HB2 HRE hr c0 c1 c2 c3 c4 c5 c6 c7 c8 c9 c10
 rcases Bool.eq_false_or_eq_true (rEnv k v a) with hv | hv
 rotate_left
 · rw [hv]
   obtain ⟨r0,r1,r2,r3,r4,r5,r6⟩:=ck7 HR3.out
   have zr0:=HR3.out.f 0 _ rfl;have zr1:=HR3.out.f 1 _ rfl;have zr2:=HR3.out.f 2 _ rfl;have zr3:=HR3.out.f 3 _ rfl;have zr4:=HR3.out.f 4 _ rfl;have zr5:=HR3.out.f 5 _ rfl;have zr6:=HR3.out.f 6 _ rfl
   have hltR:=HR3.out.lt
   go_wp2_with fail
   have hx9:=(blk_puts rz7 0 HR3.out (Nat.le_refl 7))
   have hb9:=(below_puts (B:=w.heap.size+1) rz7 0 HB3.out (by omega))
   change Blk _ _ rz7 at hx9
   clear r0 zr0 r1 zr1 r2 zr2 r3 zr3 r4 zr4 r5 zr5 r6 zr6
   change bodyPost _ _ _ _ _ (putL w3 (w.heap.size+1) 0 rz7)
   generalize (putL w3 (w.heap.size+1) 0 rz7)=w9 at *
   have c0:=(qq hx9).out.c 0 _ rfl;have c1:=(qq hx9).out.c 1 _ rfl;have c2:=(qq hx9).out.c 2 _ rfl;have c3:=(qq hx9).out.c 3 _ rfl;have c4:=(qq hx9).out.c 4 _ rfl;have c5:=(qq hx9).out.c 5 _ rfl;have c6:=(qq hx9).out.c 6 _ rfl
   refine bodyPost_ret (v:=.tuple #[.agg #[.int .i64 0,.int .i64 0,.string ⟨#[]⟩,.int .i64 0,.int .i64 0,.slice none 0 0,.int .i64 0],.int .i64 1]) (by simp [results,Tryz.results26,go_sem,c0,c1,c2,c3,c4,c5,c6]) rfl ⟨hb9,?_⟩
   rw [HX.out];exact ⟨by decide,rfl⟩
 rw [hv]
 have HRV:=qq hv
 clear hv
 by_cases hn1:n<0
 · skip
   obtain ⟨r0,r1,r2,r3,r4,r5,r6⟩:=ck7 HR3.out
   have zr0:=HR3.out.f 0 _ rfl;have zr1:=HR3.out.f 1 _ rfl;have zr2:=HR3.out.f 2 _ rfl;have zr3:=HR3.out.f 3 _ rfl;have zr4:=HR3.out.f 4 _ rfl;have zr5:=HR3.out.f 5 _ rfl;have zr6:=HR3.out.f 6 _ rfl
   have hltR:=HR3.out.lt
   go_wp2_with fail
   have hx9:=(blk_puts rz7 0 HR3.out (Nat.le_refl 7))
   have hb9:=(below_puts (B:=w.heap.size+1) rz7 0 HB3.out (by omega))
   change Blk _ _ rz7 at hx9
   clear r0 zr0 r1 zr1 r2 zr2 r3 zr3 r4 zr4 r5 zr5 r6 zr6
   change bodyPost _ _ _ _ _ (putL w3 (w.heap.size+1) 0 rz7)
   generalize (putL w3 (w.heap.size+1) 0 rz7)=w9 at *
   have c0:=(qq hx9).out.c 0 _ rfl;have c1:=(qq hx9).out.c 1 _ rfl;have c2:=(qq hx9).out.c 2 _ rfl;have c3:=(qq hx9).out.c 3 _ rfl;have c4:=(qq hx9).out.c 4 _ rfl;have c5:=(qq hx9).out.c 5 _ rfl;have c6:=(qq hx9).out.c 6 _ rfl
   refine bodyPost_ret (v:=.tuple #[.agg #[.int .i64 0,.int .i64 0,.string ⟨#[]⟩,.int .i64 0,.int .i64 0,.slice none 0 0,.int .i64 0],.int .i64 1]) (by simp [results,Tryz.results26,go_sem,c0,c1,c2,c3,c4,c5,c6]) rfl ⟨hb9,?_⟩
   rw [HX.out];exact ⟨by decide,rfl⟩
 by_cases hn2:100000<n
 · skip
   obtain ⟨r0,r1,r2,r3,r4,r5,r6⟩:=ck7 HR3.out
   have zr0:=HR3.out.f 0 _ rfl;have zr1:=HR3.out.f 1 _ rfl;have zr2:=HR3.out.f 2 _ rfl;have zr3:=HR3.out.f 3 _ rfl;have zr4:=HR3.out.f 4 _ rfl;have zr5:=HR3.out.f 5 _ rfl;have zr6:=HR3.out.f 6 _ rfl
   have hltR:=HR3.out.lt
   go_wp2_with fail
   have hx9:=(blk_puts rz7 0 HR3.out (Nat.le_refl 7))
   have hb9:=(below_puts (B:=w.heap.size+1) rz7 0 HB3.out (by omega))
   change Blk _ _ rz7 at hx9
   clear r0 zr0 r1 zr1 r2 zr2 r3 zr3 r4 zr4 r5 zr5 r6 zr6
   change bodyPost _ _ _ _ _ (putL w3 (w.heap.size+1) 0 rz7)
   generalize (putL w3 (w.heap.size+1) 0 rz7)=w9 at *
   have c0:=(qq hx9).out.c 0 _ rfl;have c1:=(qq hx9).out.c 1 _ rfl;have c2:=(qq hx9).out.c 2 _ rfl;have c3:=(qq hx9).out.c 3 _ rfl;have c4:=(qq hx9).out.c 4 _ rfl;have c5:=(qq hx9).out.c 5 _ rfl;have c6:=(qq hx9).out.c 6 _ rfl
   refine bodyPost_ret (v:=.tuple #[.agg #[.int .i64 0,.int .i64 0,.string ⟨#[]⟩,.int .i64 0,.int .i64 0,.slice none 0 0,.int .i64 0],.int .i64 1]) (by simp [results,Tryz.results26,go_sem,c0,c1,c2,c3,c4,c5,c6]) rfl ⟨hb9,?_⟩
   rw [HX.out];exact ⟨by decide,rfl⟩
 exact absurd ⟨HRT.out,HRV.out,by omega,by omega⟩ hno
end Go.Proofs.YtgakcpcpfkoaiaaGreatDoor.Ev

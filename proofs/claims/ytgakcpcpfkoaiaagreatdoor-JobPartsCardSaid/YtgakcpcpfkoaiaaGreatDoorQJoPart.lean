/-
  A text of this claim: JoPart.
-/
import Derived.Test.YtgakcpcpfkoaiaaGreatDoorQ1
import Derived.Test.YtgakcpcpfkoaiaaGreatDoorQ9
import Derived.Test.YtgakcpcpfkoaiaaGreatDoorQ4
set_option maxHeartbeats 1000000
namespace Go.Proofs.YtgakcpcpfkoaiaaGreatDoor.Jo
open Go.ChangeShapes Go.WideShapes Go.ChangeAt Go.RowKit Ov Va Ex Ev
def PQ (j:Jb) (key:List UInt8) (w:World) (e:Ending) (w':World):Prop:=Gives (.tuple #[.int .i64 (pt j key).1,.int .i64 (pt j key).2]) w e w'∧Nz j key
theorem part_bad (j:Jb) (A1:Option Addr) (c1:Nat) (A2:Option Addr) (c2:Nat) (A3:Option Addr) (c3:Nat) (key:List UInt8) (w:World) (hj:JL w j A1 A2 A3) (hk:KN w) (hl:j.nm.length≤9223372036854775807) (h0:jr j ≠ 0):Calls Tryz.prog 8 #[.agg #[.string (tx j.nm),.int .i64 j.t,.int .i64 j.p,.int .i64 j.k,.int .i64 j.n,.int .i64 j.f,.slice A1 j.m.length c1,.slice A2 j.b.length c2,.slice A3 j.r.length c3,.string (tx j.fd),.bool j.cb],.string (tx key)] w (Gives (.tuple #[.int .i64 0,.int .i64 (jr j)]) w):=by
 have HR:=qq (fun w1 (h:Below w.heap.size w w1)=>right_any j A1 c1 A2 c2 A3 c3 w1 (hj.next h) (hk.next h) hl)
 clear hj hk hl
 have hne:(jr j == 0)=false:=beq_eq_false_iff_ne.2 h0
 clear h0
 generalize jr j=x at *
 have HJ:=qq (made11 w 40 (.string (tx j.nm)) (.int .i64 j.t) (.int .i64 j.p) (.int .i64 j.k) (.int .i64 j.n) (.int .i64 j.f) (.slice A1 j.m.length c1) (.slice A2 j.b.length c2) (.slice A3 j.r.length c3) (.string (tx j.fd)) (.bool j.cb))
 have HB:=qq (box1 w (.cells #[.string (tx j.nm),.int .i64 j.t,.int .i64 j.p,.int .i64 j.k,.int .i64 j.n,.int .i64 j.f,.slice A1 j.m.length c1,.slice A2 j.b.length c2,.slice A3 j.r.length c3,.string (tx j.fd),.bool j.cb] 40))
 go_enter Tryz.func8,Tryz.ntmps8
 obtain ⟨e0,e1,e2,e3,e4,e5,e6,e7,e8,e9,e10⟩:=elev HJ.out
 go_wp2_with fail
 clear e0 e1 e2 e3 e4 e5 e6 e7 e8 e9 e10
 generalize w.alloc (.cells #[.string (tx j.nm),.int .i64 j.t,.int .i64 j.p,.int .i64 j.k,.int .i64 j.n,.int .i64 j.f,.slice A1 j.m.length c1,.slice A2 j.b.length c2,.slice A3 j.r.length c3,.string (tx j.fd),.bool j.cb] 40)=v at *
 refine (HR.out _ HB.out).mono ?_
 rintro e w1 ⟨rfl,hb⟩
 replace HJ:=qq (HJ.out.next hb);replace HB:=qq (Below.next HB.out hb);clear hb
 go_wp2_with fail
 exact bodyPost_ret (v:=.tuple #[.int .i64 0,.int .i64 x]) (by simp [results,Tryz.results8,go_sem]) rfl ⟨rfl,HB.out⟩
theorem part_long (j:Jb) (A1:Option Addr) (c1:Nat) (A2:Option Addr) (c2:Nat) (A3:Option Addr) (c3:Nat) (key:List UInt8) (w:World) (hj:JL w j A1 A2 A3) (hk:KN w) (hl:j.nm.length≤9223372036854775807) (h0:jr j=0) (hlen:64<key.length) (hm:key.length≤9223372036854775807):Calls Tryz.prog 8 #[.agg #[.string (tx j.nm),.int .i64 j.t,.int .i64 j.p,.int .i64 j.k,.int .i64 j.n,.int .i64 j.f,.slice A1 j.m.length c1,.slice A2 j.b.length c2,.slice A3 j.r.length c3,.string (tx j.fd),.bool j.cb],.string (tx key)] w (Gives (.tuple #[.int .i64 0,.int .i64 3]) w):=by
 have HR:=qq (fun w1 (h:Below w.heap.size w w1)=>right_any j A1 c1 A2 c2 A3 c3 w1 (hj.next h) (hk.next h) hl)
 rw [h0] at HR
 have hs:(tx key).size=key.length:=tx_size key
 have hgt:decide (64<(key.length:Int))=true:=decide_eq_true (by omega)
 clear hj hk hl h0 hlen
 have HJ:=qq (made11 w 40 (.string (tx j.nm)) (.int .i64 j.t) (.int .i64 j.p) (.int .i64 j.k) (.int .i64 j.n) (.int .i64 j.f) (.slice A1 j.m.length c1) (.slice A2 j.b.length c2) (.slice A3 j.r.length c3) (.string (tx j.fd)) (.bool j.cb))
 have HB:=qq (box1 w (.cells #[.string (tx j.nm),.int .i64 j.t,.int .i64 j.p,.int .i64 j.k,.int .i64 j.n,.int .i64 j.f,.slice A1 j.m.length c1,.slice A2 j.b.length c2,.slice A3 j.r.length c3,.string (tx j.fd),.bool j.cb] 40))
 go_enter Tryz.func8,Tryz.ntmps8
 obtain ⟨e0,e1,e2,e3,e4,e5,e6,e7,e8,e9,e10⟩:=elev HJ.out
 go_wp2_with fail
 clear e0 e1 e2 e3 e4 e5 e6 e7 e8 e9 e10
 generalize w.alloc (.cells #[.string (tx j.nm),.int .i64 j.t,.int .i64 j.p,.int .i64 j.k,.int .i64 j.n,.int .i64 j.f,.slice A1 j.m.length c1,.slice A2 j.b.length c2,.slice A3 j.r.length c3,.string (tx j.fd),.bool j.cb] 40)=v at *
 refine (HR.out _ HB.out).mono ?_
 rintro e w1 ⟨rfl,hb⟩
 replace HJ:=qq (HJ.out.next hb);replace HB:=qq (Below.next HB.out hb);clear hb
 go_wp2_with fail
 exact bodyPost_ret (v:=.tuple #[.int .i64 0,.int .i64 3]) (by simp [results,Tryz.results8,go_sem]) rfl ⟨rfl,HB.out⟩
theorem part_sum (j:Jb) (A1:Option Addr) (c1:Nat) (A2:Option Addr) (c2:Nat) (A3:Option Addr) (c3:Nat) (key:List UInt8) (w:World) (hj:JL w j A1 A2 A3) (hk:KN w) (hl:j.nm.length≤9223372036854775807) (h0:jr j=0) (hlen:¬ 64<key.length) (hb:j.b.length=0):Calls Tryz.prog 8 #[.agg #[.string (tx j.nm),.int .i64 j.t,.int .i64 j.p,.int .i64 j.k,.int .i64 j.n,.int .i64 j.f,.slice A1 j.m.length c1,.slice A2 j.b.length c2,.slice A3 j.r.length c3,.string (tx j.fd),.bool j.cb],.string (tx key)] w (Gives (.tuple #[.int .i64 (((Cr.sm key:Nat):Int) % j.p),.int .i64 0]) w):=by
 have HR:=qq (fun w1 (h:Below w.heap.size w w1)=>right_any j A1 c1 A2 c2 A3 c3 w1 (hj.next h) (hk.next h) hl)
 rw [h0] at HR
 have hs:(tx key).size=key.length:=tx_size key
 have hgt:decide (64<(key.length:Int))=false:=decide_eq_false (by omega)
 have hb2:((j.b.length:Int) == 0)=true:=beq_iff_eq.2 (by omega)
 have HS:=qq (fun w=>Cr.sum_any (tx key) w (by omega))
 rw [tx_list] at HS
 have hp:=(numOk_in (jr_zero h0).2.1).2.1
 have HT:=qq (fun (n:Int) w=>rest_any n j.p (by omega) w)
 have HM:Hid (wrap64 ((Cr.sm key:Nat):Int)=(Cr.sm key:Nat)):=IntWalk.wrap64_in _ (by have:=Cr.sm_lt key;omega)
 clear hj hk hl h0 hlen hb hp
 generalize Cr.sm key=m at *
 have HJ:=qq (made11 w 40 (.string (tx j.nm)) (.int .i64 j.t) (.int .i64 j.p) (.int .i64 j.k) (.int .i64 j.n) (.int .i64 j.f) (.slice A1 j.m.length c1) (.slice A2 j.b.length c2) (.slice A3 j.r.length c3) (.string (tx j.fd)) (.bool j.cb))
 have HB:=qq (box1 w (.cells #[.string (tx j.nm),.int .i64 j.t,.int .i64 j.p,.int .i64 j.k,.int .i64 j.n,.int .i64 j.f,.slice A1 j.m.length c1,.slice A2 j.b.length c2,.slice A3 j.r.length c3,.string (tx j.fd),.bool j.cb] 40))
 go_enter Tryz.func8,Tryz.ntmps8
 obtain ⟨e0,e1,e2,e3,e4,e5,e6,e7,e8,e9,e10⟩:=elev HJ.out
 go_wp2_with fail
 clear e0 e1 e2 e3 e4 e5 e6 e7 e8 e9 e10
 generalize w.alloc (.cells #[.string (tx j.nm),.int .i64 j.t,.int .i64 j.p,.int .i64 j.k,.int .i64 j.n,.int .i64 j.f,.slice A1 j.m.length c1,.slice A2 j.b.length c2,.slice A3 j.r.length c3,.string (tx j.fd),.bool j.cb] 40)=v at *
 refine (HR.out _ HB.out).mono ?_
 rintro e w1 ⟨rfl,hb⟩
 replace HJ:=qq (HJ.out.next hb);replace HB:=qq (Below.next HB.out hb);clear hb
 obtain ⟨e0,e1,e2,e3,e4,e5,e6,e7,e8,e9,e10⟩:=elev HJ.out
 go_wp2_with fail
 clear e0 e1 e2 e3 e4 e5 e6 e7 e8 e9 e10
 have d2:=fun r:Over w1=>(HJ.out.over r).c 2 _ rfl
 refine wp_over (by kernel_rfl) (by kernel_rfl) ?_
 repeat (go_big_quiet_step (first | fail | with_reducible exact over_gives _ (HT.out _ _) | with_reducible exact over_gives _ (HS.out _)))
 refine wpQuiet_nil ?_
 rintro wq ⟨⟨w2,hb⟩,rfl⟩
 replace HB:=qq (Below.next HB.out hb);clear hb d2
 go_wp2_with fail
 exact bodyPost_ret (v:=.tuple #[.int .i64 ((m:Int) % j.p),.int .i64 0]) (by simp [results,Tryz.results8,go_sem,HM.out]) rfl ⟨rfl,HB.out⟩
theorem part_er (j:Jb) (A1:Option Addr) (c1:Nat) (A2:Option Addr) (c2:Nat) (A3:Option Addr) (c3:Nat) (key:List UInt8) (w:World) (hj:JL w j A1 A2 A3) (hk:KN w) (hl:j.nm.length≤9223372036854775807) (ht:Tab w) (h0:jr j=0) (hlen:¬ 64<key.length) (hb:¬ j.b.length=0) (x:Int) (hX:rnX j.b key vz vz j.f=.er x):Calls Tryz.prog 8 #[.agg #[.string (tx j.nm),.int .i64 j.t,.int .i64 j.p,.int .i64 j.k,.int .i64 j.n,.int .i64 j.f,.slice A1 j.m.length c1,.slice A2 j.b.length c2,.slice A3 j.r.length c3,.string (tx j.fd),.bool j.cb],.string (tx key)] w fun e w'=>Gives (.tuple #[.int .i64 0,.int .i64 x]) w e w'∧x ≠ 0:=by
 have HR:=qq (fun w1 (h:Below w.heap.size w w1)=>right_any j A1 c1 A2 c2 A3 c3 w1 (hj.next h) (hk.next h) hl)
 rw [h0] at HR
 have hs:(tx key).size=key.length:=tx_size key
 have hgt:decide (64<(key.length:Int))=false:=decide_eq_false (by omega)
 have hb2:((j.b.length:Int) == 0)=false:=beq_eq_false_iff_ne.2 (by omega)
 have HX:Hid (∀ w1,Below w.heap.size w w1→Calls Tryz.prog 26 #[.slice A2 j.b.length c2,.agg #[.string (tx key),.int .i64 0,.int .i64 0,.string ⟨#[]⟩,.int .i64 0,.int .i64 0,.int .i64 0,.int .i64 0,.string ⟨#[]⟩,.int .i64 0,.int .i64 0],.int .i64 j.f] w1 (RunQ (rnX j.b key vz vz j.f) w1)):=fun w1 h=>run_any j.b A2 c2 key vz vz j.f w1 (hj.b.next h) (hk.next h) (ht.next h) hj.lb
 rw [hX] at HX
 have hp:=(numOk_in (jr_zero h0).2.1).2.1
 have HT:=qq (fun (n:Int) w=>rest_any n j.p (by omega) w)
 clear hj hk hl h0 hlen hb hp ht hX
 have HJ:=qq (made11 w 40 (.string (tx j.nm)) (.int .i64 j.t) (.int .i64 j.p) (.int .i64 j.k) (.int .i64 j.n) (.int .i64 j.f) (.slice A1 j.m.length c1) (.slice A2 j.b.length c2) (.slice A3 j.r.length c3) (.string (tx j.fd)) (.bool j.cb))
 have HB:=qq (box1 w (.cells #[.string (tx j.nm),.int .i64 j.t,.int .i64 j.p,.int .i64 j.k,.int .i64 j.n,.int .i64 j.f,.slice A1 j.m.length c1,.slice A2 j.b.length c2,.slice A3 j.r.length c3,.string (tx j.fd),.bool j.cb] 40))
 go_enter Tryz.func8,Tryz.ntmps8
 obtain ⟨e0,e1,e2,e3,e4,e5,e6,e7,e8,e9,e10⟩:=elev HJ.out
 go_wp2_with fail
 clear e0 e1 e2 e3 e4 e5 e6 e7 e8 e9 e10
 generalize w.alloc (.cells #[.string (tx j.nm),.int .i64 j.t,.int .i64 j.p,.int .i64 j.k,.int .i64 j.n,.int .i64 j.f,.slice A1 j.m.length c1,.slice A2 j.b.length c2,.slice A3 j.r.length c3,.string (tx j.fd),.bool j.cb] 40)=v at *
 refine (HR.out _ HB.out).mono ?_
 rintro e w1 ⟨rfl,hb⟩
 replace HJ:=qq (HJ.out.next hb);replace HB:=qq (Below.next HB.out hb);clear hb
 obtain ⟨e0,e1,e2,e3,e4,e5,e6,e7,e8,e9,e10⟩:=elev HJ.out
 go_wp2_with fail
 clear e0 e1 e2 e3 e4 e5 e6 e7 e8 e9 e10
 refine (HX.out _ HB.out).mono ?_
 rintro e w2 ⟨hb,hx,rfl⟩
 replace HB:=qq (below_box (Below.next HB.out hb) (.cells #[.int .i64 0,.int .i64 0,.string ⟨#[]⟩,.int .i64 0,.int .i64 0,.slice none 0 0,.int .i64 0] 60));clear hb HJ
 have HXN:=qq hx
 have hx0:(x == 0)=false:=beq_eq_false_iff_ne.2 hx
 clear hx
 go_wp2_with fail
 exact bodyPost_ret (v:=.tuple #[.int .i64 0,.int .i64 x]) (by simp [results,Tryz.results8,go_sem]) rfl ⟨⟨rfl,HB.out⟩,HXN.out⟩
theorem part_ok0 (j:Jb) (A1:Option Addr) (c1:Nat) (A2:Option Addr) (c2:Nat) (A3:Option Addr) (c3:Nat) (key:List UInt8) (w:World) (hj:JL w j A1 A2 A3) (hk:KN w) (hl:j.nm.length≤9223372036854775807) (ht:Tab w) (h0:jr j=0) (hlen:¬ 64<key.length) (hb:¬ j.b.length=0) (u:Va) (S:Ev.St) (n:Nat) (hX:rnX j.b key vz vz j.f=.ok u S n) (hv:u.k=0):Calls Tryz.prog 8 #[.agg #[.string (tx j.nm),.int .i64 j.t,.int .i64 j.p,.int .i64 j.k,.int .i64 j.n,.int .i64 j.f,.slice A1 j.m.length c1,.slice A2 j.b.length c2,.slice A3 j.r.length c3,.string (tx j.fd),.bool j.cb],.string (tx key)] w fun e w'=>Gives (.tuple #[.int .i64 (u.n % j.p),.int .i64 0]) w e w':=by
 have HR:=qq (fun w1 (h:Below w.heap.size w w1)=>right_any j A1 c1 A2 c2 A3 c3 w1 (hj.next h) (hk.next h) hl)
 rw [h0] at HR
 have hs:(tx key).size=key.length:=tx_size key
 have hgt:decide (64<(key.length:Int))=false:=decide_eq_false (by omega)
 have hb2:((j.b.length:Int) == 0)=false:=beq_eq_false_iff_ne.2 (by omega)
 have HX:Hid (∀ w1,Below w.heap.size w w1→Calls Tryz.prog 26 #[.slice A2 j.b.length c2,.agg #[.string (tx key),.int .i64 0,.int .i64 0,.string ⟨#[]⟩,.int .i64 0,.int .i64 0,.int .i64 0,.int .i64 0,.string ⟨#[]⟩,.int .i64 0,.int .i64 0],.int .i64 j.f] w1 (RunQ (rnX j.b key vz vz j.f) w1)):=fun w1 h=>run_any j.b A2 c2 key vz vz j.f w1 (hj.b.next h) (hk.next h) (ht.next h) hj.lb
 rw [hX] at HX
 have hp:=(numOk_in (jr_zero h0).2.1).2.1
 have HT:=qq (fun (n:Int) w=>rest_any n j.p (by omega) w)
 clear hj hk hl h0 hlen hb hp ht hX
 have HJ:=qq (made11 w 40 (.string (tx j.nm)) (.int .i64 j.t) (.int .i64 j.p) (.int .i64 j.k) (.int .i64 j.n) (.int .i64 j.f) (.slice A1 j.m.length c1) (.slice A2 j.b.length c2) (.slice A3 j.r.length c3) (.string (tx j.fd)) (.bool j.cb))
 have HB:=qq (box1 w (.cells #[.string (tx j.nm),.int .i64 j.t,.int .i64 j.p,.int .i64 j.k,.int .i64 j.n,.int .i64 j.f,.slice A1 j.m.length c1,.slice A2 j.b.length c2,.slice A3 j.r.length c3,.string (tx j.fd),.bool j.cb] 40))
 go_enter Tryz.func8,Tryz.ntmps8
 obtain ⟨e0,e1,e2,e3,e4,e5,e6,e7,e8,e9,e10⟩:=elev HJ.out
 go_wp2_with fail
 clear e0 e1 e2 e3 e4 e5 e6 e7 e8 e9 e10
 generalize w.alloc (.cells #[.string (tx j.nm),.int .i64 j.t,.int .i64 j.p,.int .i64 j.k,.int .i64 j.n,.int .i64 j.f,.slice A1 j.m.length c1,.slice A2 j.b.length c2,.slice A3 j.r.length c3,.string (tx j.fd),.bool j.cb] 40)=v at *
 refine (HR.out _ HB.out).mono ?_
 rintro e w1 ⟨rfl,hb⟩
 replace HJ:=qq (HJ.out.next hb);replace HB:=qq (Below.next HB.out hb);clear hb
 obtain ⟨e0,e1,e2,e3,e4,e5,e6,e7,e8,e9,e10⟩:=elev HJ.out
 go_wp2_with fail
 clear e0 e1 e2 e3 e4 e5 e6 e7 e8 e9 e10
 refine (HX.out _ HB.out).mono ?_
 rintro e w2 ⟨hb,Ao,co,_,rfl⟩
 have HR2:=qq (Blk.made w2 60 [.int .i64 u.k,.int .i64 u.n,.string (tx u.s),.int .i64 u.x,.int .i64 u.y,.slice Ao S.out.length co,.int .i64 (n:Int)] rfl)
 change Hid (Blk (w2.alloc (.cells #[.int .i64 u.k,.int .i64 u.n,.string (tx u.s),.int .i64 u.x,.int .i64 u.y,.slice Ao S.out.length co,.int .i64 (n:Int)] 60)) _ _) at HR2
 replace HJ:=qq ((HJ.out.next hb).old (.cells #[.int .i64 u.k,.int .i64 u.n,.string (tx u.s),.int .i64 u.x,.int .i64 u.y,.slice Ao S.out.length co,.int .i64 (n:Int)] 60));replace HB:=qq (below_box (Below.next HB.out hb) (.cells #[.int .i64 u.k,.int .i64 u.n,.string (tx u.s),.int .i64 u.x,.int .i64 u.y,.slice Ao S.out.length co,.int .i64 (n:Int)] 60));clear hb
 have r0:=HR2.out.c 0 _ rfl;have r1:=HR2.out.c 1 _ rfl
 have p2:=HJ.out.c 2 _ rfl
 have hv0:(u.k == 0)=true:=beq_iff_eq.2 hv
 clear hv
 go_wp2_with fail
 clear r0 r1 p2
 refine (HT.out u.n _).mono ?_
 rintro e w3 ⟨rfl,hb⟩
 replace HB:=qq (Below.next HB.out hb);clear hb
 go_wp2_with fail
 exact bodyPost_ret (v:=.tuple #[.int .i64 (u.n % j.p),.int .i64 0]) (by simp [results,Tryz.results8,go_sem]) rfl ⟨rfl,HB.out⟩
theorem part_ok1 (j:Jb) (A1:Option Addr) (c1:Nat) (A2:Option Addr) (c2:Nat) (A3:Option Addr) (c3:Nat) (key:List UInt8) (w:World) (hj:JL w j A1 A2 A3) (hk:KN w) (hl:j.nm.length≤9223372036854775807) (ht:Tab w) (h0:jr j=0) (hlen:¬ 64<key.length) (hb:¬ j.b.length=0) (u:Va) (S:Ev.St) (n:Nat) (hX:rnX j.b key vz vz j.f=.ok u S n) (hv:¬ u.k=0):Calls Tryz.prog 8 #[.agg #[.string (tx j.nm),.int .i64 j.t,.int .i64 j.p,.int .i64 j.k,.int .i64 j.n,.int .i64 j.f,.slice A1 j.m.length c1,.slice A2 j.b.length c2,.slice A3 j.r.length c3,.string (tx j.fd),.bool j.cb],.string (tx key)] w fun e w'=>Gives (.tuple #[.int .i64 0,.int .i64 13]) w e w':=by
 have HR:=qq (fun w1 (h:Below w.heap.size w w1)=>right_any j A1 c1 A2 c2 A3 c3 w1 (hj.next h) (hk.next h) hl)
 rw [h0] at HR
 have hs:(tx key).size=key.length:=tx_size key
 have hgt:decide (64<(key.length:Int))=false:=decide_eq_false (by omega)
 have hb2:((j.b.length:Int) == 0)=false:=beq_eq_false_iff_ne.2 (by omega)
 have HX:Hid (∀ w1,Below w.heap.size w w1→Calls Tryz.prog 26 #[.slice A2 j.b.length c2,.agg #[.string (tx key),.int .i64 0,.int .i64 0,.string ⟨#[]⟩,.int .i64 0,.int .i64 0,.int .i64 0,.int .i64 0,.string ⟨#[]⟩,.int .i64 0,.int .i64 0],.int .i64 j.f] w1 (RunQ (rnX j.b key vz vz j.f) w1)):=fun w1 h=>run_any j.b A2 c2 key vz vz j.f w1 (hj.b.next h) (hk.next h) (ht.next h) hj.lb
 rw [hX] at HX
 have hp:=(numOk_in (jr_zero h0).2.1).2.1
 have HT:=qq (fun (n:Int) w=>rest_any n j.p (by omega) w)
 clear hj hk hl h0 hlen hb hp ht hX
 have HJ:=qq (made11 w 40 (.string (tx j.nm)) (.int .i64 j.t) (.int .i64 j.p) (.int .i64 j.k) (.int .i64 j.n) (.int .i64 j.f) (.slice A1 j.m.length c1) (.slice A2 j.b.length c2) (.slice A3 j.r.length c3) (.string (tx j.fd)) (.bool j.cb))
 have HB:=qq (box1 w (.cells #[.string (tx j.nm),.int .i64 j.t,.int .i64 j.p,.int .i64 j.k,.int .i64 j.n,.int .i64 j.f,.slice A1 j.m.length c1,.slice A2 j.b.length c2,.slice A3 j.r.length c3,.string (tx j.fd),.bool j.cb] 40))
 go_enter Tryz.func8,Tryz.ntmps8
 obtain ⟨e0,e1,e2,e3,e4,e5,e6,e7,e8,e9,e10⟩:=elev HJ.out
 go_wp2_with fail
 clear e0 e1 e2 e3 e4 e5 e6 e7 e8 e9 e10
 generalize w.alloc (.cells #[.string (tx j.nm),.int .i64 j.t,.int .i64 j.p,.int .i64 j.k,.int .i64 j.n,.int .i64 j.f,.slice A1 j.m.length c1,.slice A2 j.b.length c2,.slice A3 j.r.length c3,.string (tx j.fd),.bool j.cb] 40)=v at *
 refine (HR.out _ HB.out).mono ?_
 rintro e w1 ⟨rfl,hb⟩
 replace HJ:=qq (HJ.out.next hb);replace HB:=qq (Below.next HB.out hb);clear hb
 obtain ⟨e0,e1,e2,e3,e4,e5,e6,e7,e8,e9,e10⟩:=elev HJ.out
 go_wp2_with fail
 clear e0 e1 e2 e3 e4 e5 e6 e7 e8 e9 e10
 refine (HX.out _ HB.out).mono ?_
 rintro e w2 ⟨hb,Ao,co,_,rfl⟩
 have HR2:=qq (Blk.made w2 60 [.int .i64 u.k,.int .i64 u.n,.string (tx u.s),.int .i64 u.x,.int .i64 u.y,.slice Ao S.out.length co,.int .i64 (n:Int)] rfl)
 change Hid (Blk (w2.alloc (.cells #[.int .i64 u.k,.int .i64 u.n,.string (tx u.s),.int .i64 u.x,.int .i64 u.y,.slice Ao S.out.length co,.int .i64 (n:Int)] 60)) _ _) at HR2
 replace HJ:=qq ((HJ.out.next hb).old (.cells #[.int .i64 u.k,.int .i64 u.n,.string (tx u.s),.int .i64 u.x,.int .i64 u.y,.slice Ao S.out.length co,.int .i64 (n:Int)] 60));replace HB:=qq (below_box (Below.next HB.out hb) (.cells #[.int .i64 u.k,.int .i64 u.n,.string (tx u.s),.int .i64 u.x,.int .i64 u.y,.slice Ao S.out.length co,.int .i64 (n:Int)] 60));clear hb
 have r0:=HR2.out.c 0 _ rfl;have r1:=HR2.out.c 1 _ rfl
 have p2:=HJ.out.c 2 _ rfl
 have hv0:(u.k == 0)=false:=beq_eq_false_iff_ne.2 hv
 clear hv HT
 go_wp2_with fail
 exact bodyPost_ret (v:=.tuple #[.int .i64 0,.int .i64 13]) (by simp [results,Tryz.results8,go_sem]) rfl ⟨rfl,HB.out⟩
theorem part_any (j:Jb) (A1:Option Addr) (c1:Nat) (A2:Option Addr) (c2:Nat) (A3:Option Addr) (c3:Nat) (key:List UInt8) (w:World) (hj:JL w j A1 A2 A3) (hk:KN w) (hl:j.nm.length≤9223372036854775807) (ht:Tab w) (hm:key.length≤9223372036854775807):Calls Tryz.prog 8 #[.agg #[.string (tx j.nm),.int .i64 j.t,.int .i64 j.p,.int .i64 j.k,.int .i64 j.n,.int .i64 j.f,.slice A1 j.m.length c1,.slice A2 j.b.length c2,.slice A3 j.r.length c3,.string (tx j.fd),.bool j.cb],.string (tx key)] w (PQ j key w):=by
 by_cases h0:jr j=0
 rotate_left
 · refine (part_bad j A1 c1 A2 c2 A3 c3 key w hj hk hl h0).mono fun e w' h=>⟨?_,fun h1=>absurd h1 h0⟩
   unfold pt;rw [if_pos h0];exact h
 by_cases h1:64<key.length
 · refine (part_long j A1 c1 A2 c2 A3 c3 key w hj hk hl h0 h1 hm).mono fun e w' h=>⟨?_,fun _ h2=>absurd h1 (by omega)⟩
   unfold pt;rw [if_neg (by omega),if_pos h1];exact h
 by_cases h2:j.b.length=0
 · have hb:j.b.isEmpty=true:=by rw [List.length_eq_zero_iff.1 h2];rfl
   refine (part_sum j A1 c1 A2 c2 A3 c3 key w hj hk hl h0 h1 h2).mono fun e w' h=>⟨?_,fun _ _ h3=>absurd hb h3⟩
   rw [pt_in h0 h1,if_pos hb];exact h
 have hb:¬ j.b.isEmpty=true:=fun h=>h2 (by rw [List.isEmpty_iff.1 h];rfl)
 cases hX:rnX j.b key vz vz j.f with
 | er x =>
   refine (part_er j A1 c1 A2 c2 A3 c3 key w hj hk hl ht h0 h1 h2 x hX).mono fun e w' h=>⟨?_,fun _ _ _ y hy=>?_⟩
   · rw [pt_in h0 h1,if_neg hb,hX];exact h.1
   · rw [hX] at hy;injection hy with hy;subst hy;exact h.2
 | ok v S n =>
   have hz:∀ y,rnX j.b key vz vz j.f=.er y→y ≠ 0:=fun y hy=>by rw [hX] at hy;cases hy
   by_cases hv:v.k=0
   · refine (part_ok0 j A1 c1 A2 c2 A3 c3 key w hj hk hl ht h0 h1 h2 v S n hX hv).mono fun e w' h=>⟨?_,fun _ _ _=>hz⟩
     rw [pt_in h0 h1,if_neg hb,hX];unfold pm;simp only [if_pos hv];exact h
   · refine (part_ok1 j A1 c1 A2 c2 A3 c3 key w hj hk hl ht h0 h1 h2 v S n hX hv).mono fun e w' h=>⟨?_,fun _ _ _=>hz⟩
     rw [pt_in h0 h1,if_neg hb,hX];unfold pm;simp only [if_neg hv];exact h
end Go.Proofs.YtgakcpcpfkoaiaaGreatDoor.Jo

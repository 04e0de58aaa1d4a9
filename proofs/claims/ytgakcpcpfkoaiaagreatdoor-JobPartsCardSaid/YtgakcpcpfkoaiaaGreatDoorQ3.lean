/-
  Small texts of this claim, together: ExSmall, VaCut2, OvDuo, GaDivide, GaDiv, GaFirst, GaTurn, GaDiv2, EvSmall, EvSmall2, EvSmall3, VaWrite2, VaOrder, EvStr, EvWds, EvOwn, EvFuel, EvLocal, EvNam.
-/
import Derived.Test.YtgakcpcpfkoaiaaGreatDoorQ1
import Derived.Test.YtgakcpcpfkoaiaaGreatDoorQVaRight
import Derived.Test.YtgakcpcpfkoaiaaGreatDoorQ2
import Derived.Test.YtgakcpcpfkoaiaaGreatDoorQOvAlloc
import Derived.Test.YtgakcpcpfkoaiaaGreatDoorQEvGood
import Derived.IntWalk
import Derived.Deep.QuietTactic
import Derived.BigQuiet
set_option maxHeartbeats 4000000
set_option maxRecDepth 100000
namespace Go.Proofs.YtgakcpcpfkoaiaaGreatDoor.Ex
open Go.ChangeShapes Go.WideShapes Go.ChangeAt Go.RowKit Ov Va
def ptv (o:Int):Value:=.tuple #[.string (tx (wd o)),.int .i64 ((pa o:Nat):Int),.bool (decide (2≤o∧o≤29))]
theorem parts_no {o:Int} (h:o<2∨30≤o) (w:World):Calls Tryz.prog 79 #[.int .i64 o] w fun e w'=>e=.returned (ptv o)∧w=w':=by
 have e:ptv o=.tuple #[.string ⟨#[]⟩,.int .i64 0,.bool false]:=by
  unfold ptv
  rw [(kind_out h).1,(kind_out h).2,decide_eq_false (by omega)];rfl
 rw [e];clear e
 by_cases h1:o<2
 · go_enter Tryz.func79,Tryz.ntmps79
   go_wp2_with fail
   go_ret3
   exact ⟨rfl,rfl⟩
 · have h2:30≤o:=by omega
   clear h
   go_enter Tryz.func79,Tryz.ntmps79
   go_wp2_with fail
   go_ret3
   exact ⟨rfl,rfl⟩
theorem parts_yes {o:Int} (h:2≤o∧o≤29) (w:World) (hk:KN w):Calls Tryz.prog 79 #[.int .i64 o] w fun e w'=>e=.returned (ptv o)∧∃ m,w'=w.drewN m:=by
 obtain ⟨i,rfl⟩:∃ i:Nat,o=(i:Int):=⟨o.toNat,by omega⟩
 have hi:i<30:=by omega
 have c0:=hk.word i hi
 have c1:=hk.parts i hi
 have e:ptv (i:Int)=.tuple #[.string (tx wdl[i]!),.int .i64 ((ptl[i]!:Nat):Int),.bool true]:=by
  unfold ptv
  rw [wd_at hi,pa_at hi,decide_eq_true h]
 rw [e]
 generalize tx wdl[i]! = s at *
 generalize ((ptl[i]!:Nat):Int)=n at *
 rw [Nat.mul_comm] at c0 c1
 have h1:¬ (i:Int)<2:=by omega
 have h2:(i:Int)<30:=by omega
 clear e hk h
 go_enter Tryz.func79,Tryz.ntmps79
 go_wp2_with fail
 go_quiet (fail)
 go_wp2_with fail
 go_ret3
 exact ⟨rfl,_,rfl⟩
theorem parts_any (o:Int) (w:World) (hk:KN w):Calls Tryz.prog 79 #[.int .i64 o] w (Gives (ptv o) w):=by
 by_cases h:2≤o∧o≤29
 · exact (parts_yes h w hk).mono fun _ _ ⟨he,m,hw⟩=>⟨he,by rw [hw];exact below_drewN (Below.refl _ _) m⟩
 · exact (parts_no (by omega) w).mono fun _ _ ⟨he,hw⟩=>⟨he,by rw [← hw];exact Below.refl _ _⟩
theorem nameNumber_any (n:Int) (w:World):Calls Tryz.prog 158 #[.int .i64 n] w (Gives (.agg #[.int .i64 0,.int .i64 n,.string ⟨#[]⟩,.int .i64 0,.int .i64 0]) w):=by
 go_enter Tryz.func158,Tryz.ntmps158
 go_wp2_with fail
 refine bodyPost_ret (v:=.agg #[.int .i64 0,.int .i64 n,.string ⟨#[]⟩,.int .i64 0,.int .i64 0]) (by simp [results,Tryz.results158,go_sem]) rfl ⟨rfl,?_⟩
 exact box1 w _
def ncs (o k n:Int) (s:ByteArray) (x y:Int):List Value:=[.int .i64 o,.int .i64 k,.int .i64 n,.string s,.int .i64 x,.int .i64 y]
def rnv (o k n:Int) (s:ByteArray) (x y:Int):Bool:=rn ⟨o,⟨k,n,s.data.toList,x,y⟩⟩
theorem rn_val (k n x y:Int) (s:ByteArray):rnv 0 k n s x y=rt ⟨k,n,s.data.toList,x,y⟩:=by
 unfold rnv rn
 rw [if_pos rfl]
theorem rn_name (k n x y:Int) (s:ByteArray):rnv 1 k n s x y=(ve ⟨k,n,s.data.toList,x,y⟩ ⟨0,n,[],0,0⟩ && (decide (0≤n) && decide (n<5))):=by
 unfold rnv rn
 rw [if_neg (show ¬ (1:Int)=0 by decide),if_pos rfl,Bool.eq_iff_iff]
 unfold ve nv
 simp only [Bool.and_eq_true,decide_eq_true_eq]
theorem rn_kind {o:Int} (h0:o ≠ 0) (h1:o ≠ 1) (k n x y:Int) (s:ByteArray):rnv o k n s x y=(decide (2≤o∧o≤29) && ve ⟨k,n,s.data.toList,x,y⟩ ⟨0,0,[],0,0⟩):=by
 unfold rnv rn
 rw [if_neg h0,if_neg h1,Bool.eq_iff_iff]
 unfold ve vz
 simp only [Bool.and_eq_true,decide_eq_true_eq]
theorem rightNode_val (k n x y:Int) (s:ByteArray) (w:World):Calls Tryz.prog 126 #[.agg #[.int .i64 0,.int .i64 k,.int .i64 n,.string s,.int .i64 x,.int .i64 y]] w (Gives (.bool (rnv 0 k n s x y)) w):=by
 rw [rn_val]
 have HR:=qq (right_val k n x y s)
 generalize rt ⟨k,n,s.data.toList,x,y⟩=q at *
 go_enter Tryz.func126,Tryz.ntmps126
 go_wp2_with fail
 refine (HR.out _).mono ?_
 rintro e w1 ⟨rfl,hb⟩
 have HB:=qq (Below.next (box1 w _) hb)
 clear hb
 go_wp2_with fail
 go_ret
 exact ⟨rfl,HB.out⟩
theorem rightNode_name (k n x y:Int) (s:ByteArray) (w:World):Calls Tryz.prog 126 #[.agg #[.int .i64 1,.int .i64 k,.int .i64 n,.string s,.int .i64 x,.int .i64 y]] w (Gives (.bool (rnv 1 k n s x y)) w):=by
 rw [rn_name]
 have hE:∀ w,(binOp .eql 28 (.agg #[.int .i64 k,.int .i64 n,.string s,.int .i64 x,.int .i64 y]) (.agg #[.int .i64 0,.int .i64 n,.string ⟨#[]⟩,.int .i64 0,.int .i64 0])).run Tryz.prog w=.ok (.bool (ve ⟨k,n,s.data.toList,x,y⟩ ⟨0,n,[],0,0⟩)) w:=eql_val _ _ _ _ _ _ _ _ _ _
 have HN:=qq (nameNumber_any n)
 generalize ve ⟨k,n,s.data.toList,x,y⟩ ⟨0,n,[],0,0⟩=q at *
 cases q
 · rw [Bool.false_and]
   go_enter Tryz.func126,Tryz.ntmps126
   go_wp2_with fail
   have kb:=qq (box1 w (.cells #[.int .i64 1,.int .i64 k,.int .i64 n,.string s,.int .i64 x,.int .i64 y] 97))
   have D:=Blk.made w 97 (ncs 1 k n s x y) rfl
   change Blk (w.alloc (.cells #[.int .i64 1,.int .i64 k,.int .i64 n,.string s,.int .i64 x,.int .i64 y] 97)) w.heap.size _ at D
   generalize w.alloc (.cells #[.int .i64 1,.int .i64 k,.int .i64 n,.string s,.int .i64 x,.int .i64 y] 97)=v at *
   have k1:=fun r:Over v=>(D.over r).c 1 _ rfl
   have k2:=fun r:Over v=>(D.over r).c 2 _ rfl
   have k3:=fun r:Over v=>(D.over r).c 3 _ rfl
   have k4:=fun r:Over v=>(D.over r).c 4 _ rfl
   have k5:=fun r:Over v=>(D.over r).c 5 _ rfl
   clear D
   refine wp_over (by kernel_rfl) (by kernel_rfl) ?_
   repeat (go_big_quiet_step (first | fail | with_reducible exact over_gives _ (HN.out _)))
   refine wpQuiet_nil ?_
   rintro wq ⟨⟨wq,hb⟩,rfl⟩
   have HB:=qq (Below.next kb.out hb)
   clear hb kb k1 k2 k3 k4 k5
   go_wp2_with fail
   go_ret
   exact ⟨rfl,HB.out⟩
 · rw [Bool.true_and]
   by_cases h1:0≤n
   · have d1:decide (0≤n)=true:=decide_eq_true h1
     rw [d1,Bool.true_and]
     by_cases h2:n<5
     · have d2:decide (n<5)=true:=decide_eq_true h2
       rw [d2]
       go_enter Tryz.func126,Tryz.ntmps126
       go_wp2_with fail
       have kb:=qq (box1 w (.cells #[.int .i64 1,.int .i64 k,.int .i64 n,.string s,.int .i64 x,.int .i64 y] 97))
       have D:=Blk.made w 97 (ncs 1 k n s x y) rfl
       change Blk (w.alloc (.cells #[.int .i64 1,.int .i64 k,.int .i64 n,.string s,.int .i64 x,.int .i64 y] 97)) w.heap.size _ at D
       generalize w.alloc (.cells #[.int .i64 1,.int .i64 k,.int .i64 n,.string s,.int .i64 x,.int .i64 y] 97)=v at *
       have k1:=fun r:Over v=>(D.over r).c 1 _ rfl
       have k2:=fun r:Over v=>(D.over r).c 2 _ rfl
       have k3:=fun r:Over v=>(D.over r).c 3 _ rfl
       have k4:=fun r:Over v=>(D.over r).c 4 _ rfl
       have k5:=fun r:Over v=>(D.over r).c 5 _ rfl
       clear D
       refine wp_over (by kernel_rfl) (by kernel_rfl) ?_
       repeat (go_big_quiet_step (first | fail | with_reducible exact over_gives _ (HN.out _)))
       refine wpQuiet_nil ?_
       rintro wq ⟨⟨wq,hb⟩,rfl⟩
       have HB:=qq (Below.next kb.out hb)
       clear hb kb k1 k2 k3 k4 k5
       go_wp2_with fail
       go_ret
       exact ⟨rfl,HB.out⟩
     · have d2:decide (n<5)=false:=decide_eq_false h2
       rw [d2]
       go_enter Tryz.func126,Tryz.ntmps126
       go_wp2_with fail
       have kb:=qq (box1 w (.cells #[.int .i64 1,.int .i64 k,.int .i64 n,.string s,.int .i64 x,.int .i64 y] 97))
       have D:=Blk.made w 97 (ncs 1 k n s x y) rfl
       change Blk (w.alloc (.cells #[.int .i64 1,.int .i64 k,.int .i64 n,.string s,.int .i64 x,.int .i64 y] 97)) w.heap.size _ at D
       generalize w.alloc (.cells #[.int .i64 1,.int .i64 k,.int .i64 n,.string s,.int .i64 x,.int .i64 y] 97)=v at *
       have k1:=fun r:Over v=>(D.over r).c 1 _ rfl
       have k2:=fun r:Over v=>(D.over r).c 2 _ rfl
       have k3:=fun r:Over v=>(D.over r).c 3 _ rfl
       have k4:=fun r:Over v=>(D.over r).c 4 _ rfl
       have k5:=fun r:Over v=>(D.over r).c 5 _ rfl
       clear D
       refine wp_over (by kernel_rfl) (by kernel_rfl) ?_
       repeat (go_big_quiet_step (first | fail | with_reducible exact over_gives _ (HN.out _)))
       refine wpQuiet_nil ?_
       rintro wq ⟨⟨wq,hb⟩,rfl⟩
       have HB:=qq (Below.next kb.out hb)
       clear hb kb k1 k2 k3 k4 k5
       go_wp2_with fail
       go_ret
       exact ⟨rfl,HB.out⟩
   · have d1:decide (0≤n)=false:=decide_eq_false h1
     rw [d1,Bool.false_and]
     go_enter Tryz.func126,Tryz.ntmps126
     go_wp2_with fail
     have kb:=qq (box1 w (.cells #[.int .i64 1,.int .i64 k,.int .i64 n,.string s,.int .i64 x,.int .i64 y] 97))
     have D:=Blk.made w 97 (ncs 1 k n s x y) rfl
     change Blk (w.alloc (.cells #[.int .i64 1,.int .i64 k,.int .i64 n,.string s,.int .i64 x,.int .i64 y] 97)) w.heap.size _ at D
     generalize w.alloc (.cells #[.int .i64 1,.int .i64 k,.int .i64 n,.string s,.int .i64 x,.int .i64 y] 97)=v at *
     have k1:=fun r:Over v=>(D.over r).c 1 _ rfl
     have k2:=fun r:Over v=>(D.over r).c 2 _ rfl
     have k3:=fun r:Over v=>(D.over r).c 3 _ rfl
     have k4:=fun r:Over v=>(D.over r).c 4 _ rfl
     have k5:=fun r:Over v=>(D.over r).c 5 _ rfl
     clear D
     refine wp_over (by kernel_rfl) (by kernel_rfl) ?_
     repeat (go_big_quiet_step (first | fail | with_reducible exact over_gives _ (HN.out _)))
     refine wpQuiet_nil ?_
     rintro wq ⟨⟨wq,hb⟩,rfl⟩
     have HB:=qq (Below.next kb.out hb)
     clear hb kb k1 k2 k3 k4 k5
     go_wp2_with fail
     go_ret
     exact ⟨rfl,HB.out⟩
theorem rightNode_kind {o:Int} (h0:o ≠ 0) (h1:o ≠ 1) (k n x y:Int) (s:ByteArray) (w:World) (hk:KN w):Calls Tryz.prog 126 #[.agg #[.int .i64 o,.int .i64 k,.int .i64 n,.string s,.int .i64 x,.int .i64 y]] w (Gives (.bool (rnv o k n s x y)) w):=by
 rw [rn_kind h0 h1]
 have hE:∀ w,(binOp .eql 28 (.agg #[.int .i64 k,.int .i64 n,.string s,.int .i64 x,.int .i64 y]) (.agg #[.int .i64 0,.int .i64 0,.string ⟨#[]⟩,.int .i64 0,.int .i64 0])).run Tryz.prog w=.ok (.bool (ve ⟨k,n,s.data.toList,x,y⟩ ⟨0,0,[],0,0⟩)) w:=eql_val _ _ _ _ _ _ _ _ _ _
 have HP:Hid (∀ w,KN w→Calls Tryz.prog 79 #[.int .i64 o] w (Gives (.tuple #[.string (tx (wd o)),.int .i64 ((pa o:Nat):Int),.bool (decide (2≤o∧o≤29))]) w)):=fun w h=>parts_any o w h
 have HK:=qq hk;clear hk
 have g0:(o == 0)=false:=beq_eq_false_iff_ne.2 h0
 have g1:(o == 1)=false:=beq_eq_false_iff_ne.2 h1
 clear h0 h1
 generalize ve ⟨k,n,s.data.toList,x,y⟩ ⟨0,0,[],0,0⟩=q at *
 generalize decide (2≤o∧o≤29)=b at *
 generalize tx (wd o)=a at *
 generalize ((pa o:Nat):Int)=p at *
 cases b
 · rw [Bool.false_and]
   go_enter Tryz.func126,Tryz.ntmps126
   go_wp2_with fail
   have kb:=qq (box1 w (.cells #[.int .i64 o,.int .i64 k,.int .i64 n,.string s,.int .i64 x,.int .i64 y] 97))
   have D:=Blk.made w 97 (ncs o k n s x y) rfl
   change Blk (w.alloc (.cells #[.int .i64 o,.int .i64 k,.int .i64 n,.string s,.int .i64 x,.int .i64 y] 97)) w.heap.size _ at D
   generalize w.alloc (.cells #[.int .i64 o,.int .i64 k,.int .i64 n,.string s,.int .i64 x,.int .i64 y] 97)=v at *
   have c0:=D.c 0 _ rfl
   refine (HP.out _ (HK.out.next kb.out)).mono ?_
   rintro e w1 ⟨rfl,hb⟩
   have HB:=qq (Below.next kb.out hb)
   have D1:=D.next hb
   clear hb kb c0 D
   have c1:=D1.c 1 _ rfl;have c2:=D1.c 2 _ rfl;have c3:=D1.c 3 _ rfl;have c4:=D1.c 4 _ rfl;have c5:=D1.c 5 _ rfl
   clear D1
   go_wp2_with fail
   go_ret
   exact ⟨rfl,HB.out⟩
 · rw [Bool.true_and]
   go_enter Tryz.func126,Tryz.ntmps126
   go_wp2_with fail
   have kb:=qq (box1 w (.cells #[.int .i64 o,.int .i64 k,.int .i64 n,.string s,.int .i64 x,.int .i64 y] 97))
   have D:=Blk.made w 97 (ncs o k n s x y) rfl
   change Blk (w.alloc (.cells #[.int .i64 o,.int .i64 k,.int .i64 n,.string s,.int .i64 x,.int .i64 y] 97)) w.heap.size _ at D
   generalize w.alloc (.cells #[.int .i64 o,.int .i64 k,.int .i64 n,.string s,.int .i64 x,.int .i64 y] 97)=v at *
   have c0:=D.c 0 _ rfl
   refine (HP.out _ (HK.out.next kb.out)).mono ?_
   rintro e w1 ⟨rfl,hb⟩
   have HB:=qq (Below.next kb.out hb)
   have D1:=D.next hb
   clear hb kb c0 D
   have c1:=D1.c 1 _ rfl;have c2:=D1.c 2 _ rfl;have c3:=D1.c 3 _ rfl;have c4:=D1.c 4 _ rfl;have c5:=D1.c 5 _ rfl
   clear D1
   go_wp2_with fail
   go_ret
   exact ⟨rfl,HB.out⟩
theorem rightNode_any (o k n x y:Int) (s:ByteArray) (w:World) (hk:KN w):Calls Tryz.prog 126 #[.agg #[.int .i64 o,.int .i64 k,.int .i64 n,.string s,.int .i64 x,.int .i64 y]] w (Gives (.bool (rnv o k n s x y)) w):=by
 by_cases h0:o=0
 · subst h0;exact rightNode_val k n x y s w
 by_cases h1:o=1
 · subst h1;exact rightNode_name k n x y s w
 exact rightNode_kind h0 h1 k n x y s w hk
end Go.Proofs.YtgakcpcpfkoaiaaGreatDoor.Ex
namespace Go.Proofs.YtgakcpcpfkoaiaaGreatDoor.Va
open Go.ChangeShapes Go.WideShapes Go.ChangeAt Go.RowKit Ov Tp
def cwv (r:Int × Nat × Nat):Value:=.tuple #[.int .i64 r.1,.int .i64 (r.2.1:Int),.int .i64 (r.2.2:Int)]
theorem ext_list (s:ByteArray) (n:Nat):(s.extract n s.size).data.toList=s.data.toList.drop n:=by rw [ext_drop,tx_list]
theorem ext_size (s:ByteArray) (n:Nat):(s.extract n s.size).size=s.size - n:=by simp
theorem cutWhole_any (s:ByteArray) (w:World) (hs:s.size≤281474976710656) :
 Calls Tryz.prog 173 #[.string s] w fun e w'=>e=.returned (cwv (cw s.data.toList))∧w=w':=by
 have HP:=qq (prefix_any s 45)
 by_cases h:s.data.toList.head? = some 45
 · have hd:decide (s.data.toList.head? = some 45)=true:=decide_eq_true h
   rw [hd] at HP
   have hsz:1≤s.size:=by
    cases hl:s.data.toList with
    | nil=>rw [hl] at h;simp at h
    | cons c t =>
      have:=congrArg List.length hl
      simp at this;omega
   have HC:=qq (cutDigits_any (s.extract 1 s.size))
   have HE:Hid (cw s.data.toList=if (cd (s.data.toList.drop 1)).2.2 ≠ 0 then (0,0,(cd (s.data.toList.drop 1)).2.2) else if (cd (s.data.toList.drop 1)).1=0 then (0,0,6) else (-((cd (s.data.toList.drop 1)).1:Int),(cd (s.data.toList.drop 1)).2.1+1,0)):=by
    show _=_
    unfold cw;rw [if_pos h,List.drop_one]
   have hz2:=ext_size s 1
   rw [ext_list] at HC
   clear h hd
   rcases cd_cases (s.data.toList.drop 1) with ⟨n,z,e⟩ | ⟨k,e,hk,hk'⟩
   · have hb:=cd_zero e
     have hb2:z≤s.size:=by
      have:=hb.2
      rw [List.length_drop] at this
      simp at this;omega
     rw [e] at HC HE
     have HE1:Hid (cw s.data.toList=if n=0 then (0,0,6) else (-(n:Int),z+1,0)):=HE.out.trans (if_neg (by simp))
     obtain ⟨hb1,_⟩:=hb
     clear e HE
     by_cases hn:n=0
     · subst hn
       have HF:=qq (HE1.out.trans (if_pos rfl))
       clear HE1
       go_enter Tryz.func173,Tryz.ntmps173
       go_wp2_with fail
       refine (HP.out _).mono ?_
       rintro e w' ⟨rfl,rfl⟩
       go_wp2_with fail
       refine (HC.out _ (by omega)).mono ?_
       rintro e w' ⟨rfl,rfl⟩
       unfold cdv
       go_wp2_with fail
       go_ret3
       exact ⟨by rw [HF.out];rfl,rfl⟩
     · have HF:=qq (HE1.out.trans (if_neg hn))
       have h0:((n:Int) == 0)=false:=by rw [beq_eq_false_iff_ne];omega
       clear HE1 hn
       go_enter Tryz.func173,Tryz.ntmps173
       go_wp2_with fail
       refine (HP.out _).mono ?_
       rintro e w' ⟨rfl,rfl⟩
       go_wp2_with fail
       refine (HC.out _ (by omega)).mono ?_
       rintro e w' ⟨rfl,rfl⟩
       unfold cdv
       go_wp2_with fail
       go_ret3
       exact ⟨by rw [HF.out];rfl,rfl⟩
   · rw [e] at HC HE
     have HF:Hid (cw s.data.toList=(0,0,k)):=HE.out.trans (if_pos (by show k ≠ 0;omega))
     have h0:((k:Int) != 0)=true:=by rw [bne_iff_ne];omega
     clear e HE
     go_enter Tryz.func173,Tryz.ntmps173
     go_wp2_with fail
     refine (HP.out _).mono ?_
     rintro e w' ⟨rfl,rfl⟩
     go_wp2_with fail
     refine (HC.out _ (by omega)).mono ?_
     rintro e w' ⟨rfl,rfl⟩
     unfold cdv
     go_wp2_with fail
     go_ret3
     exact ⟨by rw [HF.out];rfl,rfl⟩
 · have hd:decide (s.data.toList.head? = some 45)=false:=decide_eq_false h
   rw [hd] at HP
   have HC:=qq (cutDigits_any s)
   have HE:Hid (cw s.data.toList=(((cd s.data.toList).1:Int),(cd s.data.toList).2.1,(cd s.data.toList).2.2)):=if_neg h
   generalize cd s.data.toList=q at *
   obtain ⟨q1,q2,q3⟩:=q
   clear h hd
   go_enter Tryz.func173,Tryz.ntmps173
   go_wp2_with fail
   refine (HP.out _).mono ?_
   rintro e w' ⟨rfl,rfl⟩
   go_wp2_with fail
   refine (HC.out _ hs).mono ?_
   rintro e w' ⟨rfl,rfl⟩
   unfold cdv
   go_wp2_with fail
   go_ret3
   exact ⟨by rw [HE.out];rfl,rfl⟩
end Go.Proofs.YtgakcpcpfkoaiaaGreatDoor.Va
namespace Go.Proofs.YtgakcpcpfkoaiaaGreatDoor.Ov
open Go.ChangeShapes Go.WideShapes Go.ChangeAt Go.RowKit
structure Duo (w:World) (b:Nat) (u v:Value):Prop where
 c0:w.cell? ⟨b,0,none⟩=some u
 c1:w.cell? ⟨b,1,none⟩=some v
 f0:w.frozen? ⟨b,0,none⟩=false
 f1:w.frozen? ⟨b,1,none⟩=false
section
variable {w w':World} {b:Nat} {u v:Value}
theorem Duo.lt (h:Duo w b u v):b<w.heap.size:=block_lt_of_cell h.c0
theorem Duo.next (h:Duo w b u v) (k:Below w.heap.size w w'):Duo w' b u v :=
 ⟨(k.cell (p:=⟨b,0,none⟩) h.lt).trans h.c0,(k.cell (p:=⟨b,1,none⟩) h.lt).trans h.c1,(k.frozen (p:=⟨b,0,none⟩) h.lt).trans h.f0,(k.frozen (p:=⟨b,1,none⟩) h.lt).trans h.f1⟩
theorem Duo.old (h:Duo w b u v) (o:Obj):Duo (w.alloc o) b u v:=h.next ((Below.refl _ _).alloc (Nat.le_refl _) _)
theorem Duo.made (w:World) (t:TypeId) (u v:Value):Duo (w.alloc (.cells #[u,v] t)) w.heap.size u v :=
 ⟨by simp [World.cell?_alloc_new],by simp [World.cell?_alloc_new],by simp [World.frozen?_alloc_new],by simp [World.frozen?_alloc_new]⟩
theorem Duo.drew (h:Duo w b u v):Duo w.drew b u v:=⟨h.c0,h.c1,h.f0,h.f1⟩
theorem Duo.over (h:Duo w b u v) (q:Over w):Duo q.val b u v:=h.next q.property
theorem Duo.put (h:Duo w b u v) {c:Nat} (hc:c ≠ b) (o:Nat) (z:Value):Duo (w.setCell ⟨c,o,none⟩ z) b u v :=
 ⟨by rw [World.cell?_setCell_other _ _ _ _ (fun e=>hc (congrArg Addr.block e))];exact h.c0,by rw [World.cell?_setCell_other _ _ _ _ (fun e=>hc (congrArg Addr.block e))];exact h.c1,
  by rw [World.frozen?_setCell];exact h.f0,by rw [World.frozen?_setCell];exact h.f1⟩
theorem Duo.put2 (h:Duo w b u v) {c:Nat} (hc:c ≠ b) (y z:Value):Duo ((w.setCell ⟨c,0,none⟩ y).setCell ⟨c,1,none⟩ z) b u v:=(h.put hc 0 y).put hc 1 z
theorem Duo.set (h:Duo w b u v) (y z:Value):Duo ((w.setCell ⟨b,0,none⟩ y).setCell ⟨b,1,none⟩ z) b y z:=by
 have n1:(⟨b,0,none⟩:Addr) ≠ ⟨b,1,none⟩:=fun e=>by injection e with _ e;cases e
 have c0:(w.setCell ⟨b,0,none⟩ y).cell? ⟨b,0,none⟩=some y:=World.cell?_setCell_same _ _ _ h.c0
 have c1:(w.setCell ⟨b,0,none⟩ y).cell? ⟨b,1,none⟩=some v:=by rw [World.cell?_setCell_other _ _ _ _ n1];exact h.c1
 exact ⟨by rw [World.cell?_setCell_other _ _ _ _ n1.symm];exact c0,World.cell?_setCell_same _ _ _ c1,by rw [World.frozen?_setCell,World.frozen?_setCell];exact h.f0,by rw [World.frozen?_setCell,World.frozen?_setCell];exact h.f1⟩
theorem below_put2 {B:Nat} {a:World} (h:Below B a w) {c:Nat} (hc:B≤c) (y z:Value):Below B a ((w.setCell ⟨c,0,none⟩ y).setCell ⟨c,1,none⟩ z):=(h.setCell (p:=⟨c,0,none⟩) hc y).setCell (p:=⟨c,1,none⟩) hc z
theorem Holds.duo {t:TypeId} {y:World} (h:Holds w (.cells #[u,v] t) b y):Duo y b u v:=⟨h.cell 0,h.cell 1,h.frozen 0,h.frozen 1⟩
theorem Duo.made1 (w:World) (a:Obj) (t:TypeId) (u v:Value):Duo ((w.alloc a).alloc (.cells #[u,v] t)) (w.heap.size+1) u v:=by
 have h:=Duo.made (w.alloc a) t u v;rwa [World.size_alloc] at h
theorem Duo.made2 (w:World) (a b:Obj) (t:TypeId) (u v:Value):Duo (((w.alloc a).alloc b).alloc (.cells #[u,v] t)) (w.heap.size+1+1) u v:=by
 have h:=Duo.made ((w.alloc a).alloc b) t u v;rwa [World.size_alloc,World.size_alloc] at h
theorem Duo.made3 (w:World) (a b c:Obj) (t:TypeId) (u v:Value):Duo ((((w.alloc a).alloc b).alloc c).alloc (.cells #[u,v] t)) (w.heap.size+1+1+1) u v:=by
 have h:=Duo.made (((w.alloc a).alloc b).alloc c) t u v;rwa [World.size_alloc,World.size_alloc,World.size_alloc] at h
variable (t:TypeId) (x1 y1 x2 y2 x3 y3 x4 y4:Value)
theorem boxes2 (w:World):Below w.heap.size w ((w.alloc (.cells #[x1,y1] t)).alloc (.cells #[x2,y2] t)) ∧
 Duo ((w.alloc (.cells #[x1,y1] t)).alloc (.cells #[x2,y2] t)) w.heap.size x1 y1∧Duo ((w.alloc (.cells #[x1,y1] t)).alloc (.cells #[x2,y2] t)) (w.heap.size+1) x2 y2 :=
 ⟨box2 w _ _,(Duo.made w t x1 y1).old _,Duo.made1 w _ t x2 y2⟩
theorem boxes3 (w:World):Below w.heap.size w (((w.alloc (.cells #[x1,y1] t)).alloc (.cells #[x2,y2] t)).alloc (.cells #[x3,y3] t)) ∧
 Duo (((w.alloc (.cells #[x1,y1] t)).alloc (.cells #[x2,y2] t)).alloc (.cells #[x3,y3] t)) w.heap.size x1 y1∧Duo (((w.alloc (.cells #[x1,y1] t)).alloc (.cells #[x2,y2] t)).alloc (.cells #[x3,y3] t)) (w.heap.size+1) x2 y2 ∧
 Duo (((w.alloc (.cells #[x1,y1] t)).alloc (.cells #[x2,y2] t)).alloc (.cells #[x3,y3] t)) (w.heap.size+1+1) x3 y3 :=
 ⟨box3 w _ _ _,((Duo.made w t x1 y1).old _).old _,(Duo.made1 w _ t x2 y2).old _,Duo.made2 w _ _ t x3 y3⟩
theorem boxes4 (w:World):Below w.heap.size w ((((w.alloc (.cells #[x1,y1] t)).alloc (.cells #[x2,y2] t)).alloc (.cells #[x3,y3] t)).alloc (.cells #[x4,y4] t)) ∧
 Duo ((((w.alloc (.cells #[x1,y1] t)).alloc (.cells #[x2,y2] t)).alloc (.cells #[x3,y3] t)).alloc (.cells #[x4,y4] t)) w.heap.size x1 y1 ∧
 Duo ((((w.alloc (.cells #[x1,y1] t)).alloc (.cells #[x2,y2] t)).alloc (.cells #[x3,y3] t)).alloc (.cells #[x4,y4] t)) (w.heap.size+1) x2 y2 ∧
 Duo ((((w.alloc (.cells #[x1,y1] t)).alloc (.cells #[x2,y2] t)).alloc (.cells #[x3,y3] t)).alloc (.cells #[x4,y4] t)) (w.heap.size+1+1) x3 y3 ∧
 Duo ((((w.alloc (.cells #[x1,y1] t)).alloc (.cells #[x2,y2] t)).alloc (.cells #[x3,y3] t)).alloc (.cells #[x4,y4] t)) (w.heap.size+1+1+1) x4 y4 :=
 ⟨box4 w _ _ _ _,(((Duo.made w t x1 y1).old _).old _).old _,((Duo.made1 w _ t x2 y2).old _).old _,(Duo.made2 w _ _ t x3 y3).old _,Duo.made3 w _ _ _ t x4 y4⟩
end
end Go.Proofs.YtgakcpcpfkoaiaaGreatDoor.Ov
namespace Go.Proofs.YtgakcpcpfkoaiaaGreatDoor.Ga
open Go.ChangeShapes Go.WideShapes Go.ChangeAt Go.RowKit Ov
theorem alloc_spot (ρ:Operand→Value) (x:World) (d:Tmp) (p:String) (e:Array Edge):(execOp ρ { dst:=some d,op:=Op.alloc 26,type:=0,pos:=p,after:=e,guard:=none }).run Tryz.prog x=.ok (.value (.pointer (some ⟨x.heap.size,0,none⟩))) (x.alloc (.cells #[.int .i64 0,.int .i64 0] 26)):=by
 simp [execOp,go_sem]
theorem divide_core (x y u v v' z1 z2 n q1 q2 r1 r2:Int) (fx fy fu fv fv' fp fq re im re2 im2 re3 im3:Nat) (w:World)
 (HC1:Hid (∀ w,Calls Tryz.prog 119 #[.agg #[.int .i64 x,.int .i64 y]] w (Gives (.complex .f64 fx fy) w)))
 (HM:Hid (∀ w,Calls Tryz.prog 120 #[.agg #[.int .i64 u,.int .i64 v]] w (Gives (.agg #[.int .i64 u,.int .i64 v']) w)))
 (HC2:Hid (∀ w,Calls Tryz.prog 119 #[.agg #[.int .i64 u,.int .i64 v']] w (Gives (.complex .f64 fu fv') w)))
 (hm1:∀ w:World,(binOp .mul 126 (.complex .f64 fx fy) (.complex .f64 fu fv')).run Tryz.prog w=.ok (.complex .f64 re im) w)
 (HS1:Hid (∀ w,Calls Tryz.prog 118 #[.complex .f64 re im] w (Gives (.agg #[.int .i64 z1,.int .i64 z2]) w)))
 (HN:Hid (∀ w,Calls Tryz.prog 121 #[.agg #[.int .i64 u,.int .i64 v]] w (Gives (.int .i64 n) w)))
 (HQ1:Hid (∀ w,Calls Tryz.prog 122 #[.int .i64 z1,.int .i64 n] w (Gives (.int .i64 q1) w)))
 (HQ2:Hid (∀ w,Calls Tryz.prog 122 #[.int .i64 z2,.int .i64 n] w (Gives (.int .i64 q2) w)))
 (HC3:Hid (∀ w,Calls Tryz.prog 119 #[.agg #[.int .i64 q1,.int .i64 q2]] w (Gives (.complex .f64 fp fq) w)))
 (HC4:Hid (∀ w,Calls Tryz.prog 119 #[.agg #[.int .i64 u,.int .i64 v]] w (Gives (.complex .f64 fu fv) w)))
 (hm2:∀ w:World,(binOp .mul 126 (.complex .f64 fp fq) (.complex .f64 fu fv)).run Tryz.prog w=.ok (.complex .f64 re2 im2) w)
 (hm3:∀ w:World,(binOp .sub 126 (.complex .f64 fx fy) (.complex .f64 re2 im2)).run Tryz.prog w=.ok (.complex .f64 re3 im3) w)
 (HS2:Hid (∀ w,Calls Tryz.prog 118 #[.complex .f64 re3 im3] w (Gives (.agg #[.int .i64 r1,.int .i64 r2]) w))) :
 Calls Tryz.prog 69 #[.agg #[.int .i64 x,.int .i64 y],.agg #[.int .i64 u,.int .i64 v]] w (Gives (.tuple #[.agg #[.int .i64 q1,.int .i64 q2],.agg #[.int .i64 r1,.int .i64 r2]]) w):=by
 go_enter Tryz.func69,Tryz.ntmps69
 go_wp2_with fail
 obtain ⟨hb,d2,d3,d4,d5⟩:=boxes4 26 (.int .i64 x) (.int .i64 y) (.int .i64 u) (.int .i64 v) (.int .i64 0) (.int .i64 0) (.int .i64 0) (.int .i64 0) w
 generalize (((w.alloc (.cells #[.int .i64 x,.int .i64 y] 26)).alloc (.cells #[.int .i64 u,.int .i64 v] 26)).alloc (.cells #[.int .i64 0,.int .i64 0] 26)).alloc (.cells #[.int .i64 0,.int .i64 0] 26)=w0 at *
 have HB:=qq hb;clear hb
 have D2:=qq d2;have D3:=qq d3;have D4:=qq d4;have D5:=qq d5;clear d2 d3 d4 d5
 refine wp_over_alloc (O:=.cells #[.int .i64 0,.int .i64 0] 26) 9 (by kernel_rfl) (by kernel_rfl) rfl rfl rfl (fun ρ x=>alloc_spot ρ x _ _ _) (by kernel_rfl) ?_
 simp only [List.take_succ_cons,List.take_zero,List.drop_succ_cons,List.drop_zero]
 apply Exists.intro
 apply And.intro
 · intro x0
   have k1:∀ r:Over x0.val,r.val.cell? ⟨w.heap.size,0,none⟩=some (.int .i64 x):=fun r=>((D2.out.over x0).over r).c0
   have k2:∀ r:Over x0.val,r.val.cell? ⟨w.heap.size,1,none⟩=some (.int .i64 y):=fun r=>((D2.out.over x0).over r).c1
   have k3:∀ r:Over x0.val,r.val.cell? ⟨w.heap.size+1,0,none⟩=some (.int .i64 u):=fun r=>((D3.out.over x0).over r).c0
   have k4:∀ r:Over x0.val,r.val.cell? ⟨w.heap.size+1,1,none⟩=some (.int .i64 v):=fun r=>((D3.out.over x0).over r).c1
   repeat (go_big_quiet_step (first
    | with_reducible exact over_gives _ (HC1.out _)
    | with_reducible exact over_gives _ (HM.out _)
    | with_reducible exact over_gives _ (HC2.out _)
    | with_reducible exact over_gives _ (HS1.out _)
    | with_reducible exact over_gives _ (HN.out _)))
   refine wpQuiet_nil ?_
   rfl
 · rintro b w1 HO
   have hb:=HO.1
   have DN:=qq (HO.duo.set (.int .i64 z1) (.int .i64 z2))
   have hlo:=HO.2.1
   obtain ⟨c0,c1,f0,f1⟩:=HO.duo
   have l2:=D2.out.lt;have l3:=D3.out.lt;have l4:=D4.out.lt;have l5:=D5.out.lt
   have E2:=qq ((D2.out.next hb).put2 (c:=b) (by omega) (.int .i64 z1) (.int .i64 z2))
   have E3:=qq ((D3.out.next hb).put2 (c:=b) (by omega) (.int .i64 z1) (.int .i64 z2))
   have E4:=qq ((D4.out.next hb).put2 (c:=b) (by omega) (.int .i64 z1) (.int .i64 z2))
   have E5:=qq ((D5.out.next hb).put2 (c:=b) (by omega) (.int .i64 z1) (.int .i64 z2))
   have HB2:=qq (below_put2 (Below.next HB.out hb) (c:=b) (by omega) (.int .i64 z1) (.int .i64 z2))
   have hbl:b<w1.heap.size:=block_lt_of_cell c0
   have HN4:Hid (w.heap.size+1+1<b):=qq (by omega)
   have HN5:Hid (w.heap.size+1+1+1<b):=qq (by omega)
   clear hb HO D2 D3 D4 D5 HB
   simp only [Act.put,List.setIfInBounds_toArray,List.set_cons_zero,List.set_cons_succ]
   go_wp2_with fail
   generalize ((w1.setCell ⟨b,0,none⟩ (.int .i64 z1)).setCell ⟨b,1,none⟩ (.int .i64 z2))=w2 at *
   clear c0 c1 f0 f1 hbl hlo l2 l3 l4 l5
   have n2:b ≠ w.heap.size+1+1:=Nat.ne_of_gt HN4.out
   have n3:b ≠ w.heap.size+1+1+1:=Nat.ne_of_gt HN5.out
   refine wp_over_alloc (O:=.cells #[.int .i64 0,.int .i64 0] 26) 9 (by kernel_rfl) (by kernel_rfl) rfl rfl rfl (fun ρ x=>alloc_spot ρ x _ _ _) (by kernel_rfl) ?_
   simp only [List.take_succ_cons,List.take_zero,List.drop_succ_cons,List.drop_zero]
   apply Exists.intro
   apply And.intro
   · intro x0
     have k1:∀ r:Over x0.val,r.val.cell? ⟨b,0,none⟩=some (.int .i64 z1):=fun r=>((DN.out.over x0).over r).c0
     have k2:∀ r:Over x0.val,r.val.cell? ⟨b,1,none⟩=some (.int .i64 z2):=fun r=>((DN.out.over x0).over r).c1
     repeat (go_big_quiet_step (first
      | with_reducible exact over_gives _ (HQ1.out _)
      | with_reducible exact over_gives _ (HQ2.out _)))
     refine wpQuiet_nil ?_
     rfl
   · rintro c w3 HO
     have hb:=HO.1
     have hlo:=HO.2.1
     have l2:=E2.out.lt;have l3:=E3.out.lt;have l4:=E4.out.lt;have l5:=E5.out.lt
     have DC:=qq (HO.duo.set (.int .i64 q1) (.int .i64 q2))
     have F2:=qq ((E2.out.next hb).put2 (c:=c) (by omega) (.int .i64 q1) (.int .i64 q2))
     have F3:=qq ((E3.out.next hb).put2 (c:=c) (by omega) (.int .i64 q1) (.int .i64 q2))
     have F4:=qq ((E4.out.next hb).put2 (c:=c) (by omega) (.int .i64 q1) (.int .i64 q2))
     have F5:=qq ((E5.out.next hb).put2 (c:=c) (by omega) (.int .i64 q1) (.int .i64 q2))
     have HB3:=qq (below_put2 (Below.next HB2.out hb) (c:=c) (by have:=HB2.out.size;omega) (.int .i64 q1) (.int .i64 q2))
     obtain ⟨c0,c1,f0,f1⟩:=HO.duo
     have hbl:c<w3.heap.size:=block_lt_of_cell c0
     clear hb HO E2 E3 E4 E5 HB2 DN
     simp only [Act.put,List.setIfInBounds_toArray,List.set_cons_zero,List.set_cons_succ]
     go_wp2_with fail
     generalize ((w3.setCell ⟨c,0,none⟩ (.int .i64 q1)).setCell ⟨c,1,none⟩ (.int .i64 q2))=w4 at *
     clear c0 c1 f0 f1 hbl hlo l2 l3 l4 l5
     have k1:∀ r:Over w4,r.val.cell? ⟨w.heap.size,0,none⟩=some (.int .i64 x):=fun r=>(F2.out.over r).c0
     have k2:∀ r:Over w4,r.val.cell? ⟨w.heap.size,1,none⟩=some (.int .i64 y):=fun r=>(F2.out.over r).c1
     have k3:∀ r:Over w4,r.val.cell? ⟨w.heap.size+1,0,none⟩=some (.int .i64 u):=fun r=>(F3.out.over r).c0
     have k4:∀ r:Over w4,r.val.cell? ⟨w.heap.size+1,1,none⟩=some (.int .i64 v):=fun r=>(F3.out.over r).c1
     have k5:∀ r:Over w4,r.val.cell? ⟨c,0,none⟩=some (.int .i64 q1):=fun r=>(DC.out.over r).c0
     have k6:∀ r:Over w4,r.val.cell? ⟨c,1,none⟩=some (.int .i64 q2):=fun r=>(DC.out.over r).c1
     refine wp_over_tail 10 (by kernel_rfl) (by kernel_rfl) ?_
     simp only [List.take_succ_cons,List.take_zero,List.drop_succ_cons,List.drop_zero]
     repeat (go_big_quiet_step (first
      | with_reducible exact over_gives _ (HC1.out _)
      | with_reducible exact over_gives _ (HC3.out _)
      | with_reducible exact over_gives _ (HC4.out _)
      | with_reducible exact over_gives _ (HS2.out _)))
     refine wpQuiet_nil ?_
     rintro w5 ⟨⟨w5,hb⟩,rfl⟩
     have HB4:=qq (Below.next HB3.out hb)
     obtain ⟨c0,c1,f0,f1⟩:=F4.out.next hb
     obtain ⟨e0,e1,g0,g1⟩:=F5.out.next hb
     have hz:=(F5.out.next hb).lt
     have hz4:=(F4.out.next hb).lt
     clear hb k1 k2 k3 k4 k5 k6 n2 n3
     go_wp2_with fail
     refine bodyPost_ret (v:=.tuple #[.agg #[.int .i64 q1,.int .i64 q2],.agg #[.int .i64 r1,.int .i64 r2]]) (by simp [results,Tryz.results69,go_sem,c0,c1,e0,e1]) rfl ⟨rfl,?_⟩
     exact below_put2 (below_put2 HB4.out (c:=w.heap.size+1+1) (by omega) _ _) (c:=w.heap.size+1+1+1) (by omega) _ _
theorem sum_le {a b:Int} (h1:-281474976710656≤a∧a≤281474976710656) (h2:-281474976710656≤b∧b≤281474976710656) :
 (-562949953421312≤a+b∧a+b≤562949953421312)∧(-562949953421312≤a - b∧a - b≤562949953421312):=by omega
theorem run_csub {x y p q:Int} {re im:Nat} (hx:-16777216≤x∧x≤16777216) (hy:-16777216≤y∧y≤16777216) (hr:Is re p) (hi:Is im q) (hp:-562949953421312≤p∧p≤562949953421312) (hq:-562949953421312≤q∧q≤562949953421312) :
 ∃ a b,(∀ w:World,(binOp .sub 126 (.complex .f64 (floatOfInt .f64 x) (floatOfInt .f64 y)) (.complex .f64 re im)).run Tryz.prog w=.ok (.complex .f64 a b) w)∧Is a (x - p)∧Is b (y - q):=by
 obtain ⟨a,b,h,h1,h2⟩:=csub (Is.ofInt (n:=x) (by omega)) (Is.ofInt (n:=y) (by omega)) hr hi (by omega) (by omega)
 exact ⟨a,b,fun w=>run_complex_sum w .sub (.inr rfl) _ _ _ _ _ _ _ _ h,h1,h2⟩
theorem divide_any {x y u v:Int} (ha:rb ⟨x,y⟩=true) (hb:rb ⟨u,v⟩=true) (h0:(⟨u,v⟩:Pt) ≠ Pt.zero) (w:World) :
 Calls Tryz.prog 69 #[.agg #[.int .i64 x,.int .i64 y],.agg #[.int .i64 u,.int .i64 v]] w
  (Gives (.tuple #[.agg #[.int .i64 (Pt.quo ⟨x,y⟩ ⟨u,v⟩).x,.int .i64 (Pt.quo ⟨x,y⟩ ⟨u,v⟩).y],.agg #[.int .i64 (Pt.rest ⟨x,y⟩ ⟨u,v⟩).x,.int .i64 (Pt.rest ⟨x,y⟩ ⟨u,v⟩).y]]) w):=by
 obtain ⟨hx,hy⟩:=rb_xy ha
 obtain ⟨hu,hv⟩:=rb_xy hb
 have hv':-16777216≤-v∧-v≤16777216:=by omega
 obtain ⟨hp,hq⟩:=rb_yes (Pt.quo_right ha h0)
 obtain ⟨hr1,hr2⟩:=rb_yes (Pt.rest_right (a:=⟨x,y⟩) hb h0)
 obtain ⟨re,im,hm1,i1,i2⟩:=run_cmul hx hy hu hv'
 obtain ⟨re2,im2,hm2,j1,j2⟩:=run_cmul hp hq hu hv
 obtain ⟨s1,s1'⟩:=sum_le (mul_big hx hu) (mul_big hy hv')
 obtain ⟨s2,s2'⟩:=sum_le (mul_big hx hv') (mul_big hy hu)
 obtain ⟨s3,s3'⟩:=sum_le (mul_big hp hu) (mul_big hq hv)
 obtain ⟨s4,s4'⟩:=sum_le (mul_big hp hv) (mul_big hq hu)
 obtain ⟨re3,im3,hm3,k1,k2⟩:=run_csub hx hy j1 j2 s3' s4
 obtain ⟨s5,s5'⟩:=sum_le (mul_big hu hu) (mul_big hv hv)
 have hn:0<Pt.norm ⟨u,v⟩:=Pt.norm_pos h0
 refine divide_core x y u v (-v) (x * u - y * -v) (x * -v+y * u) (u * u+v * v) _ _ _ _ _ _ _ _ _ _ _ re im re2 im2 re3 im3 w (qq (complex_any x y)) (qq (mirror_any hv)) (qq (complex_any u (-v))) hm1
  (qq (spot_any i1 i2 (by omega) (by omega))) (qq (norm_any hu hv)) (qq fun w=>?_) (qq fun w=>?_) (qq (complex_any _ _)) (qq (complex_any u v)) hm2 hm3
  (qq (spot_any k1 k2 ?_ ?_))
 · exact (nearest_any (n:=x * u - y * -v) (d:=u * u+v * v) (by omega) (by omega) hn (by omega) w).mono fun e w' h=>⟨h.1,by rw [← h.2];exact Below.refl _ _⟩
 · exact (nearest_any (n:=x * -v+y * u) (d:=u * u+v * v) (by omega) (by omega) hn (by omega) w).mono fun e w' h=>⟨h.1,by rw [← h.2];exact Below.refl _ _⟩
 · omega
 · omega
theorem norm_yes {x y:Int} (h:rb ⟨x,y⟩=true) (w:World):Calls Tryz.prog 148 #[.agg #[.int .i64 x,.int .i64 y]] w (Gives (.tuple #[.int .i64 (x * x+y * y),.int .i64 0]) w):=by
 have HR:=qq (right_any x y);rw [h] at HR
 have HN:=qq (norm_any (rb_xy h).1 (rb_xy h).2);clear h
 generalize x * x+y * y=n at *
 go_enter Tryz.func148,Tryz.ntmps148
 go_wp2_with fail
 refine (HR.out _).mono ?_
 rintro e w1 ⟨rfl,hb⟩
 have HB:=qq (Below.next (below1 w _) hb)
 have HD:=qq ((Duo.made w 26 (.int .i64 x) (.int .i64 y)).next hb)
 clear hb
 obtain ⟨c0,c1,_,_⟩:=HD.out
 go_wp2_with fail
 refine (HN.out _).mono ?_
 rintro e w2 ⟨rfl,hb⟩
 have HB2:=qq (Below.next HB.out hb);clear hb c0 c1
 go_wp2_with fail
 go_ret2
 exact ⟨rfl,HB2.out⟩
theorem conj_yes {x y:Int} (h:rb ⟨x,y⟩=true) (w:World):Calls Tryz.prog 149 #[.agg #[.int .i64 x,.int .i64 y]] w (Gives (.tuple #[.agg #[.int .i64 x,.int .i64 (-y)],.int .i64 0]) w):=by
 have HR:=qq (right_any x y);rw [h] at HR
 have HN:=qq (mirror_any (x:=x) (rb_xy h).2);clear h
 generalize -y=y' at *
 go_enter Tryz.func149,Tryz.ntmps149
 go_wp2_with fail
 refine (HR.out _).mono ?_
 rintro e w1 ⟨rfl,hb⟩
 obtain ⟨h2,d0,d1⟩:=boxes2 26 (.int .i64 x) (.int .i64 y) (.int .i64 0) (.int .i64 0) w
 have HB:=qq (Below.next h2 hb)
 have HD:=qq (d1.next hb)
 obtain ⟨c0,c1,_,_⟩:=d0.next hb
 clear hb h2 d0 d1
 go_wp2_with fail
 refine (HN.out _).mono ?_
 rintro e w2 ⟨rfl,hb⟩
 have HB2:=qq (Below.next HB.out hb)
 have hz:=(HD.out.next hb).lt
 obtain ⟨e0,e1,g0,g1⟩:=HD.out.next hb
 clear hb c0 c1
 go_wp2_with fail
 refine bodyPost_ret (v:=.tuple #[.agg #[.int .i64 x,.int .i64 y'],.int .i64 0]) (by simp [results,Tryz.results149,go_sem,e0,e1]) rfl ⟨rfl,?_⟩
 exact below_put2 HB2.out (c:=w.heap.size+1) (by omega) _ _
def RelT (x y:Int) (N:Nat) (C I:Value):Prop:=∃ (k re im:Nat),k≤N∧I=.int .i64 (k:Int)∧C=.complex .f64 re im∧Is re (Pt.turns k ⟨x,y⟩).x∧Is im (Pt.turns k ⟨x,y⟩).y
theorem turn_any {x y:Int} (h:rb ⟨x,y⟩=true) (N:Nat) (hN:N≤3) (w:World) :
 Calls Tryz.prog 123 #[.agg #[.int .i64 x,.int .i64 y],.int .i64 (N:Int)] w (Gives (.agg #[.int .i64 (Pt.turns N ⟨x,y⟩).x,.int .i64 (Pt.turns N ⟨x,y⟩).y]) w):=by
 have hr:∀ k,(-16777216≤(Pt.turns k ⟨x,y⟩).x∧(Pt.turns k ⟨x,y⟩).x≤16777216)∧(-16777216≤(Pt.turns k ⟨x,y⟩).y∧(Pt.turns k ⟨x,y⟩).y≤16777216):=fun k=>rb_yes (Pt.turns_right k h)
 have HT:=qq hr;clear hr
 obtain ⟨hx,hy⟩:=rb_xy h
 have i1:Is (floatOfInt .f64 x) x:=Is.ofInt (by omega)
 have i2:Is (floatOfInt .f64 y) y:=Is.ofInt (by omega)
 have HC:=qq (complex_any x y)
 generalize floatOfInt .f64 x=fx at *
 generalize floatOfInt .f64 y=fy at *
 have I1:=qq i1;have I2:=qq i2;clear i1 i2 hx hy h
 go_enter Tryz.func123,Tryz.ntmps123
 go_wp2_with fail
 refine (HC.out _).mono ?_
 rintro e w1 ⟨rfl,hb⟩
 obtain ⟨h2,d0,d1⟩:=boxes2 26 (.int .i64 x) (.int .i64 y) (.int .i64 0) (.int .i64 0) w
 have HB:=qq (Below.next h2 hb)
 have HD:=qq (d1.next hb)
 clear hb h2 d0 d1
 go_wp2_with fail
 go_loop [5,9] (fun C I=>RelT x y N C I) (fun _ I=>N - (intOf I).toNat)
 case atStart=>exact ⟨0,fx,fy,by omega,rfl,rfl,I1.out,I2.out⟩
 case round =>
  obtain ⟨k,re,im,hk,rfl,rfl,j1,j2⟩:=hrel
  by_cases hlt:k<N
  · obtain ⟨b1,b2⟩:=HT.out k
    obtain ⟨re',im',hm,m1,m2⟩:=cmul j1 j2 Is.zero Is.one (by omega) (by omega) (by omega) (by omega)
    have hrun:∀ w:World,(binOp .mul 126 (.complex .f64 re im) (.complex .f64 0 4607182418800017408)).run Tryz.prog w=.ok (.complex .f64 re' im') w:=fun w=>run_complex_mul w _ _ _ _ _ _ _ hm
    have M1:Hid (Is re' (Pt.turns (k+1) ⟨x,y⟩).x):=by
     show Is re' (-(Pt.turns k ⟨x,y⟩).y)
     rwa [show (Pt.turns k ⟨x,y⟩).x * 0 - (Pt.turns k ⟨x,y⟩).y * 1=-(Pt.turns k ⟨x,y⟩).y by omega] at m1
    have M2:Hid (Is im' (Pt.turns (k+1) ⟨x,y⟩).y):=by
     show Is im' ((Pt.turns k ⟨x,y⟩).x)
     rwa [show (Pt.turns k ⟨x,y⟩).x * 1+(Pt.turns k ⟨x,y⟩).y * 0=(Pt.turns k ⟨x,y⟩).x by omega] at m2
    clear hm m1 m2 j1 j2 b1 b2
    go_wp2_with fail
    go_round
    case rel=>exact ⟨k+1,re',im',by omega,by go_num,rfl,M1.out,M2.out⟩
    case measure=>simp [intOf];omega
  · obtain rfl:k=N:=by omega
    obtain ⟨b1,b2⟩:=HT.out k
    have HS:=qq (spot_any j1 j2 (by omega) (by omega))
    generalize (Pt.turns k ⟨x,y⟩).x=p at *
    generalize (Pt.turns k ⟨x,y⟩).y=q at *
    clear j1 j2 b1 b2
    go_wp2_with fail
    refine (HS.out _).mono ?_
    rintro e w2 ⟨rfl,hb⟩
    have HB2:=qq (Below.next HB.out hb)
    have hz:=(HD.out.next hb).lt
    obtain ⟨e0,e1,g0,g1⟩:=HD.out.next hb
    clear hb
    go_wp2_with fail
    refine bodyPost_ret (v:=.agg #[.int .i64 p,.int .i64 q]) (by simp [results,Tryz.results123,go_sem,e0,e1]) rfl ⟨rfl,?_⟩
    exact below_put2 HB2.out (c:=w.heap.size+1) (by omega) _ _
def left (a:Pt):Nat:=if (0<a.x∧0≤a.y)∨(a.x=0∧a.y=0) then 0 else if a.y<0∧0≤a.x then 1 else if a.x<0∧a.y≤0 then 2 else 3
theorem left_turn {a:Pt} (h:¬ ((0<a.x∧0≤a.y)∨(a.x=0∧a.y=0))):left a.turn<left a:=by
 have tx:a.turn.x=-a.y:=rfl
 have ty:a.turn.y=a.x:=rfl
 unfold left
 rw [if_neg h,tx,ty]
 repeat' split
 all_goals omega
structure RelF (x y:Int) (w:World) (b c:Nat) (wr:World) (p q:Int):Prop where
 right:rb ⟨p,q⟩=true
 same:Pt.fs ⟨p,q⟩=Pt.fs ⟨x,y⟩
 own:Duo wr b (.int .i64 p) (.int .i64 q)
 res:Duo wr c (.int .i64 0) (.int .i64 0)
 below:Below w.heap.size w wr
def cellInt (w:World) (b o:Nat):Int:=match w.cell? ⟨b,o,none⟩ with | some (.int _ n)=>n | _=>0
theorem cellInt_of {w:World} {b o:Nat} {k:IntKind} {n:Int} (h:w.cell? ⟨b,o,none⟩=some (.int k n)):cellInt w b o=n:=by unfold cellInt;rw [h]
theorem first_any {x y:Int} (h:rb ⟨x,y⟩=true) (w:World) :
 Calls Tryz.prog 70 #[.agg #[.int .i64 x,.int .i64 y]] w (Gives (.agg #[.int .i64 (Pt.fs ⟨x,y⟩).x,.int .i64 (Pt.fs ⟨x,y⟩).y]) w):=by
 have H:=qq h;clear h
 go_enter Tryz.func70,Tryz.ntmps70
 go_wp2_with fail
 obtain ⟨h2,d0,d1⟩:=boxes2 26 (.int .i64 x) (.int .i64 y) (.int .i64 0) (.int .i64 0) w
 have HW:Hid (∃ p q,RelF x y w w.heap.size (w.heap.size+1) ((w.alloc (.cells #[.int .i64 x,.int .i64 y] 26)).alloc (.cells #[.int .i64 0,.int .i64 0] 26)) p q):=qq ⟨x,y,H.out,rfl,d0,d1,h2⟩
 clear h2 d0 d1
 go_loopw [] (fun wr=>∃ p q,RelF x y w w.heap.size (w.heap.size+1) wr p q) (fun wr=>left ⟨cellInt wr w.heap.size 0,cellInt wr w.heap.size 1⟩)
 case atStart=>exact HW.out
 case round =>
  obtain ⟨p,q,hF⟩:=hrel
  have HF:=qq hF
  have HM1:Hid (cellInt wr w.heap.size 0=p):=qq (cellInt_of hF.own.c0)
  have HM2:Hid (cellInt wr w.heap.size 1=q):=qq (cellInt_of hF.own.c1)
  obtain ⟨c0,c1,f0,f1⟩:=hF.own
  obtain ⟨e0,e1,g0,g1⟩:=hF.res
  clear hF
  by_cases hd:(0<p∧0≤q)∨(p=0∧q=0)
  · have HE:Hid (Pt.fs ⟨x,y⟩=⟨p,q⟩):=by
     show _=_
     rw [← HF.out.same]
     exact Pt.fs_done (hd.imp id (fun h=>Pt.ext h.1 h.2))
    have hz:=HF.out.res.lt
    have p0:¬ p<0:=by omega
    have q0:¬ q<0:=by omega
    by_cases hp:p=0
    · have q1:¬ 0<q:=by omega
      have hpb:(p == 0)=true:=beq_iff_eq.2 hp
      clear hd hp
      go_wp2_with fail
      refine bodyPost_ret (v:=.agg #[.int .i64 p,.int .i64 q]) (by simp [results,Tryz.results70,go_sem,e0,e1]) rfl ⟨by rw [HE.out],?_⟩
      exact below_put2 HF.out.below (c:=w.heap.size+1) (by omega) _ _
    · have hpb:(p == 0)=false:=beq_eq_false_iff_ne.2 hp
      clear hd hp
      go_wp2_with fail
      refine bodyPost_ret (v:=.agg #[.int .i64 p,.int .i64 q]) (by simp [results,Tryz.results70,go_sem,e0,e1]) rfl ⟨by rw [HE.out],?_⟩
      exact below_put2 HF.out.below (c:=w.heap.size+1) (by omega) _ _
  · have HT:Hid (∀ w,Calls Tryz.prog 123 #[.agg #[.int .i64 p,.int .i64 q],.int .i64 1] w (Gives (.agg #[.int .i64 (-q),.int .i64 p]) w)):=qq (turn_any HF.out.right 1 (by omega))
    have HL:Hid (left ⟨-q,p⟩<left ⟨p,q⟩):=qq (left_turn (a:=⟨p,q⟩) hd)
    have HS:Hid (Pt.fs ⟨-q,p⟩=Pt.fs ⟨x,y⟩):=qq ((Pt.fs_turn (a:=⟨p,q⟩) (fun h=>hd (.inl h)) (fun h=>hd (.inr (by injection h with h1 h2;exact ⟨h1,h2⟩)))).trans HF.out.same)
    have HR:Hid (rb ⟨-q,p⟩=true):=qq (Pt.turn_right HF.out.right)
    have hcase:p<0∨(¬ p<0∧q<0)∨(¬ p<0∧¬ q<0∧(p == 0)=true∧0<q):=by
     by_cases a1:p<0
     · exact .inl a1
     · by_cases a2:q<0
       · exact .inr (.inl ⟨a1,a2⟩)
       · exact .inr (.inr ⟨a1,a2,beq_iff_eq.2 (by omega),by omega⟩)
    clear hd
    generalize -q=q' at *
    rcases hcase with a1 | ⟨a1,a2⟩ | ⟨a1,a2,a3,a4⟩
    all_goals
     go_wp2_with fail
     refine (HT.out _).mono ?_
     rintro e w2 ⟨rfl,hb⟩
     have HO:=qq ((HF.out.own.next hb).set (.int .i64 q') (.int .i64 p))
     have HP:=qq ((HF.out.res.next hb).put2 (c:=w.heap.size) (by omega) (.int .i64 q') (.int .i64 p))
     have HB:=qq (below_put2 (HF.out.below.trans (hb.mono HF.out.below.size)) (c:=w.heap.size) (Nat.le_refl _) (.int .i64 q') (.int .i64 p))
     obtain ⟨d0,d1,h0,h1⟩:=HF.out.own.next hb
     have hz:=(HF.out.own.next hb).lt
     clear hb c0 c1 f0 f1 e0 e1 g0 g1
     go_wp2_with fail
     go_roundw
     case rel=>exact ⟨q',p,HR.out,HS.out,HO.out,HP.out,HB.out⟩
     case measure =>
      rw [HM1.out,HM2.out,cellInt_of HO.out.c0,cellInt_of HO.out.c1]
      exact HL.out
def two (p q r s e:Int):Value:=.tuple #[.agg #[.int .i64 p,.int .i64 q],.agg #[.int .i64 r,.int .i64 s],.int .i64 e]
theorem div_bad (x y u v:Int) (h:(rb ⟨x,y⟩ && rb ⟨u,v⟩)=false) (w:World):Calls Tryz.prog 160 #[.agg #[.int .i64 x,.int .i64 y],.agg #[.int .i64 u,.int .i64 v]] w (Gives (two 0 0 0 0 14) w):=by
 have HR:=qq (both_any x y u v);rw [h] at HR;clear h
 go_enter Tryz.func160,Tryz.ntmps160
 go_wp2_with fail
 refine (HR.out _).mono ?_
 rintro e w1 ⟨rfl,hb⟩
 obtain ⟨h4,d2,d3,d4,d5⟩:=boxes4 26 (.int .i64 x) (.int .i64 y) (.int .i64 u) (.int .i64 v) (.int .i64 0) (.int .i64 0) (.int .i64 0) (.int .i64 0) w
 have HB:=qq (Below.next h4 hb)
 have hz:=(d5.next hb).lt
 obtain ⟨e0,e1,g0,g1⟩:=d4.next hb
 obtain ⟨i0,i1,j0,j1⟩:=d5.next hb
 clear hb h4 d2 d3 d4 d5
 go_wp2_with fail
 refine bodyPost_ret (v:=two 0 0 0 0 14) (by simp [results,Tryz.results160,go_sem,e0,e1,i0,i1];rfl) rfl ⟨rfl,?_⟩
 exact below_put2 (below_put2 HB.out (c:=w.heap.size+1+1) (by omega) _ _) (c:=w.heap.size+1+1+1) (by omega) _ _
theorem div_zero (x y:Int) (h:rb ⟨x,y⟩=true) (w:World):Calls Tryz.prog 160 #[.agg #[.int .i64 x,.int .i64 y],.agg #[.int .i64 0,.int .i64 0]] w (Gives (two 0 0 0 0 16) w):=by
 have HR:=qq (both_any x y 0 0);rw [h,show rb ⟨0,0⟩=true from rfl,Bool.true_and] at HR;clear h
 go_enter Tryz.func160,Tryz.ntmps160
 go_wp2_with fail
 refine (HR.out _).mono ?_
 rintro e w1 ⟨rfl,hb⟩
 obtain ⟨h4,d2,d3,d4,d5⟩:=boxes4 26 (.int .i64 x) (.int .i64 y) (.int .i64 0) (.int .i64 0) (.int .i64 0) (.int .i64 0) (.int .i64 0) (.int .i64 0) w
 have HB:=qq (Below.next h4 hb)
 have hz:=(d5.next hb).lt
 obtain ⟨k0,k1,_,_⟩:=d3.next hb
 obtain ⟨e0,e1,g0,g1⟩:=d4.next hb
 obtain ⟨i0,i1,j0,j1⟩:=d5.next hb
 clear hb h4 d2 d3 d4 d5
 go_wp2_with fail
 refine bodyPost_ret (v:=two 0 0 0 0 16) (by simp [results,Tryz.results160,go_sem,e0,e1,i0,i1];rfl) rfl ⟨rfl,?_⟩
 exact below_put2 (below_put2 HB.out (c:=w.heap.size+1+1) (by omega) _ _) (c:=w.heap.size+1+1+1) (by omega) _ _
theorem not_zero {u v:Int} (h:(⟨u,v⟩:Pt) ≠ Pt.zero):(u == 0)=false∨((u == 0)=true∧(v == 0)=false):=by
 by_cases hu:u=0
 · exact .inr ⟨beq_iff_eq.2 hu,beq_eq_false_iff_ne.2 fun hv=>h (Pt.ext hu hv)⟩
 · exact .inl (beq_eq_false_iff_ne.2 hu)
theorem div_yes {x y u v:Int} (ha:rb ⟨x,y⟩=true) (hb:rb ⟨u,v⟩=true) (h0:(⟨u,v⟩:Pt) ≠ Pt.zero) (w:World) :
 Calls Tryz.prog 160 #[.agg #[.int .i64 x,.int .i64 y],.agg #[.int .i64 u,.int .i64 v]] w
  (Gives (two (Pt.quo ⟨x,y⟩ ⟨u,v⟩).x (Pt.quo ⟨x,y⟩ ⟨u,v⟩).y (Pt.rest ⟨x,y⟩ ⟨u,v⟩).x (Pt.rest ⟨x,y⟩ ⟨u,v⟩).y 0) w):=by
 have HR:=qq (both_any x y u v);rw [ha,hb] at HR
 have HD:=qq (divide_any ha hb h0)
 have hne:=not_zero h0
 clear ha hb h0
 generalize (Pt.quo ⟨x,y⟩ ⟨u,v⟩).x=p at *
 generalize (Pt.quo ⟨x,y⟩ ⟨u,v⟩).y=q at *
 generalize (Pt.rest ⟨x,y⟩ ⟨u,v⟩).x=r at *
 generalize (Pt.rest ⟨x,y⟩ ⟨u,v⟩).y=s at *
 rcases hne with hu | ⟨hu,hv⟩
 all_goals
  go_enter Tryz.func160,Tryz.ntmps160
  go_wp2_with fail
  refine (HR.out _).mono ?_
  rintro e w1 ⟨rfl,hb⟩
  obtain ⟨h4,d2,d3,d4,d5⟩:=boxes4 26 (.int .i64 x) (.int .i64 y) (.int .i64 u) (.int .i64 v) (.int .i64 0) (.int .i64 0) (.int .i64 0) (.int .i64 0) w
  have HB:=qq (Below.next h4 hb)
  have D4:=qq (d4.next hb);have D5:=qq (d5.next hb)
  obtain ⟨a0,a1,_,_⟩:=d2.next hb
  obtain ⟨b0,b1,_,_⟩:=d3.next hb
  clear hb h4 d2 d3 d4 d5
  go_wp2_with fail
  refine (HD.out _).mono ?_
  rintro e w2 ⟨rfl,hb⟩
  obtain ⟨k2,o7,o8⟩:=boxes2 26 (.int .i64 p) (.int .i64 q) (.int .i64 r) (.int .i64 s) w2
  have HB2:=qq (Below.next (Below.next HB.out hb) k2)
  have F4:=qq ((D4.out.next hb).next k2)
  have F5:=qq ((D5.out.next hb).next k2)
  have O7:=qq o7;have O8:=qq o8
  have hg:w.heap.size+1+1+1<w2.heap.size:=(D5.out.next hb).lt
  have hz:=F5.out.lt
  clear hb a0 a1 b0 b1 k2 o7 o8
  go_wp2_with fail
  generalize (w2.alloc (.cells #[.int .i64 p,.int .i64 q] 26)).alloc (.cells #[.int .i64 r,.int .i64 s] 26)=w3 at *
  generalize w2.heap.size=g at *
  obtain ⟨a0,a1,_,_⟩:=O7.out
  obtain ⟨b0,b1,_,_⟩:=O8.out
  obtain ⟨e0,e1,g0,g1⟩:=F4.out
  obtain ⟨i0,i1,j0,j1⟩:=F5.out
  go_region
  go_wp2_with fail
  refine bodyPost_ret (v:=two p q r s 0) (by simp [results,Tryz.results160,go_sem,e0,e1,i0,i1];rfl) rfl ⟨rfl,?_⟩
  exact (below_put2 (below_put2 HB2.out (c:=w.heap.size+1+1) (by omega) _ _) (c:=w.heap.size+1+1+1) (by omega) _ _).drew
end Go.Proofs.YtgakcpcpfkoaiaaGreatDoor.Ga
namespace Go.Proofs.YtgakcpcpfkoaiaaGreatDoor.Ev
open Go.ChangeShapes Go.WideShapes Go.ChangeAt Go.RowKit Ov Va Ga
theorem enumber_any (n:Int) (w:World):Calls Tryz.prog 139 #[.int .i64 n] w (Gives (.agg #[.int .i64 0,.int .i64 n,.string ⟨#[]⟩,.int .i64 0,.int .i64 0]) w):=by
 go_enter Tryz.func139,Tryz.ntmps139
 go_wp2_with fail
 refine bodyPost_ret (v:=.agg #[.int .i64 0,.int .i64 n,.string ⟨#[]⟩,.int .i64 0,.int .i64 0]) (by simp [results,Tryz.results139,go_sem]) rfl ⟨rfl,?_⟩
 exact box1 w _
theorem etext_any (s:ByteArray) (w:World):Calls Tryz.prog 54 #[.string s] w (Gives (.agg #[.int .i64 1,.int .i64 0,.string s,.int .i64 0,.int .i64 0]) w):=by
 go_enter Tryz.func54,Tryz.ntmps54
 go_wp2_with fail
 refine bodyPost_ret (v:=.agg #[.int .i64 1,.int .i64 0,.string s,.int .i64 0,.int .i64 0]) (by simp [results,Tryz.results54,go_sem]) rfl ⟨rfl,?_⟩
 exact box1 w _
theorem epoint_any (x y:Int) (w:World):Calls Tryz.prog 140 #[.agg #[.int .i64 x,.int .i64 y]] w (Gives (.agg #[.int .i64 2,.int .i64 0,.string ⟨#[]⟩,.int .i64 x,.int .i64 y]) w):=by
 go_enter Tryz.func140,Tryz.ntmps140
 go_wp2_with fail
 refine bodyPost_ret (v:=.agg #[.int .i64 2,.int .i64 0,.string ⟨#[]⟩,.int .i64 x,.int .i64 y]) (by simp [results,Tryz.results140,go_sem]) rfl ⟨rfl,?_⟩
 exact box2 w _ _
def tri (b:Bool):Int:=if b=true then 1 else 0
theorem etruth_any (b:Bool) (w:World):Calls Tryz.prog 142 #[.bool b] w (Gives (.agg #[.int .i64 0,.int .i64 (tri b),.string ⟨#[]⟩,.int .i64 0,.int .i64 0]) w):=by
 have h1:=Blk.made w 28 (vcs 0 0 ⟨#[]⟩ 0 0) rfl
 have hb1:=box1 w (.cells (vcs 0 0 ⟨#[]⟩ 0 0).toArray 28)
 have H1:=qq h1;have HB1:=qq hb1
 clear h1 hb1
 cases b
 all_goals
  go_enter Tryz.func142,Tryz.ntmps142
  go_wp2_with fail
  refine (enumber_any _ _).mono ?_
  rintro e w2 ⟨rfl,hb⟩
  have H2:=qq (H1.out.next hb)
  have HB2:=qq (Below.next HB1.out hb)
  have c0:=H2.out.v0;have c1:=H2.out.v1;have c2:=H2.out.v2;have c3:=H2.out.v3;have c4:=H2.out.v4
  have z0:=H2.out.g0;have z1:=H2.out.g1;have z2:=H2.out.g2;have z3:=H2.out.g3;have z4:=H2.out.g4
  clear hb H1 HB1
  go_wp2_with fail
 · have h3:=H2.out.all5 (.int .i64 0) (.int .i64 0) (.string ⟨#[]⟩) (.int .i64 0) (.int .i64 0)
   have hb3:=below_all5 HB2.out (b:=w.heap.size) (Nat.le_refl _) (.int .i64 0) (.int .i64 0) (.string ⟨#[]⟩) (.int .i64 0) (.int .i64 0)
   clear c0 c1 c2 c3 c4 z0 z1 z2 z3 z4
   generalize ((((w2.setCell ⟨w.heap.size,0,none⟩ (.int .i64 0)).setCell ⟨w.heap.size,1,none⟩ (.int .i64 0)).setCell ⟨w.heap.size,2,none⟩ (.string ⟨#[]⟩)).setCell ⟨w.heap.size,3,none⟩ (.int .i64 0)).setCell ⟨w.heap.size,4,none⟩ (.int .i64 0)=w4 at *
   have c0:=h3.c 0 _ rfl;have c1:=h3.c 1 _ rfl;have c2:=h3.c 2 _ rfl;have c3:=h3.c 3 _ rfl;have c4:=h3.c 4 _ rfl
   refine bodyPost_ret (v:=.agg zz) (by simp [results,Tryz.results142,go_sem,c0,c1,c2,c3,c4]) rfl ⟨rfl,hb3⟩
 · have h3:=H2.out.all5 (.int .i64 0) (.int .i64 1) (.string ⟨#[]⟩) (.int .i64 0) (.int .i64 0)
   have hb3:=below_all5 HB2.out (b:=w.heap.size) (Nat.le_refl _) (.int .i64 0) (.int .i64 1) (.string ⟨#[]⟩) (.int .i64 0) (.int .i64 0)
   clear c0 c1 c2 c3 c4 z0 z1 z2 z3 z4
   generalize ((((w2.setCell ⟨w.heap.size,0,none⟩ (.int .i64 0)).setCell ⟨w.heap.size,1,none⟩ (.int .i64 1)).setCell ⟨w.heap.size,2,none⟩ (.string ⟨#[]⟩)).setCell ⟨w.heap.size,3,none⟩ (.int .i64 0)).setCell ⟨w.heap.size,4,none⟩ (.int .i64 0)=w4 at *
   have c0:=h3.c 0 _ rfl;have c1:=h3.c 1 _ rfl;have c2:=h3.c 2 _ rfl;have c3:=h3.c 3 _ rfl;have c4:=h3.c 4 _ rfl
   refine bodyPost_ret (v:=.agg #[.int .i64 0,.int .i64 1,.string ⟨#[]⟩,.int .i64 0,.int .i64 0]) (by simp [results,Tryz.results142,go_sem,c0,c1,c2,c3,c4]) rfl ⟨rfl,hb3⟩
theorem esum_any (a b:Int) (ha:-9007199254740992≤a∧a≤9007199254740992) (hb:-9007199254740992≤b∧b≤9007199254740992) (w:World):Calls Tryz.prog 128 #[.int .i64 a,.int .i64 b] w (Gives (.tuple #[.int .i64 (a+b),.int .i64 0]) w):=by
 obtain ⟨ha1,ha2⟩:=ha;obtain ⟨hb1,hb2⟩:=hb
 go_enter Tryz.func128,Tryz.ntmps128
 go_wp2_with fail
 go_ret2
 exact ⟨rfl,Below.refl _ _⟩
theorem ediff_any (a b:Int) (ha:-9007199254740992≤a∧a≤9007199254740992) (hb:-9007199254740992≤b∧b≤9007199254740992) (w:World):Calls Tryz.prog 130 #[.int .i64 a,.int .i64 b] w (Gives (.tuple #[.int .i64 (a - b),.int .i64 0]) w):=by
 obtain ⟨ha1,ha2⟩:=ha;obtain ⟨hb1,hb2⟩:=hb
 go_enter Tryz.func130,Tryz.ntmps130
 go_wp2_with fail
 go_ret2
 exact ⟨rfl,Below.refl _ _⟩
end Go.Proofs.YtgakcpcpfkoaiaaGreatDoor.Ev
namespace Go.Proofs.YtgakcpcpfkoaiaaGreatDoor.Ev
open Go.ChangeShapes Go.WideShapes Go.ChangeAt Go.RowKit Ov Va Ga Ex
theorem wrap_in {n:Int} (h:-9223372036854775808≤n∧n≤9223372036854775807):wrap64 n=n:=by unfold wrap64;omega
theorem equo_zero (a:Int) (w:World):Calls Tryz.prog 134 #[.int .i64 a,.int .i64 0] w (Gives (.tuple #[.int .i64 0,.int .i64 16]) w):=by
 go_enter Tryz.func134,Tryz.ntmps134
 go_wp2_with fail
 go_ret2
 exact ⟨rfl,Below.refl _ _⟩
theorem tdiv_in {a b:Int} (ha1:-9007199254740992≤a) (ha2:a≤9007199254740992):-9007199254740992≤a.tdiv b∧a.tdiv b≤9007199254740992:=by
 have h:=Int.natAbs_tdiv a b
 have h2:(a.tdiv b).natAbs≤a.natAbs:=by rw [h];exact Nat.div_le_self _ _
 omega
theorem qf_in {a b:Int} (ha1:-9007199254740992≤a) (ha2:a≤9007199254740992):-9007199254740993≤qf a b∧qf a b≤9007199254740992:=by
 have h:=tdiv_in (a:=a) (b:=b) ha1 ha2
 unfold qf;split <;> omega
theorem equo_any (a b:Int) (ha:-9007199254740992≤a∧a≤9007199254740992) (h0:b ≠ 0) (w:World):Calls Tryz.prog 134 #[.int .i64 a,.int .i64 b] w (Gives (.tuple #[.int .i64 (qf a b),.int .i64 0]) w):=by
 obtain ⟨ha1,ha2⟩:=ha
 have hq:=tdiv_in (a:=a) (b:=b) ha1 ha2
 have HW:Hid (wrap64 (a.tdiv b)=a.tdiv b):=wrap_in (by omega)
 have HW2:Hid (wrap64 (a.tdiv b - 1)=a.tdiv b - 1):=wrap_in (by omega)
 clear hq
 have h1:(b == 0)=false:=by simpa using h0
 by_cases hr:a.tmod b=0
 · have HQ:Hid (qf a b=a.tdiv b):=by show _=_;unfold qf;rw [if_neg (fun h=>h.1 hr)]
   have hr1:(a.tmod b != 0)=false:=by rw [hr];rfl
   go_enter Tryz.func134,Tryz.ntmps134
   go_wp2_with fail
   rw [HW.out]
   go_ret2
   exact ⟨by rw [HQ.out];rfl,Below.refl _ _⟩
 · have hr1:(a.tmod b != 0)=true:=by simpa using hr
   by_cases hs:((a<0) ≠ (b<0))
   · have HQ:Hid (qf a b=a.tdiv b - 1):=by show _=_;unfold qf;rw [if_pos ⟨hr,hs⟩]
     have hs1:(!decide (a<0) == decide (b<0))=true:=by
      by_cases x:a<0 <;> by_cases y:b<0
      · exact absurd (by simp [x,y]) hs
      · simp [x,y]
      · simp [x,y]
      · exact absurd (by simp [x,y]) hs
     clear hs hr
     go_enter Tryz.func134,Tryz.ntmps134
     go_wp2_with fail
     rw [HW.out,HW2.out]
     go_ret2
     exact ⟨by rw [HQ.out];rfl,Below.refl _ _⟩
   · have HQ:Hid (qf a b=a.tdiv b):=by show _=_;unfold qf;rw [if_neg (fun h=>hs h.2)]
     have hs1:(!decide (a<0) == decide (b<0))=false:=by
      by_cases x:a<0 <;> by_cases y:b<0
      · simp [x,y]
      · exact absurd (by simp [x,y]) hs
      · exact absurd (by simp [x,y]) hs
      · simp [x,y]
     clear hs hr
     go_enter Tryz.func134,Tryz.ntmps134
     go_wp2_with fail
     rw [HW.out]
     go_ret2
     exact ⟨by rw [HQ.out];rfl,Below.refl _ _⟩
theorem mul_abs (a b:Int):max a (-a) * max b (-b)=max (a * b) (-(a * b)):=by
 rcases Int.le_total 0 a with h | h <;> rcases Int.le_total 0 b with g | g
 · rw [Int.max_eq_left (by omega),Int.max_eq_left (by omega),Int.max_eq_left (by have:=Int.mul_nonneg h g;omega)]
 · rw [Int.max_eq_left (by omega),Int.max_eq_right (by omega),Int.max_eq_right (by have:=Int.mul_nonneg h (show 0≤-b by omega);rw [Int.mul_neg] at this;omega),Int.mul_neg]
 · rw [Int.max_eq_right (by omega),Int.max_eq_left (by omega),Int.max_eq_right (by have:=Int.mul_nonneg (show 0≤-a by omega) g;rw [Int.neg_mul] at this;omega),Int.neg_mul]
 · rw [Int.max_eq_right (by omega),Int.max_eq_right (by omega),Int.max_eq_left (by have:=Int.mul_nonneg (show 0≤-a by omega) (show 0≤-b by omega);rw [Int.neg_mul_neg] at this;omega),Int.neg_mul_neg]
theorem prod_in {a b:Int} (h0:b ≠ 0):max a (-a)≤9007199254740992 / max b (-b)↔(-9007199254740992≤a * b∧a * b≤9007199254740992):=by
 rw [Int.le_ediv_iff_mul_le (by omega),mul_abs]
 omega
def epv (a b:Int):Value:=if -9007199254740992≤a * b∧a * b≤9007199254740992 then .tuple #[.int .i64 (a * b),.int .i64 0] else .tuple #[.int .i64 0,.int .i64 14]
theorem eprod_zero (a:Int) (w:World):Calls Tryz.prog 132 #[.int .i64 a,.int .i64 0] w (Gives (epv a 0) w):=by
 have HE:Hid (epv a 0=.tuple #[.int .i64 0,.int .i64 0]):=by show _=_;unfold epv;rw [Int.mul_zero,if_pos (by decide)]
 go_enter Tryz.func132,Tryz.ntmps132
 go_wp2_with fail
 go_ret2
 exact ⟨by rw [HE.out];simp,Below.refl _ _⟩
theorem eprod_any (a b:Int) (ha:-9007199254740992≤a∧a≤9007199254740992) (hb:-9007199254740992≤b∧b≤9007199254740992) (w:World):Calls Tryz.prog 132 #[.int .i64 a,.int .i64 b] w (Gives (epv a b) w):=by
 by_cases h0:b=0
 · subst h0;exact eprod_zero a w
 obtain ⟨ha1,ha2⟩:=ha;obtain ⟨hb1,hb2⟩:=hb
 have h1:(b != 0)=true:=by simpa using h0
 by_cases hp:-9007199254740992≤a * b∧a * b≤9007199254740992
 · have hm:=(prod_in h0).2 hp
   have HE:Hid (epv a b=.tuple #[.int .i64 (a * b),.int .i64 0]):=if_pos hp
   have HW:Hid (wrap64 (a * b)=a * b):=wrap_in (by omega)
   clear hp
   go_enter Tryz.func132,Tryz.ntmps132
   go_wp2_with fail
   rw [HW.out]
   go_ret2
   exact ⟨by rw [HE.out];rfl,Below.refl _ _⟩
 · have hm:9007199254740992 / max b (-b)<max a (-a):=by
    rcases Int.lt_or_le (9007199254740992 / max b (-b)) (max a (-a)) with h | h
    · exact h
    · exact absurd ((prod_in h0).1 h) hp
   have HE:Hid (epv a b=.tuple #[.int .i64 0,.int .i64 14]):=if_neg hp
   clear hp
   go_enter Tryz.func132,Tryz.ntmps132
   go_wp2_with fail
   go_ret2
   exact ⟨by rw [HE.out];rfl,Below.refl _ _⟩
theorem erest_zero (a:Int) (ha:-9007199254740992≤a∧a≤9007199254740992) (w:World):Calls Tryz.prog 136 #[.int .i64 a,.int .i64 0] w (Gives (.tuple #[.int .i64 a,.int .i64 16]) w):=by
 obtain ⟨ha1,ha2⟩:=ha
 go_enter Tryz.func136,Tryz.ntmps136
 go_wp2_with fail
 refine (equo_zero a _).mono ?_
 rintro e w1 ⟨rfl,hb⟩
 have HB:=qq hb;clear hb
 go_wp2_with fail
 go_ret2
 exact ⟨by simp,HB.out⟩
theorem erest_any (a b:Int) (ha:-9007199254740992≤a∧a≤9007199254740992) (hb:-9007199254740992≤b∧b≤9007199254740992) (h0:b ≠ 0) (w:World):Calls Tryz.prog 136 #[.int .i64 a,.int .i64 b] w (Gives (.tuple #[.int .i64 (a - qf a b * b),.int .i64 0]) w):=by
 have HC:=qq (equo_any a b ha h0)
 have hr:=qf_rest (a:=a) h0
 obtain ⟨q,hq⟩:∃ q,qf a b=q:=⟨_,rfl⟩
 rw [hq] at HC hr ⊢
 obtain ⟨ha1,ha2⟩:=ha;obtain ⟨hb1,hb2⟩:=hb
 have HW:Hid (wrap64 (q * b)=q * b):=wrap_in (by generalize q * b=p at *;omega)
 have HW2:Hid (wrap64 (a - q * b)=a - q * b):=wrap_in (by generalize q * b=p at *;omega)
 clear hr hq
 go_enter Tryz.func136,Tryz.ntmps136
 go_wp2_with fail
 refine (HC.out _).mono ?_
 rintro e w1 ⟨rfl,hb⟩
 have HB:=qq hb;clear hb
 go_wp2_with fail
 rw [HW.out,HW2.out]
 go_ret2
 exact ⟨rfl,HB.out⟩
theorem esq_zero (x y:Int) (h:rb ⟨x,y⟩=true) (w:World):Calls Tryz.prog 135 #[.agg #[.int .i64 x,.int .i64 y],.agg #[.int .i64 0,.int .i64 0]] w (Gives (.tuple #[.agg #[.int .i64 0,.int .i64 0],.int .i64 16]) w):=by
 have HD:=qq (fun w1=>div_zero x y h w1)
 clear h
 unfold two at HD
 go_enter Tryz.func135,Tryz.ntmps135
 go_wp2_with fail
 refine (HD.out _).mono ?_
 rintro e w1 ⟨rfl,hb⟩
 obtain ⟨h3,d2,d3,d4⟩:=boxes3 26 (.int .i64 x) (.int .i64 y) (.int .i64 0) (.int .i64 0) (.int .i64 0) (.int .i64 0) w
 have HB:=qq (Below.next h3 hb)
 have hz:=(d4.next hb).lt
 have hz2:w.heap.size+1+1<w1.heap.size+1:=by omega
 have H4:=qq (d4.next hb)
 obtain ⟨e0,e1,g0,g1⟩:=d4.next hb
 clear hb h3 d2 d3 d4
 go_wp2_with fail
 have d5:=((H4.out.set (.int .i64 0) (.int .i64 0)).old (.cells #[.int .i64 0,.int .i64 0] 26)).old (.cells #[.int .i64 0,.int .i64 0] 26)
 have hb5:=((below_put2 HB.out (c:=w.heap.size+1+1) (by omega) (.int .i64 0) (.int .i64 0)).alloc (by have:=HB.out.size;simpa using this) (.cells #[.int .i64 0,.int .i64 0] 26)).alloc (by have:=HB.out.size;simp;omega) (.cells #[.int .i64 0,.int .i64 0] 26)
 clear e0 e1 g0 g1 H4 HB hz hz2
 generalize (((w1.setCell ⟨w.heap.size+1+1,0,none⟩ (.int .i64 0)).setCell ⟨w.heap.size+1+1,1,none⟩ (.int .i64 0)).alloc (.cells #[.int .i64 0,.int .i64 0] 26)).alloc (.cells #[.int .i64 0,.int .i64 0] 26)=w5 at *
 obtain ⟨e0,e1,g0,g1⟩:=d5
 refine bodyPost_ret (v:=.tuple #[.agg #[.int .i64 0,.int .i64 0],.int .i64 16]) (by simp [results,Tryz.results135,go_sem,e0,e1]) rfl ⟨rfl,hb5⟩
theorem esq_yes (x y u v:Int) (ha:rb ⟨x,y⟩=true) (hb:rb ⟨u,v⟩=true) (h0:(⟨u,v⟩:Pt) ≠ Pt.zero) (w:World):Calls Tryz.prog 135 #[.agg #[.int .i64 x,.int .i64 y],.agg #[.int .i64 u,.int .i64 v]] w (Gives (.tuple #[.agg #[.int .i64 (Pt.quo ⟨x,y⟩ ⟨u,v⟩).x,.int .i64 (Pt.quo ⟨x,y⟩ ⟨u,v⟩).y],.int .i64 0]) w):=by
 have HD:=qq (fun w1=>div_yes ha hb h0 w1)
 generalize (Pt.quo ⟨x,y⟩ ⟨u,v⟩).x=p at *
 generalize (Pt.quo ⟨x,y⟩ ⟨u,v⟩).y=q at *
 generalize (Pt.rest ⟨x,y⟩ ⟨u,v⟩).x=r at *
 generalize (Pt.rest ⟨x,y⟩ ⟨u,v⟩).y=s at *
 clear ha hb h0
 unfold two at HD
 go_enter Tryz.func135,Tryz.ntmps135
 go_wp2_with fail
 refine (HD.out _).mono ?_
 rintro e w1 ⟨rfl,hb⟩
 obtain ⟨h3,d2,d3,d4⟩:=boxes3 26 (.int .i64 x) (.int .i64 y) (.int .i64 u) (.int .i64 v) (.int .i64 0) (.int .i64 0) w
 have HB:=qq (Below.next h3 hb)
 have hz:=(d4.next hb).lt
 have hz2:w.heap.size+1+1<w1.heap.size+1:=by omega
 have H4:=qq (d4.next hb)
 obtain ⟨e0,e1,g0,g1⟩:=d4.next hb
 clear hb h3 d2 d3 d4
 go_wp2_with fail
 have d5:=((H4.out.set (.int .i64 p) (.int .i64 q)).old (.cells #[.int .i64 p,.int .i64 q] 26)).old (.cells #[.int .i64 r,.int .i64 s] 26)
 have hb5:=((below_put2 HB.out (c:=w.heap.size+1+1) (by omega) (.int .i64 p) (.int .i64 q)).alloc (by have:=HB.out.size;simpa using this) (.cells #[.int .i64 p,.int .i64 q] 26)).alloc (by have:=HB.out.size;simp;omega) (.cells #[.int .i64 r,.int .i64 s] 26)
 clear e0 e1 g0 g1 H4 HB hz hz2
 generalize (((w1.setCell ⟨w.heap.size+1+1,0,none⟩ (.int .i64 p)).setCell ⟨w.heap.size+1+1,1,none⟩ (.int .i64 q)).alloc (.cells #[.int .i64 p,.int .i64 q] 26)).alloc (.cells #[.int .i64 r,.int .i64 s] 26)=w5 at *
 obtain ⟨e0,e1,g0,g1⟩:=d5
 refine bodyPost_ret (v:=.tuple #[.agg #[.int .i64 p,.int .i64 q],.int .i64 0]) (by simp [results,Tryz.results135,go_sem,e0,e1]) rfl ⟨rfl,hb5⟩
theorem esr_zero (x y:Int) (h:rb ⟨x,y⟩=true) (w:World):Calls Tryz.prog 137 #[.agg #[.int .i64 x,.int .i64 y],.agg #[.int .i64 0,.int .i64 0]] w (Gives (.tuple #[.agg #[.int .i64 0,.int .i64 0],.int .i64 16]) w):=by
 have HD:=qq (fun w1=>div_zero x y h w1)
 clear h
 unfold two at HD
 go_enter Tryz.func137,Tryz.ntmps137
 go_wp2_with fail
 refine (HD.out _).mono ?_
 rintro e w1 ⟨rfl,hb⟩
 obtain ⟨h3,d2,d3,d4⟩:=boxes3 26 (.int .i64 x) (.int .i64 y) (.int .i64 0) (.int .i64 0) (.int .i64 0) (.int .i64 0) w
 have HB:=qq (Below.next h3 hb)
 have hz:=(d4.next hb).lt
 have hz2:w.heap.size+1+1<w1.heap.size+1:=by omega
 have H4:=qq (d4.next hb)
 obtain ⟨e0,e1,g0,g1⟩:=d4.next hb
 clear hb h3 d2 d3 d4
 go_wp2_with fail
 have d5:=((H4.out.set (.int .i64 0) (.int .i64 0)).old (.cells #[.int .i64 0,.int .i64 0] 26)).old (.cells #[.int .i64 0,.int .i64 0] 26)
 have hb5:=((below_put2 HB.out (c:=w.heap.size+1+1) (by omega) (.int .i64 0) (.int .i64 0)).alloc (by have:=HB.out.size;simpa using this) (.cells #[.int .i64 0,.int .i64 0] 26)).alloc (by have:=HB.out.size;simp;omega) (.cells #[.int .i64 0,.int .i64 0] 26)
 clear e0 e1 g0 g1 H4 HB hz hz2
 generalize (((w1.setCell ⟨w.heap.size+1+1,0,none⟩ (.int .i64 0)).setCell ⟨w.heap.size+1+1,1,none⟩ (.int .i64 0)).alloc (.cells #[.int .i64 0,.int .i64 0] 26)).alloc (.cells #[.int .i64 0,.int .i64 0] 26)=w5 at *
 obtain ⟨e0,e1,g0,g1⟩:=d5
 refine bodyPost_ret (v:=.tuple #[.agg #[.int .i64 0,.int .i64 0],.int .i64 16]) (by simp [results,Tryz.results137,go_sem,e0,e1]) rfl ⟨rfl,hb5⟩
theorem esr_yes (x y u v:Int) (ha:rb ⟨x,y⟩=true) (hb:rb ⟨u,v⟩=true) (h0:(⟨u,v⟩:Pt) ≠ Pt.zero) (w:World):Calls Tryz.prog 137 #[.agg #[.int .i64 x,.int .i64 y],.agg #[.int .i64 u,.int .i64 v]] w (Gives (.tuple #[.agg #[.int .i64 (Pt.rest ⟨x,y⟩ ⟨u,v⟩).x,.int .i64 (Pt.rest ⟨x,y⟩ ⟨u,v⟩).y],.int .i64 0]) w):=by
 have HD:=qq (fun w1=>div_yes ha hb h0 w1)
 generalize (Pt.quo ⟨x,y⟩ ⟨u,v⟩).x=p at *
 generalize (Pt.quo ⟨x,y⟩ ⟨u,v⟩).y=q at *
 generalize (Pt.rest ⟨x,y⟩ ⟨u,v⟩).x=r at *
 generalize (Pt.rest ⟨x,y⟩ ⟨u,v⟩).y=s at *
 clear ha hb h0
 unfold two at HD
 go_enter Tryz.func137,Tryz.ntmps137
 go_wp2_with fail
 refine (HD.out _).mono ?_
 rintro e w1 ⟨rfl,hb⟩
 obtain ⟨h3,d2,d3,d4⟩:=boxes3 26 (.int .i64 x) (.int .i64 y) (.int .i64 u) (.int .i64 v) (.int .i64 0) (.int .i64 0) w
 have HB:=qq (Below.next h3 hb)
 have hz:=(d4.next hb).lt
 have hz2:w.heap.size+1+1<w1.heap.size+1:=by omega
 have H4:=qq (d4.next hb)
 obtain ⟨e0,e1,g0,g1⟩:=d4.next hb
 clear hb h3 d2 d3 d4
 go_wp2_with fail
 have d5:=((H4.out.set (.int .i64 r) (.int .i64 s)).old (.cells #[.int .i64 p,.int .i64 q] 26)).old (.cells #[.int .i64 r,.int .i64 s] 26)
 have hb5:=((below_put2 HB.out (c:=w.heap.size+1+1) (by omega) (.int .i64 r) (.int .i64 s)).alloc (by have:=HB.out.size;simpa using this) (.cells #[.int .i64 p,.int .i64 q] 26)).alloc (by have:=HB.out.size;simp;omega) (.cells #[.int .i64 r,.int .i64 s] 26)
 clear e0 e1 g0 g1 H4 HB hz hz2
 generalize (((w1.setCell ⟨w.heap.size+1+1,0,none⟩ (.int .i64 r)).setCell ⟨w.heap.size+1+1,1,none⟩ (.int .i64 s)).alloc (.cells #[.int .i64 p,.int .i64 q] 26)).alloc (.cells #[.int .i64 r,.int .i64 s] 26)=w5 at *
 obtain ⟨e0,e1,g0,g1⟩:=d5
 refine bodyPost_ret (v:=.tuple #[.agg #[.int .i64 r,.int .i64 s],.int .i64 0]) (by simp [results,Tryz.results137,go_sem,e0,e1]) rfl ⟨rfl,hb5⟩
def ifv (k n:Int) (s:ByteArray) (x y e:Int):Value:=if e=0 then (if rt ⟨k,n,s.data.toList,x,y⟩=true then .tuple #[.agg #[.int .i64 k,.int .i64 n,.string s,.int .i64 x,.int .i64 y],.int .i64 0] else .tuple #[.agg zz,.int .i64 14]) else .tuple #[.agg zz,.int .i64 e]
theorem eif_any (k n x y e:Int) (s:ByteArray) (w:World):Calls Tryz.prog 147 #[.agg #[.int .i64 k,.int .i64 n,.string s,.int .i64 x,.int .i64 y],.int .i64 e] w (Gives (ifv k n s x y e) w):=by
 have hbx:Blk ((w.alloc (.cells #[.int .i64 k,.int .i64 n,.string s,.int .i64 x,.int .i64 y] 28)).alloc (.cells zz 28)) (w.heap.size+1) (vcs 0 0 ⟨#[]⟩ 0 0):=Blk.made (w.alloc (.cells #[.int .i64 k,.int .i64 n,.string s,.int .i64 x,.int .i64 y] 28)) 28 (vcs 0 0 ⟨#[]⟩ 0 0) (by simp)
 have hby:Blk ((w.alloc (.cells #[.int .i64 k,.int .i64 n,.string s,.int .i64 x,.int .i64 y] 28)).alloc (.cells zz 28)) w.heap.size (vcs k n s x y):=(Blk.made w 28 (vcs k n s x y) rfl).old _
 have hbb:=box2 w (.cells #[.int .i64 k,.int .i64 n,.string s,.int .i64 x,.int .i64 y] 28) (.cells zz 28)
 have HX:=qq hbx;have HY:=qq hby;have HB:=qq hbb
 have HR:=qq (right_val k n x y s)
 clear hbx hby hbb
 by_cases h0:e=0
 · subst h0
   rcases Bool.eq_false_or_eq_true (rt ⟨k,n,s.data.toList,x,y⟩) with hr | hr
   · have HE:Hid (ifv k n s x y 0=.tuple #[.agg #[.int .i64 k,.int .i64 n,.string s,.int .i64 x,.int .i64 y],.int .i64 0]):=by show _=_;unfold ifv;rw [if_pos rfl,if_pos hr]
     rw [hr] at HR;clear hr
     go_enter Tryz.func147,Tryz.ntmps147
     go_wp2_with fail
     refine (HR.out _).mono ?_
     rintro e w1 ⟨rfl,hb⟩
     have HX1:=qq (HX.out.next hb);have HY1:=qq (HY.out.next hb);have HB1:=qq (Below.next HB.out hb)
     clear hb HX HY HB HR
     have c0:=HX1.out.v0;have c1:=HX1.out.v1;have c2:=HX1.out.v2;have c3:=HX1.out.v3;have c4:=HX1.out.v4
     have z0:=HX1.out.g0;have z1:=HX1.out.g1;have z2:=HX1.out.g2;have z3:=HX1.out.g3;have z4:=HX1.out.g4
     have y0:=HY1.out.v0;have y1:=HY1.out.v1;have y2:=HY1.out.v2;have y3:=HY1.out.v3;have y4:=HY1.out.v4
     go_wp2_with fail
     have h3:=HX1.out.all5 (.int .i64 k) (.int .i64 n) (.string s) (.int .i64 x) (.int .i64 y)
     have hb3:=below_all5 HB1.out (b:=w.heap.size+1) (by omega) (.int .i64 k) (.int .i64 n) (.string s) (.int .i64 x) (.int .i64 y)
     clear c0 c1 c2 c3 c4 z0 z1 z2 z3 z4 y0 y1 y2 y3 y4
     generalize (((((w1.setCell ⟨w.heap.size+1,0,none⟩ (.int .i64 k)).setCell ⟨w.heap.size+1,1,none⟩ (.int .i64 n)).setCell ⟨w.heap.size+1,2,none⟩ (.string s)).setCell ⟨w.heap.size+1,3,none⟩ (.int .i64 x)).setCell ⟨w.heap.size+1,4,none⟩ (.int .i64 y))=w4 at *
     have c0:=h3.c 0 _ rfl;have c1:=h3.c 1 _ rfl;have c2:=h3.c 2 _ rfl;have c3:=h3.c 3 _ rfl;have c4:=h3.c 4 _ rfl
     refine bodyPost_ret (v:=.tuple #[.agg #[.int .i64 k,.int .i64 n,.string s,.int .i64 x,.int .i64 y],.int .i64 0]) (by simp [results,Tryz.results147,go_sem,c0,c1,c2,c3,c4]) rfl ⟨by rw [HE.out],hb3⟩
   · have HE:Hid (ifv k n s x y 0=.tuple #[.agg zz,.int .i64 14]):=by show _=_;unfold ifv;rw [if_pos rfl,if_neg (by rw [hr];decide)]
     rw [hr] at HR;clear hr
     go_enter Tryz.func147,Tryz.ntmps147
     go_wp2_with fail
     refine (HR.out _).mono ?_
     rintro e w1 ⟨rfl,hb⟩
     have HX1:=qq (HX.out.next hb);have HB1:=qq (Below.next HB.out hb)
     clear hb HX HY HB HR
     have c0:=HX1.out.v0;have c1:=HX1.out.v1;have c2:=HX1.out.v2;have c3:=HX1.out.v3;have c4:=HX1.out.v4
     have z0:=HX1.out.g0;have z1:=HX1.out.g1;have z2:=HX1.out.g2;have z3:=HX1.out.g3;have z4:=HX1.out.g4
     go_wp2_with fail
     have h3:=HX1.out.all5 (.int .i64 0) (.int .i64 0) (.string ⟨#[]⟩) (.int .i64 0) (.int .i64 0)
     have hb3:=below_all5 HB1.out (b:=w.heap.size+1) (by omega) (.int .i64 0) (.int .i64 0) (.string ⟨#[]⟩) (.int .i64 0) (.int .i64 0)
     clear c0 c1 c2 c3 c4 z0 z1 z2 z3 z4
     generalize (((((w1.setCell ⟨w.heap.size+1,0,none⟩ (.int .i64 0)).setCell ⟨w.heap.size+1,1,none⟩ (.int .i64 0)).setCell ⟨w.heap.size+1,2,none⟩ (.string ⟨#[]⟩)).setCell ⟨w.heap.size+1,3,none⟩ (.int .i64 0)).setCell ⟨w.heap.size+1,4,none⟩ (.int .i64 0))=w4 at *
     have c0:=h3.c 0 _ rfl;have c1:=h3.c 1 _ rfl;have c2:=h3.c 2 _ rfl;have c3:=h3.c 3 _ rfl;have c4:=h3.c 4 _ rfl
     refine bodyPost_ret (v:=.tuple #[.agg zz,.int .i64 14]) (by simp [results,Tryz.results147,go_sem,c0,c1,c2,c3,c4]) rfl ⟨by rw [HE.out],hb3⟩
 · have HE:Hid (ifv k n s x y e=.tuple #[.agg zz,.int .i64 e]):=by show _=_;unfold ifv;rw [if_neg h0]
   have h1:(e == 0)=false:=by simpa using h0
   have h2:(e != 0)=true:=by simpa using h0
   have HB2:Hid (Below w.heap.size w _):=qq HB.out
   clear h0 HR HX HY HB
   go_enter Tryz.func147,Tryz.ntmps147
   go_wp2_with fail
   refine bodyPost_ret (v:=.tuple #[.agg zz,.int .i64 e]) (by simp [results,Tryz.results147,go_sem]) rfl ⟨by rw [HE.out],HB2.out⟩
end Go.Proofs.YtgakcpcpfkoaiaaGreatDoor.Ev
namespace Go.Proofs.YtgakcpcpfkoaiaaGreatDoor.Va
open Go.ChangeShapes Go.WideShapes Go.ChangeAt Go.RowKit Ov Ga Tp
theorem write_text {n x y:Int} {s:ByteArray} (h:rt ⟨1,n,s.data.toList,x,y⟩=true) (w:World):Calls Tryz.prog 146 #[.agg #[.int .i64 1,.int .i64 n,.string s,.int .i64 x,.int .i64 y]] w (Gives (.string (tx (wr ⟨1,n,s.data.toList,x,y⟩))) w):=by
 have hs:s.size≤4096:=by
  have:=rt_yes h
  simp at this;exact this.2.1
 have HR:=qq (right_val 1 n x y s);rw [h] at HR;clear h
 have HT:=qq (fun w=>writeText_any s w hs)
 rw [wr_text]
 generalize tx (34 :: (esc s.data.toList++[34]))=t at *
 go_enter Tryz.func146,Tryz.ntmps146
 go_wp2_with fail
 have kb:=box1 w (.cells #[.int .i64 1,.int .i64 n,.string s,.int .i64 x,.int .i64 y] 28)
 have D:=Blk.made w 28 (vcs 1 n s x y) rfl
 change Blk (w.alloc (.cells #[.int .i64 1,.int .i64 n,.string s,.int .i64 x,.int .i64 y] 28)) w.heap.size _ at D
 generalize w.alloc (.cells #[.int .i64 1,.int .i64 n,.string s,.int .i64 x,.int .i64 y] 28)=v at *
 refine (HR.out _).mono ?_
 rintro e w1 ⟨rfl,hb⟩
 have HB:=qq (Below.next kb hb)
 have D1:=qq (D.next hb)
 clear hb kb D
 have c0:=D1.out.v0;have c1:=D1.out.v1;have c2:=D1.out.v2;have c3:=D1.out.v3;have c4:=D1.out.v4
 go_wp2_with fail
 clear c0 c1 c2 c3 c4
 refine (HT.out _).mono ?_
 rintro e w2 ⟨rfl,hb⟩
 have HB2:=qq (Below.next HB.out hb)
 clear hb
 go_wp2_with fail
 go_ret
 exact ⟨rfl,HB2.out⟩
theorem itoa_le (n:Int) (h:-9007199254740992≤n∧n≤9007199254740992):(tx (Lib.itoa n)).size≤21:=by
 rw [tx_size];exact Lib.itoa_length_le n (by omega) (by omega)
theorem write_int {n x y:Int} {s:ByteArray} (h:rt ⟨0,n,s.data.toList,x,y⟩=true) (w:World) (ht:Tab w):Calls Tryz.prog 146 #[.agg #[.int .i64 0,.int .i64 n,.string s,.int .i64 x,.int .i64 y]] w (Gives (.string (tx (wr ⟨0,n,s.data.toList,x,y⟩))) w):=by
 have hr:-9007199254740992≤n∧n≤9007199254740992:=by
  rw [rt_int,Bool.and_eq_true,Bool.and_eq_true,decide_eq_true_eq,decide_eq_true_eq] at h;exact h.2
 have HR:=qq (right_val 0 n x y s);rw [h] at HR;clear h
 have HT:=qq ht;clear ht
 have HI:=qq (itoa_any n (by omega) (by omega))
 clear hr
 rw [wr_int]
 generalize tx (Lib.itoa n)=t at *
 go_enter Tryz.func146,Tryz.ntmps146
 go_wp2_with fail
 have kb:=box1 w (.cells #[.int .i64 0,.int .i64 n,.string s,.int .i64 x,.int .i64 y] 28)
 have D:=Blk.made w 28 (vcs 0 n s x y) rfl
 change Blk (w.alloc (.cells #[.int .i64 0,.int .i64 n,.string s,.int .i64 x,.int .i64 y] 28)) w.heap.size _ at D
 generalize w.alloc (.cells #[.int .i64 0,.int .i64 n,.string s,.int .i64 x,.int .i64 y] 28)=v at *
 refine (HR.out _).mono ?_
 rintro e w1 ⟨rfl,hb⟩
 have HB:=qq (Below.next kb hb)
 have D1:=qq (D.next hb)
 clear hb kb D
 have c0:=D1.out.v0;have c1:=D1.out.v1;have c2:=D1.out.v2;have c3:=D1.out.v3;have c4:=D1.out.v4
 go_wp2_with fail
 clear c0 c1 c2 c3 c4
 refine (HI.out _ (HT.out.next HB.out)).mono ?_
 rintro e w2 ⟨rfl,hb⟩
 have HB2:=qq (Below.next HB.out hb)
 clear hb
 go_wp2_with fail
 go_ret
 exact ⟨rfl,HB2.out⟩
theorem write_point {n x y:Int} {s:ByteArray} (h:rt ⟨2,n,s.data.toList,x,y⟩=true) (w:World) (ht:Tab w):Calls Tryz.prog 146 #[.agg #[.int .i64 2,.int .i64 n,.string s,.int .i64 x,.int .i64 y]] w (Gives (.string (tx (wr ⟨2,n,s.data.toList,x,y⟩))) w):=by
 have hr:=rb_xy (by rw [rt_point,Bool.and_eq_true] at h;exact h.2:rb ⟨x,y⟩=true)
 have HR:=qq (right_val 2 n x y s);rw [h] at HR;clear h
 have HT:=qq ht;clear ht
 have HA:=qq (itoa_any x (by omega) (by omega))
 have HC:=qq (itoa_any y (by omega) (by omega))
 have z2:=itoa_le x (by omega)
 have z3:=itoa_le y (by omega)
 clear hr
 have HE:Hid (tx (Lib.itoa x)++⟨#[58]⟩++tx (Lib.itoa y)=tx (wr ⟨2,n,s.data.toList,x,y⟩)):=by
  show _=_
  rw [wr_point,show (⟨#[58]⟩:ByteArray)=tx [58] from rfl,tx_append,tx_append]
 generalize tx (Lib.itoa x)=a at *
 generalize tx (Lib.itoa y)=b at *
 have g1:¬ a.size+1 > 9223372036854775807:=by omega
 have g2:¬ a.size+1+b.size > 9223372036854775807:=by omega
 clear z2 z3
 go_enter Tryz.func146,Tryz.ntmps146
 go_wp2_with fail
 have kb:=box1 w (.cells #[.int .i64 2,.int .i64 n,.string s,.int .i64 x,.int .i64 y] 28)
 have D:=Blk.made w 28 (vcs 2 n s x y) rfl
 change Blk (w.alloc (.cells #[.int .i64 2,.int .i64 n,.string s,.int .i64 x,.int .i64 y] 28)) w.heap.size _ at D
 generalize w.alloc (.cells #[.int .i64 2,.int .i64 n,.string s,.int .i64 x,.int .i64 y] 28)=v at *
 refine (HR.out _).mono ?_
 rintro e w1 ⟨rfl,hb⟩
 have HB:=qq (Below.next kb hb)
 have D1:=qq (D.next hb)
 clear hb kb D
 have c0:=D1.out.v0;have c1:=D1.out.v1;have c2:=D1.out.v2;have c3:=D1.out.v3;have c4:=D1.out.v4
 go_wp2_with fail
 clear c0 c1 c2 c3 c4
 have KA:=qq (fun q:Over w1=>HA.out q.val ((HT.out.next HB.out).next q.property))
 have KC:=qq (fun q:Over w1=>HC.out q.val ((HT.out.next HB.out).next q.property))
 have D2:=D1.out
 have k3:=fun r:Over w1=>(D2.over r).v3
 have k4:=fun r:Over w1=>(D2.over r).v4
 clear D2
 refine wp_over (by kernel_rfl) (by kernel_rfl) ?_
 repeat (go_big_quiet_step (first | fail | with_reducible exact over_gives _ (KA.out _) | with_reducible exact over_gives _ (KC.out _)))
 refine wpQuiet_nil ?_
 rintro w3 ⟨⟨w3,hb⟩,rfl⟩
 have HB3:=qq (Below.next HB.out hb)
 clear hb k3 k4
 go_wp2_with fail
 go_ret
 exact ⟨ret_str HE.out,HB3.out⟩
theorem write_yes {k n x y:Int} {s:ByteArray} (h:rt ⟨k,n,s.data.toList,x,y⟩=true) (w:World) (ht:Tab w):Calls Tryz.prog 146 #[.agg #[.int .i64 k,.int .i64 n,.string s,.int .i64 x,.int .i64 y]] w (Gives (.string (tx (wr ⟨k,n,s.data.toList,x,y⟩))) w):=by
 by_cases h0:k=0
 · subst h0;exact write_int h w ht
 by_cases h1:k=1
 · subst h1;exact write_text h w
 by_cases h2:k=2
 · subst h2;exact write_point h w ht
 rw [rt_kind n x y _ h0 h1 h2] at h;cases h
end Go.Proofs.YtgakcpcpfkoaiaaGreatDoor.Va
namespace Go.Proofs.YtgakcpcpfkoaiaaGreatDoor.Va
open Go.ChangeShapes Go.WideShapes Go.ChangeAt Go.RowKit Ov Ga
theorem over_id {w:World} {P:Program} {f:FuncId} {args:Array Value} {v:Value} (q:Over w) (h:Calls P f args q.val fun e w'=>e=.returned v∧q.val=w') :
 Calls P f args q.val fun e w'=>e=.returned v∧∃ q':Over w,w'=q'.val:=h.mono fun _ _ ⟨he,hw⟩=>⟨he,q,hw.symm⟩
def orl:List Int→Int
 | []=>0
 | a :: t=>if a ≠ 0 then a else orl t
theorem orl4 (a b c d:Int):orl [a,b,c,d]=or4 a b c d:=by
 unfold or4;simp only [orl]
 split
 · rfl
 · split
   · rfl
   · split
     · rfl
     · split
       · rfl
       · omega
theorem orl_drop {l:List Int} {k:Nat} (h:k<l.length):orl (l.drop k)=if l[k] ≠ 0 then l[k] else orl (l.drop (k+1)):=by
 rw [List.drop_eq_getElem_cons h];rfl
theorem or_any (l:List Int) (b:Nat) (w:World) (h:Blk w b (l.map fun a=>Value.int .i64 a)) (hl:l.length≤4):Calls Tryz.prog 63 #[.slice (some ⟨b,0,none⟩) l.length l.length] w fun e w'=>e=.returned (.int .i64 (orl l))∧w=w':=by
 have H:=qq h;clear h
 obtain ⟨n,hn⟩:∃ n,l.length=n:=⟨_,rfl⟩
 rw [hn] at hl ⊢
 have HN:=qq hn;clear hn
 go_enter Tryz.func63,Tryz.ntmps63
 go_wp2_with fail
 go_loop [5,8] (fun _ i=>∃ k:Nat,k≤n∧i=.int .i64 k∧orl l=orl (l.drop k)) (fun _ i=>n - (intOf i).toNat)
 case atStart=>exact ⟨0,Nat.zero_le _,rfl,by simp⟩
 case round =>
  obtain ⟨k,hk,rfl,hd⟩:=hrel
  have HD:=qq hd;clear hd
  by_cases hlt:k<n
  · have hkl:k<l.length:=by have:=HN.out;omega
    obtain ⟨a,ha⟩:∃ a,l[k]=a:=⟨_,rfl⟩
    have HS:Hid (orl (l.drop k)=if a ≠ 0 then a else orl (l.drop (k+1))):=by
     show _=_
     rw [orl_drop hkl,ha]
    have hc:w.cell? ⟨b,k,none⟩=some (.int .i64 a):=H.out.c k _ (by rw [List.getElem?_map,List.getElem?_eq_getElem hkl,ha];rfl)
    clear ha hkl
    by_cases hz:a=0
    · subst hz
      go_wp2_with fail
      go_round
      case rel=>exact ⟨k+1,by omega,by go_num,by rw [HD.out,HS.out];rfl⟩
      case measure=>simp [intOf];omega
    · have hne:(a != 0)=true:=bne_iff_ne.2 hz
      have HZ:=qq hz;clear hz
      go_wp2_with fail
      go_ret
      exact ⟨ret_int (by rw [HD.out,HS.out,if_pos HZ.out]),rfl⟩
  · have HS:Hid (orl (l.drop k)=0):=by
     show _=_
     rw [List.drop_of_length_le (by have:=HN.out;omega)];rfl
    go_wp2_with fail
    go_ret
    exact ⟨ret_int (by rw [HD.out,HS.out]),rfl⟩
theorem spots_any (x y u v:Int) (w:World):Calls Tryz.prog 66 #[.agg #[.int .i64 x,.int .i64 y],.agg #[.int .i64 u,.int .i64 v]] w (Gives (.int .i64 (cP x y u v)) w):=by
 have H1:=qq (less_any x y u v)
 have H2:=qq (less_any u v x y)
 have he:cP x y u v=if decide (x<u∨x=u∧y<v)=true then -1 else if decide (u<x∨u=x∧v<y)=true then 1 else 0:=by
  unfold cP;simp only [decide_eq_true_eq]
 rw [he];clear he
 generalize decide (x<u∨x=u∧y<v)=p at *
 generalize decide (u<x∨u=x∧v<y)=q at *
 cases p
 · cases q
   · go_enter Tryz.func66,Tryz.ntmps66
     go_wp2_with fail
     refine (H1.out _).mono ?_
     rintro e w1 ⟨rfl,hb⟩
     have HB:=qq (Below.next (box2 w _ _) hb)
     have D1:=((Blk.made w 26 [.int .i64 x,.int .i64 y] rfl).old (.cells #[.int .i64 u,.int .i64 v] 26)).next hb
     have D2:=(Blk.made (w.alloc (.cells #[.int .i64 x,.int .i64 y] 26)) 26 [.int .i64 u,.int .i64 v] (World.size_alloc _ _)).next hb
     have c0:=D1.c 0 _ rfl
     have c1:=D1.c 1 _ rfl
     have c2:=D2.c 0 _ rfl
     have c3:=D2.c 1 _ rfl
     clear hb D1 D2
     go_wp2_with fail
     clear c0 c1 c2 c3
     refine (H2.out _).mono ?_
     rintro e w2 ⟨rfl,hb⟩
     have HB2:=qq (Below.next HB.out hb)
     clear hb
     go_wp2_with fail
     go_ret
     exact ⟨rfl,HB2.out⟩
   · go_enter Tryz.func66,Tryz.ntmps66
     go_wp2_with fail
     refine (H1.out _).mono ?_
     rintro e w1 ⟨rfl,hb⟩
     have HB:=qq (Below.next (box2 w _ _) hb)
     have D1:=((Blk.made w 26 [.int .i64 x,.int .i64 y] rfl).old (.cells #[.int .i64 u,.int .i64 v] 26)).next hb
     have D2:=(Blk.made (w.alloc (.cells #[.int .i64 x,.int .i64 y] 26)) 26 [.int .i64 u,.int .i64 v] (World.size_alloc _ _)).next hb
     have c0:=D1.c 0 _ rfl
     have c1:=D1.c 1 _ rfl
     have c2:=D2.c 0 _ rfl
     have c3:=D2.c 1 _ rfl
     clear hb D1 D2
     go_wp2_with fail
     clear c0 c1 c2 c3
     refine (H2.out _).mono ?_
     rintro e w2 ⟨rfl,hb⟩
     have HB2:=qq (Below.next HB.out hb)
     clear hb
     go_wp2_with fail
     go_ret
     exact ⟨rfl,HB2.out⟩
 · go_enter Tryz.func66,Tryz.ntmps66
   go_wp2_with fail
   refine (H1.out _).mono ?_
   rintro e w1 ⟨rfl,hb⟩
   have HB:=qq (Below.next (box2 w _ _) hb)
   have D1:=((Blk.made w 26 [.int .i64 x,.int .i64 y] rfl).old (.cells #[.int .i64 u,.int .i64 v] 26)).next hb
   have D2:=(Blk.made (w.alloc (.cells #[.int .i64 x,.int .i64 y] 26)) 26 [.int .i64 u,.int .i64 v] (World.size_alloc _ _)).next hb
   have c0:=D1.c 0 _ rfl
   have c1:=D1.c 1 _ rfl
   have c2:=D2.c 0 _ rfl
   have c3:=D2.c 1 _ rfl
   clear hb D1 D2
   go_wp2_with fail
   go_ret
   exact ⟨rfl,HB.out⟩
theorem order_val (k n x y k' n' x' y':Int) (s s':ByteArray) (w:World):Calls Tryz.prog 36 #[.agg #[.int .i64 k,.int .i64 n,.string s,.int .i64 x,.int .i64 y],.agg #[.int .i64 k',.int .i64 n',.string s',.int .i64 x',.int .i64 y']] w
 (Gives (.int .i64 (ord ⟨k,n,s.data.toList,x,y⟩ ⟨k',n',s'.data.toList,x',y'⟩)) w):=by
 have HI:=qq cmpI_any
 have HS:=qq (cmpS_any s s')
 have HP:=qq (spots_any x y x' y')
 have HE:Hid (ord ⟨k,n,s.data.toList,x,y⟩ ⟨k',n',s'.data.toList,x',y'⟩=orl [cI k k',cI n n',cS s.data.toList s'.data.toList,cP x y x' y']):=by
  show _=_
  rw [orl4];rfl
 generalize cS s.data.toList s'.data.toList=c3 at *
 generalize cP x y x' y'=c4 at *
 go_enter Tryz.func36,Tryz.ntmps36
 go_wp2_with fail
 have kb:=qq (box2 w (.cells #[.int .i64 k,.int .i64 n,.string s,.int .i64 x,.int .i64 y] 28) (.cells #[.int .i64 k',.int .i64 n',.string s',.int .i64 x',.int .i64 y'] 28))
 have D:=(Blk.made w 28 (vcs k n s x y) rfl).old (.cells #[.int .i64 k',.int .i64 n',.string s',.int .i64 x',.int .i64 y'] 28)
 have E:=Blk.made (w.alloc (.cells #[.int .i64 k,.int .i64 n,.string s,.int .i64 x,.int .i64 y] 28)) 28 (vcs k' n' s' x' y') (World.size_alloc _ _)
 change Blk ((w.alloc (.cells #[.int .i64 k,.int .i64 n,.string s,.int .i64 x,.int .i64 y] 28)).alloc (.cells #[.int .i64 k',.int .i64 n',.string s',.int .i64 x',.int .i64 y'] 28)) w.heap.size _ at D
 change Blk ((w.alloc (.cells #[.int .i64 k,.int .i64 n,.string s,.int .i64 x,.int .i64 y] 28)).alloc (.cells #[.int .i64 k',.int .i64 n',.string s',.int .i64 x',.int .i64 y'] 28)) (w.heap.size+1) _ at E
 generalize (w.alloc (.cells #[.int .i64 k,.int .i64 n,.string s,.int .i64 x,.int .i64 y] 28)).alloc (.cells #[.int .i64 k',.int .i64 n',.string s',.int .i64 x',.int .i64 y'] 28)=v at *
 have d0:=fun r:Over v=>(D.over r).v0
 have d1:=fun r:Over v=>(D.over r).v1
 have d2:=fun r:Over v=>(D.over r).v2
 have d3:=fun r:Over v=>(D.over r).v3
 have d4:=fun r:Over v=>(D.over r).v4
 have e0:=fun r:Over v=>(E.over r).v0
 have e1:=fun r:Over v=>(E.over r).v1
 have e2:=fun r:Over v=>(E.over r).v2
 have e3:=fun r:Over v=>(E.over r).v3
 have e4:=fun r:Over v=>(E.over r).v4
 clear D E
 refine wp_over_tail 20 (by kernel_rfl) (by kernel_rfl) ?_
 simp only [List.take_succ_cons,List.take_zero,List.drop_succ_cons,List.drop_zero]
 repeat (go_big_quiet_step (first | fail | with_reducible exact over_id _ (HI.out _ _ _) | with_reducible exact over_id _ (HS.out _) | with_reducible exact over_gives _ (HP.out _)))
 refine wpQuiet_nil ?_
 rintro w2 ⟨⟨w2,hb⟩,rfl⟩
 have HB:=qq (Below.next kb.out hb)
 clear hb kb d0 d1 d2 d3 d4 e0 e1 e2 e3 e4
 go_wp2_with fail
 refine (or_any [cI k k',cI n n',c3,c4] w2.heap.size _ (Blk.made w2 3 [.int .i64 (cI k k'),.int .i64 (cI n n'),.int .i64 c3,.int .i64 c4] rfl) (Nat.le_refl _)).mono ?_
 rintro e w' ⟨rfl,rfl⟩
 have HB2:=qq (Below.next HB.out (box1 w2 (.cells #[.int .i64 (cI k k'),.int .i64 (cI n n'),.int .i64 c3,.int .i64 c4] 3)))
 go_wp2_with fail
 go_ret
 exact ⟨ret_int HE.out.symm,HB2.out⟩
end Go.Proofs.YtgakcpcpfkoaiaaGreatDoor.Va
namespace Go.Proofs.YtgakcpcpfkoaiaaGreatDoor.Ev
open Go.ChangeShapes Go.WideShapes Go.ChangeAt Go.RowKit Ov Va Ga Ex
theorem drop_at (s:ByteArray) {k:Nat} (h:k<s.size):s.data.toList.drop k=s[k] :: s.data.toList.drop (k+1):=List.drop_eq_getElem_cons (by simpa using h)
theorem drop_take_nil (l:List UInt8) (k:Nat):(l.take k).drop k=[]:=List.drop_of_length_le (by rw [List.length_take];omega)
theorem ext_mid (s:ByteArray) {k m:Nat} (_h:k≤m) (_h2:m≤s.size):s.extract k m=tx ((s.data.toList.take m).drop k):=tx_ext (by
 rw [Lib.extract_data];simp [List.drop_take])
theorem isB_yes {c:UInt8} (h:isB c=true):((c.toNat:Int) != 32)=false:=by
 have:c=32:=by simpa [isB] using h
 rw [this];rfl
theorem isB_no {c:UInt8} (h:¬ isB c=true):((c.toNat:Int) != 32)=true:=by
 rw [bne_iff_ne]
 intro e
 apply h
 have:c=32:=UInt8.toNat_inj.1 (by show c.toNat=32;omega)
 rw [this];rfl
theorem isB_yes' {c:UInt8} (h:isB c=true):((c.toNat:Int) == 32)=true:=by
 have:c=32:=by simpa [isB] using h
 rw [this];rfl
theorem isB_no' {c:UInt8} (h:¬ isB c=true):((c.toNat:Int) == 32)=false:=by
 have:=isB_no h
 rw [bne_iff_ne] at this
 simpa using this
theorem stretch_any (s:ByteArray) (hs:s.size≤281474976710656) (w:World):Calls Tryz.prog 144 #[.string s] w (Gives (.tuple #[.string (tx (st s.data.toList)),.string (tx (bh s.data.toList))]) w):=by
 go_enter Tryz.func144,Tryz.ntmps144
 go_wp2_with fail
 go_loop [4] (fun i=>∃ k:Nat,k≤s.size∧i=.int .i64 (k:Int)∧(s.data.toList.drop k).dropWhile isB=sp s.data.toList) (fun i=>s.size - (intOf i).toNat)
 case atStart=>exact ⟨0,Nat.zero_le _,rfl,rfl⟩
 case round =>
  obtain ⟨k,hk,rfl,hsp0⟩:=hrel
  by_cases hlt:k<s.size
  · have hdr:=drop_at s hlt
    by_cases hc:isB s[k]=true
    · have h32:((s[k].toNat:Int) == 32)=true:=isB_yes' hc
      have HR:Hid ((s.data.toList.drop (k+1)).dropWhile isB=sp s.data.toList):=by
       show _=_
       rw [← hsp0,hdr,List.dropWhile_cons_of_pos hc]
      clear hdr hc hsp0
      go_wp2_with fail
      go_round
      case rel=>exact ⟨k+1,by omega,by go_num,HR.out⟩
      case measure=>simp [intOf];omega
    · have h32:((s[k].toNat:Int) == 32)=false:=isB_no' hc
      have hsp:sp s.data.toList=s.data.toList.drop k:=by rw [← hsp0,hdr,List.dropWhile_cons_of_neg hc]
      clear hdr hc hsp0
      have HSP:Hid (sp s.data.toList=s.data.toList.drop k):=hsp
      clear hsp
      go_wp2_with fail
      go_loop [5] (fun t=>∃ m:Nat,k≤m∧m≤s.size∧t=.int .i64 (m:Int)∧st s.data.toList=(s.data.toList.take m).drop k++(s.data.toList.drop m).takeWhile (fun c=>!isB c)∧bh s.data.toList=(s.data.toList.drop m).dropWhile (fun c=>!isB c)) (fun t=>s.size - (intOf t).toNat)
      case atStart=>exact ⟨k,Nat.le_refl _,hk,rfl,by unfold st;rw [HSP.out,drop_take_nil];rfl,by unfold bh;rw [HSP.out]⟩
      case round =>
       obtain ⟨m,hkm,hm,rfl,hst,hbh⟩:=hrel
       have HST:=qq hst;have HBH:=qq hbh
       clear hst hbh
       by_cases hlt2:m<s.size
       · have hdr:=drop_at s hlt2
         have htk:=take_snoc s m hlt2
         by_cases hc2:isB s[m]=true
         · have h32:((s[m].toNat:Int) != 32)=false:=isB_yes hc2
           have HE:Hid (Value.tuple #[.string (s.extract k m),.string (s.extract m s.size)]=.tuple #[.string (tx (st s.data.toList)),.string (tx (bh s.data.toList))]):=by
            show _=_
            rw [HST.out,HBH.out,hdr,List.takeWhile_cons_of_neg (by simp [hc2]),List.dropWhile_cons_of_neg (by simp [hc2]),List.append_nil,← hdr,ext_mid s hkm hm,ext_drop]
           have hsl:∀ w,(Instr.slice 9 (.string s) (some (.int .i64 (k:Int))) (some (.int .i64 (m:Int))) none).run Tryz.prog w=.ok (.string (s.extract k m)) w:=fun w =>
            run_slice_string (P:=Tryz.prog) w 9 s .i64 .i64 (k:Int) (m:Int) Tryz.underlying9 (by omega) (by omega) (by omega)
           clear hdr htk hc2 HST HBH HSP
           go_wp2_with fail
           go_quiet (fail)
           go_wp2_with fail
           go_ret2
           exact ⟨congrArg Ending.returned HE.out,below_drewN (Below.refl _ _) _⟩
         · have h32:((s[m].toNat:Int) != 32)=true:=isB_no hc2
           have HR1:Hid (st s.data.toList=(s.data.toList.take (m+1)).drop k++(s.data.toList.drop (m+1)).takeWhile (fun c=>!isB c)):=by
            show _=_
            rw [HST.out,hdr,List.takeWhile_cons_of_pos (by simpa using hc2),htk,List.drop_append_of_le_length (by rw [List.length_take];simp;omega)];simp
           have HR2:Hid (bh s.data.toList=(s.data.toList.drop (m+1)).dropWhile (fun c=>!isB c)):=by
            show _=_
            rw [HBH.out,hdr,List.dropWhile_cons_of_pos (by simpa using hc2)]
           clear hdr htk hc2 HST HBH
           go_wp2_with fail
           go_round
           case rel=>exact ⟨m+1,by omega,by omega,by go_num,HR1.out,HR2.out⟩
           case measure=>simp [intOf];omega
       · obtain rfl:m=s.size:=by omega
         have HE:Hid (Value.tuple #[.string (s.extract k s.size),.string ByteArray.empty]=.tuple #[.string (tx (st s.data.toList)),.string (tx (bh s.data.toList))]):=by
          show _=_
          rw [HST.out,HBH.out,List.drop_of_length_le (show s.data.toList.length≤s.size by simp),ext_mid s hkm hm,List.takeWhile_nil,List.append_nil];rfl
         have hsl:∀ w,(Instr.slice 9 (.string s) (some (.int .i64 (k:Int))) (some (.int .i64 (s.size:Int))) none).run Tryz.prog w=.ok (.string (s.extract k s.size)) w:=fun w =>
          run_slice_string (P:=Tryz.prog) w 9 s .i64 .i64 (k:Int) (s.size:Int) Tryz.underlying9 (by omega) (by omega) (by omega)
         clear HST HBH HSP
         go_wp2_with fail
         go_quiet (fail)
         go_wp2_with fail
         go_ret2
         exact ⟨congrArg Ending.returned HE.out,below_drewN (Below.refl _ _) _⟩
  · have hsp:sp s.data.toList=s.data.toList.drop k:=by rw [← hsp0,List.drop_of_length_le (show s.data.toList.length≤k by simp;omega)];rfl
    clear hsp0
    have HSP:Hid (sp s.data.toList=s.data.toList.drop k):=hsp
    clear hsp
    go_wp2_with fail
    go_loop [5] (fun t=>∃ m:Nat,k≤m∧m≤s.size∧t=.int .i64 (m:Int)∧st s.data.toList=(s.data.toList.take m).drop k++(s.data.toList.drop m).takeWhile (fun c=>!isB c)∧bh s.data.toList=(s.data.toList.drop m).dropWhile (fun c=>!isB c)) (fun t=>s.size - (intOf t).toNat)
    case atStart=>exact ⟨k,Nat.le_refl _,hk,rfl,by unfold st;rw [HSP.out,drop_take_nil];rfl,by unfold bh;rw [HSP.out]⟩
    case round =>
     obtain ⟨m,hkm,hm,rfl,hst,hbh⟩:=hrel
     have HST:=qq hst;have HBH:=qq hbh
     clear hst hbh
     by_cases hlt2:m<s.size
     · have hdr:=drop_at s hlt2
       have htk:=take_snoc s m hlt2
       by_cases hc2:isB s[m]=true
       · have h32:((s[m].toNat:Int) != 32)=false:=isB_yes hc2
         have HE:Hid (Value.tuple #[.string (s.extract k m),.string (s.extract m s.size)]=.tuple #[.string (tx (st s.data.toList)),.string (tx (bh s.data.toList))]):=by
          show _=_
          rw [HST.out,HBH.out,hdr,List.takeWhile_cons_of_neg (by simp [hc2]),List.dropWhile_cons_of_neg (by simp [hc2]),List.append_nil,← hdr,ext_mid s hkm hm,ext_drop]
         have hsl:∀ w,(Instr.slice 9 (.string s) (some (.int .i64 (k:Int))) (some (.int .i64 (m:Int))) none).run Tryz.prog w=.ok (.string (s.extract k m)) w:=fun w =>
          run_slice_string (P:=Tryz.prog) w 9 s .i64 .i64 (k:Int) (m:Int) Tryz.underlying9 (by omega) (by omega) (by omega)
         clear hdr htk hc2 HST HBH HSP
         go_wp2_with fail
         go_quiet (fail)
         go_wp2_with fail
         go_ret2
         exact ⟨congrArg Ending.returned HE.out,below_drewN (Below.refl _ _) _⟩
       · have h32:((s[m].toNat:Int) != 32)=true:=isB_no hc2
         have HR1:Hid (st s.data.toList=(s.data.toList.take (m+1)).drop k++(s.data.toList.drop (m+1)).takeWhile (fun c=>!isB c)):=by
          show _=_
          rw [HST.out,hdr,List.takeWhile_cons_of_pos (by simpa using hc2),htk,List.drop_append_of_le_length (by rw [List.length_take];simp;omega)];simp
         have HR2:Hid (bh s.data.toList=(s.data.toList.drop (m+1)).dropWhile (fun c=>!isB c)):=by
          show _=_
          rw [HBH.out,hdr,List.dropWhile_cons_of_pos (by simpa using hc2)]
         clear hdr htk hc2 HST HBH
         go_wp2_with fail
         go_round
         case rel=>exact ⟨m+1,by omega,by omega,by go_num,HR1.out,HR2.out⟩
         case measure=>simp [intOf];omega
     · obtain rfl:m=s.size:=by omega
       have HE:Hid (Value.tuple #[.string (s.extract k s.size),.string ByteArray.empty]=.tuple #[.string (tx (st s.data.toList)),.string (tx (bh s.data.toList))]):=by
        show _=_
        rw [HST.out,HBH.out,List.drop_of_length_le (show s.data.toList.length≤s.size by simp),ext_mid s hkm hm,List.takeWhile_nil,List.append_nil];rfl
       have hsl:∀ w,(Instr.slice 9 (.string s) (some (.int .i64 (k:Int))) (some (.int .i64 (s.size:Int))) none).run Tryz.prog w=.ok (.string (s.extract k s.size)) w:=fun w =>
        run_slice_string (P:=Tryz.prog) w 9 s .i64 .i64 (k:Int) (s.size:Int) Tryz.underlying9 (by omega) (by omega) (by omega)
       clear HST HBH HSP
       go_wp2_with fail
       go_quiet (fail)
       go_wp2_with fail
       go_ret2
       exact ⟨congrArg Ending.returned HE.out,below_drewN (Below.refl _ _) _⟩
end Go.Proofs.YtgakcpcpfkoaiaaGreatDoor.Ev
namespace Go.Proofs.YtgakcpcpfkoaiaaGreatDoor.Ev
open Ov Tp Ga Va Ex
theorem wdF_any:∀ (f g:Nat) (s:List UInt8),s.length<f→s.length<g→wdF f s=wdF g s
 | 0,_,_,h,_=>absurd h (by omega)
 | _+1,0,_,_,h=>absurd h (by omega)
 | f+1,g+1,s,hf,hg=>by
   unfold wdF
   split
   · rfl
   · rename_i h0
     have h1:=bh_le s
     have h2:0<(st s).length:=List.length_pos_iff.2 h0
     rw [wdF_any f g (bh s) (by omega) (by omega)]
theorem wds_nil {s:List UInt8} (h:st s=[]):wds s=[]:=by unfold wds wdF;rw [if_pos h]
theorem wds_cons {s:List UInt8} (h:st s ≠ []):wds s=st s :: wds (bh s):=by
 have h1:=bh_le s
 have h2:0<(st s).length:=List.length_pos_iff.2 h
 show wdF (s.length+1) s=_
 rw [wdF,if_neg h]
 unfold wds
 rw [wdF_any s.length ((bh s).length+1) (bh s) (by omega) (by omega)]
theorem wds_blank (s:List UInt8):wds (32 :: s)=wds s:=by
 have h1:st (32 :: s)=st s:=rfl
 have h2:bh (32 :: s)=bh s:=rfl
 by_cases h:st s=[]
 · rw [wds_nil h,wds_nil (by rw [h1];exact h)]
 · rw [wds_cons h,wds_cons (by rw [h1];exact h),h1,h2]
theorem wds_front {s:List UInt8} {c:UInt8} (hc:isB c=false):st (c :: s)=c :: s.takeWhile (fun c=>!isB c)∧bh (c :: s)=s.dropWhile (fun c=>!isB c):=by
 unfold st bh sp
 rw [List.dropWhile_cons_of_neg (by rw [hc];decide),List.takeWhile_cons_of_pos (by rw [hc];rfl),List.dropWhile_cons_of_pos (by rw [hc];rfl)]
 exact ⟨rfl,rfl⟩
def wdN (s:List UInt8) (y:Int):Int ⊕ Va:=if y<0 then .inl 14 else match (wds s)[y.toNat]? with | some x=>.inr (tv x) | none=>.inl 14
theorem wdN_nil {s:List UInt8} (h:st s=[]) (y:Int):wdN s y=.inl 14:=by
 unfold wdN
 rw [wds_nil h]
 split <;> rfl
theorem wdN_zero {s:List UInt8} (h:st s ≠ []):wdN s 0=.inr (tv (st s)):=by
 unfold wdN
 rw [wds_cons h];rfl
theorem wdN_more {s:List UInt8} (h:st s ≠ []) {y:Int} (hy:y ≠ 0):wdN s y=wdN (bh s) (y - 1):=by
 unfold wdN
 rw [wds_cons h]
 by_cases h0:y<0
 · rw [if_pos h0,if_pos (by omega)]
 · rw [if_neg h0,if_neg (by omega),show y.toNat=(y - 1).toNat+1 by omega,List.getElem?_cons_succ]
end Go.Proofs.YtgakcpcpfkoaiaaGreatDoor.Ev
namespace Go.Proofs.YtgakcpcpfkoaiaaGreatDoor.Ev
open Go.ChangeShapes Go.WideShapes Go.ChangeAt Go.RowKit Ov Va Ga
theorem own_any (k n x y:Int) (s:ByteArray) (hs:s.size≤281474976710656) (w:World):Calls Tryz.prog 57 #[.agg #[.int .i64 k,.int .i64 n,.string s,.int .i64 x,.int .i64 y]] w (Gives (.agg #[.int .i64 k,.int .i64 n,.string s,.int .i64 x,.int .i64 y]) w):=by
 have hby:Blk ((w.alloc (.cells #[.int .i64 k,.int .i64 n,.string s,.int .i64 x,.int .i64 y] 28)).alloc (.cells zz 28)) w.heap.size (vcs k n s x y):=(Blk.made w 28 (vcs k n s x y) rfl).old _
 have hbx:Blk ((w.alloc (.cells #[.int .i64 k,.int .i64 n,.string s,.int .i64 x,.int .i64 y] 28)).alloc (.cells zz 28)) (w.heap.size+1) (vcs 0 0 ⟨#[]⟩ 0 0):=Blk.made (w.alloc (.cells #[.int .i64 k,.int .i64 n,.string s,.int .i64 x,.int .i64 y] 28)) 28 (vcs 0 0 ⟨#[]⟩ 0 0) (by simp)
 have hbb:=box2 w (.cells #[.int .i64 k,.int .i64 n,.string s,.int .i64 x,.int .i64 y] 28) (.cells zz 28)
 have HX:=qq hbx;have HY:=qq hby;have HB:=qq hbb
 have HC:=qq (fun w1=>clone_any s w1 hs)
 clear hbx hby hbb
 go_enter Tryz.func57,Tryz.ntmps57
 go_wp2_with fail
 refine (HC.out _).mono ?_
 rintro e w1 ⟨rfl,hb⟩
 have HX1:=qq (HX.out.next hb);have HY1:=qq (HY.out.next hb);have HB1:=qq (Below.next HB.out hb)
 clear hb HX HY HB HC
 have c0:=HX1.out.v0;have c1:=HX1.out.v1;have c2:=HX1.out.v2;have c3:=HX1.out.v3;have c4:=HX1.out.v4
 have z0:=HX1.out.g0;have z1:=HX1.out.g1;have z2:=HX1.out.g2;have z3:=HX1.out.g3;have z4:=HX1.out.g4
 have y0:=HY1.out.v0;have y1:=HY1.out.v1;have y2:=HY1.out.v2;have y3:=HY1.out.v3;have y4:=HY1.out.v4
 have f2:=HY1.out.g2
 go_wp2_with fail
 have hx2:=HX1.out.put (show w.heap.size ≠ w.heap.size+1 by omega) 2 (.string s)
 have h3:=Blk.all5 hx2 (.int .i64 k) (.int .i64 n) (.string s) (.int .i64 x) (.int .i64 y)
 have hb2:Below w.heap.size w (w1.setCell ⟨w.heap.size,2,none⟩ (.string s)):=HB1.out.setCell (Nat.le_refl _) _
 have hb3:=below_all5 hb2 (b:=w.heap.size+1) (by omega) (.int .i64 k) (.int .i64 n) (.string s) (.int .i64 x) (.int .i64 y)
 clear c0 c1 c2 c3 c4 z0 z1 z2 z3 z4 y0 y1 y2 y3 y4 f2 hx2
 generalize ((((((w1.setCell ⟨w.heap.size,2,none⟩ (.string s)).setCell ⟨w.heap.size+1,0,none⟩ (.int .i64 k)).setCell ⟨w.heap.size+1,1,none⟩ (.int .i64 n)).setCell ⟨w.heap.size+1,2,none⟩ (.string s)).setCell ⟨w.heap.size+1,3,none⟩ (.int .i64 x)).setCell ⟨w.heap.size+1,4,none⟩ (.int .i64 y))=w4 at *
 have c0:=h3.c 0 _ rfl;have c1:=h3.c 1 _ rfl;have c2:=h3.c 2 _ rfl;have c3:=h3.c 3 _ rfl;have c4:=h3.c 4 _ rfl
 refine bodyPost_ret (v:=.agg #[.int .i64 k,.int .i64 n,.string s,.int .i64 x,.int .i64 y]) (by simp [results,Tryz.results57,go_sem,c0,c1,c2,c3,c4]) rfl ⟨rfl,hb3⟩
end Go.Proofs.YtgakcpcpfkoaiaaGreatDoor.Ev
namespace Go.Proofs.YtgakcpcpfkoaiaaGreatDoor.Ev
open Ov Tp Ga Va Ex
section
variable {K K':List UInt8} {V C V' C':Va}
end
section
variable {K K':List UInt8} {V C V' C':Va}
end
end Go.Proofs.YtgakcpcpfkoaiaaGreatDoor.Ev

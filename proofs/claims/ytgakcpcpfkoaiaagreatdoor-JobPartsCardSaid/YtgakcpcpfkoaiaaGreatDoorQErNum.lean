/-
  A text of this claim: ErNum.
-/
import Derived.Test.YtgakcpcpfkoaiaaGreatDoorQ1
import Derived.Test.YtgakcpcpfkoaiaaGreatDoorQ2
import Derived.Test.YtgakcpcpfkoaiaaGreatDoorQ3
set_option maxHeartbeats 4000000
set_option maxRecDepth 100000
namespace Go.Proofs.YtgakcpcpfkoaiaaGreatDoor.Ev
open Go.ChangeShapes Go.WideShapes Go.ChangeAt Go.RowKit Ov Va Ga Ex
theorem dl_len (s:ByteArray) (i:Nat):(s.data.toList.drop i).length=s.size - i:=by simp
theorem dl_get (s:ByteArray) {i k:Nat} (h1:i≤k) (h2:k<s.size):(s.data.toList.drop i)[k - i]'(by rw [dl_len];omega)=s[k]:=by
 rw [List.getElem_drop]
 have e:i+(k - i)=k:=by omega
 simp only [e];rfl
theorem dl_yes (s:ByteArray) {i k:Nat} (h1:i≤k) (h2:k<s.size) (h:k - i≤tw (s.data.toList.drop i)) (hd:dg s[k]=true):k+1 - i≤tw (s.data.toList.drop i):=by
 have:=tw_yes (l:=s.data.toList.drop i) (k:=k - i) (by rw [dl_len];omega) h (by rw [dl_get s h1 h2];exact hd)
 omega
theorem dl_no (s:ByteArray) {i k:Nat} (h1:i≤k) (h2:k<s.size) (h:k - i≤tw (s.data.toList.drop i)) (hd:dg s[k]=false):tw (s.data.toList.drop i)=k - i :=
 tw_no (l:=s.data.toList.drop i) (k:=k - i) (by rw [dl_len];omega) h (by rw [dl_get s h1 h2];exact hd)
theorem dl_sat (s:ByteArray) {i k:Nat} (h1:i≤k) (h2:k<s.size):sat ((s.data.toList.drop i).take (k+1 - i))=min (10 * sat ((s.data.toList.drop i).take (k - i))+(s[k].toNat - 48)) 9007199254740993:=by
 rw [show k+1 - i=(k - i)+1 by omega,List.take_succ_eq_append_getElem (by rw [dl_len];omega),sat_snoc,dl_get s h1 h2]
theorem dl_head (s:ByteArray) {i:Nat} (h:i<s.size):(s.data.toList.drop i).head? = some s[i]:=by rw [drop_at s h];rfl
def Dg (w:World) (e:Ending) (w':World):Prop:=(∃ d:Int,e=.returned (.int .i64 d)∧-1≤d∧d≤15)∧w=w'
theorem rdigit_any (c:UInt8) (w:World):Calls Tryz.prog 180 #[.int .u8 (c.toNat:Int)] w (Dg w):=by
 obtain ⟨m,hm⟩:∃ m:Nat,m=c.toNat:=⟨_,rfl⟩
 have hlt:=c.toNat_lt
 rw [← hm]
 rw [← hm] at hlt
 clear hm
 have key:(48≤m∧m≤57)∨(¬ 48≤m)∨(57<m∧¬ 97≤m)∨(97≤m∧m≤102)∨(97≤m∧102<m):=by omega
 rcases key with ⟨h1,h2⟩ | h1 | ⟨h1,h2⟩ | ⟨h1,h2⟩ | ⟨h1,h2⟩
 all_goals
  go_enter Tryz.func180,Tryz.ntmps180
  go_wp2_with fail
  go_ret
  exact ⟨⟨_,rfl,by omega,by omega⟩,rfl⟩
def NumE (l:List UInt8) (i:Nat) (w:World) (e:Ending) (w':World):Prop:=∃ n k x:Int,e=.returned (.tuple #[.int .i64 n,.int .i64 k,.int .i64 x])∧NumAt l i n k x∧w=w'
theorem rnumber_any (s:ByteArray) (i:Nat) (hi:i≤s.size) (hs:s.size≤281474976710656) (w:World):Calls Tryz.prog 179 #[.string s,.int .i64 (i:Int)] w (NumE (s.data.toList.drop i) i w):=by
 have hsz:s.data.toList.length=s.size:=by simp
 by_cases hb:∃ h:i<s.size,s[i]=45
 · obtain ⟨hi1,hc1⟩:=hb
   have HD:Hid (s.data.toList.drop i=45 :: s.data.toList.drop (i+1)):=by show _=_;rw [drop_at s hi1,hc1]
   have g45:((s[i].toNat:Int) == 45)=true:=by rw [hc1];rfl
   obtain ⟨cm,hcm⟩:∃ c:UInt8,s[i]=c:=⟨_,rfl⟩
   rw [hcm] at g45
   clear hc1
   obtain ⟨j,hj⟩:∃ j,i+1=j:=⟨_,rfl⟩
   have hij:(i:Int)+1=(j:Int):=by omega
   rw [hj] at HD
   by_cases he:j=s.size
   · have HN:Hid (NumAt (s.data.toList.drop i) i 0 0 ((2:Nat):Int)):=by show NumAt _ _ _ _ _;rw [HD.out,List.drop_of_length_le (by omega)];exact na_short'
     have h1:((j:Int) == (s.size:Int))=true:=by rw [beq_iff_eq];omega
     go_enter Tryz.func179,Tryz.ntmps179
     go_wp2_with fail
     go_ret3
     exact ⟨_,_,_,rfl,HN.out,rfl⟩
   · have h1:((j:Int) == (s.size:Int))=false:=by rw [beq_eq_false_iff_ne];omega
     have hI:j<s.size:=by omega
     go_enter Tryz.func179,Tryz.ntmps179
     go_wp2_with fail
     go_loop [8,9] (fun K N=>∃ k n:Nat,j≤k∧k≤s.size∧K=.int .i64 (k:Int)∧N=.int .i64 (n:Int)∧n≤90071992547409929∧k - j≤tw (s.data.toList.drop j)∧min n 9007199254740993=sat ((s.data.toList.drop j).take (k - j))) (fun K _=>s.size - (intOf K).toNat)
     case atStart=>exact ⟨j,0,Nat.le_refl _,by omega,by go_num,rfl,by omega,by omega,by rw [Nat.sub_self];rfl⟩
     case round =>
      obtain ⟨k,n,hk1,hk2,rfl,rfl,hn,htw,hsat⟩:=hrel
      by_cases hgo:∃ h:k<s.size,dg s[k]=true
      · obtain ⟨hlt,hd⟩:=hgo
        obtain ⟨b1,b2⟩:48≤s[k].toNat∧s[k].toNat≤57:=of_decide_eq_true hd
        have HT:=qq (dl_yes s hk1 hlt htw hd)
        have HS:Hid (min (grow n (s[k].toNat - 48)) 9007199254740993=sat ((s.data.toList.drop j).take (k+1 - j))):=by show _=_;rw [dl_sat s hk1 hlt];exact grow_sat hsat
        have hg:=grow_le hn (show s[k].toNat - 48≤9 by omega)
        clear hd htw hsat
        obtain ⟨c,hc⟩:∃ c:UInt8,s[k]=c:=⟨_,rfl⟩
        rw [hc] at b1 b2 HS hg
        by_cases hbig:n≤9007199254740992
        · have HG:Hid ((n:Int) * 10+(c.toNat:Int) - 48=((grow n (c.toNat - 48):Nat):Int)):=by show _=_;unfold grow;rw [if_pos hbig];omega
          go_wp2_with fail
          go_round
          case rel=>exact ⟨k+1,grow n (c.toNat - 48),by omega,by omega,by go_num,congrArg (Value.int .i64) HG.out,hg,HT.out,HS.out⟩
          case measure=>simp [intOf];omega
        · have HG:Hid (n=grow n (c.toNat - 48)):=by show _=_;unfold grow;rw [if_neg hbig]
          go_wp2_with fail
          go_round
          case rel=>exact ⟨k+1,n,by omega,by omega,by go_num,rfl,hn,HT.out,by rw [← HS.out,← HG.out]⟩
          case measure=>simp [intOf];omega
      · have HK:Hid (tw (s.data.toList.drop j)=k - j):=by
         show _=_
         by_cases hlt:k<s.size
         · exact dl_no s hk1 hlt htw (by
            rcases Bool.eq_false_or_eq_true (dg s[k]) with e | e
            · exact absurd ⟨hlt,e⟩ hgo
            · exact e)
         · have:=tw_le (s.data.toList.drop j)
           rw [dl_len] at this;omega
        have HS:Hid (min n 9007199254740993=sat ((s.data.toList.drop j).take (tw (s.data.toList.drop j)))):=by show _=_;rw [HK.out];exact hsat
        have hend:¬ (k<s.size)∨(∃ h:k<s.size,¬ 48≤s[k].toNat)∨(∃ h:k<s.size,48≤s[k].toNat∧57<s[k].toNat):=by
         by_cases hlt:k<s.size
         · have h1:¬ (48≤s[k].toNat∧s[k].toNat≤57):=fun h=>hgo ⟨hlt,decide_eq_true h⟩
           by_cases h2:48≤s[k].toNat
           · exact .inr (.inr ⟨hlt,h2,by omega⟩)
           · exact .inr (.inl ⟨hlt,h2⟩)
         · exact .inl hlt
        have HHD:=qq (dl_head s hI)
        have HNE:Hid (s.data.toList.drop j ≠ []):=by show _ ≠ _;rw [drop_at s hI];exact List.cons_ne_nil _ _
        obtain ⟨c0,hc0⟩:∃ c:UInt8,s[j]'hI=c:=⟨_,rfl⟩
        rw [hc0] at HHD
        clear hgo htw hsat
        by_cases hk0:k=j
        · have HN:Hid (NumAt (s.data.toList.drop i) i 0 0 ((6:Nat):Int)):=by
           show NumAt _ _ _ _ _
           rw [HD.out];exact na_form' HNE.out (.inl (by rw [HK.out];omega))
          clear HK HS HHD HNE hc0
          subst hk0
          rcases hend with hni | ⟨hlt,b1⟩ | ⟨hlt,b1,b2⟩
          · exact absurd hI (by omega)
          all_goals
           go_wp2_with fail
           go_ret3
           exact ⟨_,_,_,rfl,HN.out,rfl⟩
        · have e0:((k:Int) == (j:Int))=false:=by rw [beq_eq_false_iff_ne];omega
          by_cases h48:c0=48
          · have e48:((c0.toNat:Int) == 48)=true:=by rw [h48];rfl
            have HN:Hid (NumAt (s.data.toList.drop i) i 0 0 ((6:Nat):Int)):=by
             show NumAt _ _ _ _ _
             rw [HD.out];exact na_form' HNE.out (.inr (by rw [HHD.out,h48]))
            clear HK HS HHD HNE h48
            rcases hend with hni | ⟨hlt,b1⟩ | ⟨hlt,b1,b2⟩
            all_goals
             go_wp2_with fail
             all_goals
              go_ret3
              exact ⟨_,_,_,rfl,HN.out,rfl⟩
          · have e48:((c0.toNat:Int) == 48)=false:=by
             rw [beq_eq_false_iff_ne]
             intro e
             exact h48 (UInt8.toNat_inj.1 (show c0.toNat=48 by omega))
            have HN:Hid (NumAt (s.data.toList.drop i) i (-(n:Int)) (k:Int) 0):=by
             show NumAt _ _ _ _ _
             rw [HD.out,show (k:Int)=((i+1+tw (s.data.toList.drop j):Nat):Int) by rw [HK.out];omega];exact na_ok' HNE.out (fun h=>h.elim (fun h=>by rw [HK.out] at h;omega) (fun h=>by rw [HHD.out] at h;exact h48 (Option.some.inj h))) HS.out hn
            clear HK HS HHD HNE h48
            rcases hend with hni | ⟨hlt,b1⟩ | ⟨hlt,b1,b2⟩
            all_goals
             go_wp2_with fail
             all_goals
              go_ret3
              exact ⟨_,_,_,rfl,HN.out,rfl⟩
 · have HNM:Hid ((s.data.toList.drop i).head? ≠ some 45):=by
    show _ ≠ _
    by_cases h:i<s.size
    · rw [dl_head s h];exact fun e=>hb ⟨h,Option.some.inj e⟩
    · rw [List.drop_of_length_le (by omega)];exact fun e=>by simp at e
   by_cases he:i=s.size
   · have HN:Hid (NumAt (s.data.toList.drop i) i 0 0 ((2:Nat):Int)):=by show NumAt _ _ _ _ _;rw [List.drop_of_length_le (by omega)];exact na_short
     clear hb
     subst he
     go_enter Tryz.func179,Tryz.ntmps179
     go_wp2_with fail
     go_ret3
     exact ⟨_,_,_,rfl,HN.out,rfl⟩
   · have h1:((i:Int) == (s.size:Int))=false:=by rw [beq_eq_false_iff_ne];omega
     have hI:i<s.size:=by omega
     have g45:((s[i].toNat:Int) == 45)=false:=by
      rw [beq_eq_false_iff_ne]
      intro e
      exact hb ⟨hI,UInt8.toNat_inj.1 (show s[i].toNat=45 by omega)⟩
     obtain ⟨c0,hc0⟩:∃ c:UInt8,s[i]=c:=⟨_,rfl⟩
     rw [hc0] at g45
     clear hb
     go_enter Tryz.func179,Tryz.ntmps179
     go_wp2_with fail
     go_loop [8,9] (fun K N=>∃ k n:Nat,i≤k∧k≤s.size∧K=.int .i64 (k:Int)∧N=.int .i64 (n:Int)∧n≤90071992547409929∧k - i≤tw (s.data.toList.drop i)∧min n 9007199254740993=sat ((s.data.toList.drop i).take (k - i))) (fun K _=>s.size - (intOf K).toNat)
     case atStart=>exact ⟨i,0,Nat.le_refl _,by omega,by go_num,rfl,by omega,by omega,by rw [Nat.sub_self];rfl⟩
     case round =>
      obtain ⟨k,n,hk1,hk2,rfl,rfl,hn,htw,hsat⟩:=hrel
      by_cases hgo:∃ h:k<s.size,dg s[k]=true
      · obtain ⟨hlt,hd⟩:=hgo
        obtain ⟨b1,b2⟩:48≤s[k].toNat∧s[k].toNat≤57:=of_decide_eq_true hd
        have HT:=qq (dl_yes s hk1 hlt htw hd)
        have HS:Hid (min (grow n (s[k].toNat - 48)) 9007199254740993=sat ((s.data.toList.drop i).take (k+1 - i))):=by show _=_;rw [dl_sat s hk1 hlt];exact grow_sat hsat
        have hg:=grow_le hn (show s[k].toNat - 48≤9 by omega)
        clear hd htw hsat
        obtain ⟨c,hc⟩:∃ c:UInt8,s[k]=c:=⟨_,rfl⟩
        rw [hc] at b1 b2 HS hg
        by_cases hbig:n≤9007199254740992
        · have HG:Hid ((n:Int) * 10+(c.toNat:Int) - 48=((grow n (c.toNat - 48):Nat):Int)):=by show _=_;unfold grow;rw [if_pos hbig];omega
          go_wp2_with fail
          go_round
          case rel=>exact ⟨k+1,grow n (c.toNat - 48),by omega,by omega,by go_num,congrArg (Value.int .i64) HG.out,hg,HT.out,HS.out⟩
          case measure=>simp [intOf];omega
        · have HG:Hid (n=grow n (c.toNat - 48)):=by show _=_;unfold grow;rw [if_neg hbig]
          go_wp2_with fail
          go_round
          case rel=>exact ⟨k+1,n,by omega,by omega,by go_num,rfl,hn,HT.out,by rw [← HS.out,← HG.out]⟩
          case measure=>simp [intOf];omega
      · have HK:Hid (tw (s.data.toList.drop i)=k - i):=by
         show _=_
         by_cases hlt:k<s.size
         · exact dl_no s hk1 hlt htw (by
            rcases Bool.eq_false_or_eq_true (dg s[k]) with e | e
            · exact absurd ⟨hlt,e⟩ hgo
            · exact e)
         · have:=tw_le (s.data.toList.drop i)
           rw [dl_len] at this;omega
        have HS:Hid (min n 9007199254740993=sat ((s.data.toList.drop i).take (tw (s.data.toList.drop i)))):=by show _=_;rw [HK.out];exact hsat
        have hend:¬ (k<s.size)∨(∃ h:k<s.size,¬ 48≤s[k].toNat)∨(∃ h:k<s.size,48≤s[k].toNat∧57<s[k].toNat):=by
         by_cases hlt:k<s.size
         · have h1:¬ (48≤s[k].toNat∧s[k].toNat≤57):=fun h=>hgo ⟨hlt,decide_eq_true h⟩
           by_cases h2:48≤s[k].toNat
           · exact .inr (.inr ⟨hlt,h2,by omega⟩)
           · exact .inr (.inl ⟨hlt,h2⟩)
         · exact .inl hlt
        have HHD:=qq (dl_head s hI)
        have HNE:Hid (s.data.toList.drop i ≠ []):=by show _ ≠ _;rw [drop_at s hI];exact List.cons_ne_nil _ _
        rw [hc0] at HHD
        clear hgo htw hsat
        by_cases hk0:k=i
        · have HN:Hid (NumAt (s.data.toList.drop i) i 0 0 ((6:Nat):Int)):=by
           show NumAt _ _ _ _ _
           exact na_form HNE.out HNM.out (.inl (by rw [HK.out];omega))
          clear HK HS HHD HNE hc0
          subst hk0
          rcases hend with hni | ⟨hlt,b1⟩ | ⟨hlt,b1,b2⟩
          · exact absurd hI (by omega)
          all_goals
           go_wp2_with fail
           go_ret3
           exact ⟨_,_,_,rfl,HN.out,rfl⟩
        · have e0:((k:Int) == (i:Int))=false:=by rw [beq_eq_false_iff_ne];omega
          by_cases h48:c0=48
          · have e48:((c0.toNat:Int) == 48)=true:=by rw [h48];rfl
            by_cases h1:i+1<k
            · have e1:(i:Int)+1<(k:Int):=by omega
              have HN:Hid (NumAt (s.data.toList.drop i) i 0 0 ((6:Nat):Int)):=by
               show NumAt _ _ _ _ _
               exact na_form HNE.out HNM.out (.inr ⟨by rw [HK.out];omega,by rw [HHD.out,h48]⟩)
              clear HK HS HHD HNE h48
              rcases hend with hni | ⟨hlt,b1⟩ | ⟨hlt,b1,b2⟩
              all_goals
               go_wp2_with fail
               all_goals
                go_ret3
                exact ⟨_,_,_,rfl,HN.out,rfl⟩
            · have e1:¬ (i:Int)+1<(k:Int):=by omega
              have HN:Hid (NumAt (s.data.toList.drop i) i (n:Int) (k:Int) 0):=by
               show NumAt _ _ _ _ _
               rw [show (k:Int)=((i+tw (s.data.toList.drop i):Nat):Int) by rw [HK.out];omega];exact na_ok HNE.out HNM.out (fun h=>h.elim (fun h=>by rw [HK.out] at h;omega) (fun h=>by have:=h.1;rw [HK.out] at this;omega)) HS.out hn
              clear HK HS HHD HNE h48
              rcases hend with hni | ⟨hlt,b1⟩ | ⟨hlt,b1,b2⟩
              all_goals
               go_wp2_with fail
               all_goals
                go_ret3
                exact ⟨_,_,_,rfl,HN.out,rfl⟩
          · have e48:((c0.toNat:Int) == 48)=false:=by
             rw [beq_eq_false_iff_ne]
             intro e
             exact h48 (UInt8.toNat_inj.1 (show c0.toNat=48 by omega))
            have HN:Hid (NumAt (s.data.toList.drop i) i (n:Int) (k:Int) 0):=by
             show NumAt _ _ _ _ _
             rw [show (k:Int)=((i+tw (s.data.toList.drop i):Nat):Int) by rw [HK.out];omega];exact na_ok HNE.out HNM.out (fun h=>h.elim (fun h=>by rw [HK.out] at h;omega) (fun h=>by have:=h.2;rw [HHD.out] at this;exact h48 (Option.some.inj this))) HS.out hn
            clear HK HS HHD HNE h48
            rcases hend with hni | ⟨hlt,b1⟩ | ⟨hlt,b1,b2⟩
            all_goals
             go_wp2_with fail
             all_goals
              go_ret3
              exact ⟨_,_,_,rfl,HN.out,rfl⟩
end Go.Proofs.YtgakcpcpfkoaiaaGreatDoor.Ev

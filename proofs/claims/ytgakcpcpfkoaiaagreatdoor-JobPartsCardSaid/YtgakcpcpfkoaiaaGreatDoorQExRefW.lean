/-
  A text of this claim: ExRefW.
-/
import Derived.Test.YtgakcpcpfkoaiaaGreatDoorQ1
set_option maxHeartbeats 4000000
set_option maxRecDepth 100000
namespace Go.Proofs.YtgakcpcpfkoaiaaGreatDoor.Ex
open Go.ChangeShapes Go.WideShapes Go.ChangeAt Go.RowKit Ov Va
theorem word_var {i:Nat} (h:i<28) (w:World):Calls Tryz.prog 110 #[.int .i64 ((i:Int)+2)] w (Gives (.string (tx wdl[i+2]!)) w):=by
 have g1:¬ (i:Int)+2<2:=by omega
 have g2:¬ 29<(i:Int)+2:=by omega
 have g3:wrap64 ((i:Int)+2 - 2)=(i:Int):=by rw [show (i:Int)+2 - 2=(i:Int) by omega];unfold wrap64;omega
 have g4:(i:Int)<28:=by omega
 obtain ⟨t,ht⟩:∃ t,wdl[i+2]! = t:=⟨_,rfl⟩
 rw [ht]
 have HT:=qq ht
 clear ht
 go_enter Tryz.func110,Tryz.ntmps110
 go_wp2_with fail
 go_ret
 refine ⟨?_,box1 w _⟩
 show Ending.returned (((wdl.drop 2).map fun t=>Value.string (tx t))[i]'(by rw [List.length_map,List.length_drop];exact h))=_
 have hw:i+2<wdl.length:=by show i+2<30;omega
 have e:wdl[i+2]! = wdl[2+i]'(by omega):=by
  rw [List.getElem!_eq_getElem?_getD,List.getElem?_eq_getElem hw,Option.getD_some]
  simp only [Nat.add_comm]
 rw [← HT.out,e,List.getElem_map,List.getElem_drop]
theorem word_2 (w:World):Calls Tryz.prog 110 #[.int .i64 2] w (Gives (.string ⟨#[97,100,100]⟩) w):=word_var (i:=0) (by decide) w
theorem word_3 (w:World):Calls Tryz.prog 110 #[.int .i64 3] w (Gives (.string ⟨#[115,117,98]⟩) w):=word_var (i:=1) (by decide) w
theorem word_4 (w:World):Calls Tryz.prog 110 #[.int .i64 4] w (Gives (.string ⟨#[109,117,108]⟩) w):=word_var (i:=2) (by decide) w
theorem word_5 (w:World):Calls Tryz.prog 110 #[.int .i64 5] w (Gives (.string ⟨#[100,105,118]⟩) w):=word_var (i:=3) (by decide) w
theorem word_6 (w:World):Calls Tryz.prog 110 #[.int .i64 6] w (Gives (.string ⟨#[109,111,100]⟩) w):=word_var (i:=4) (by decide) w
theorem word_7 (w:World):Calls Tryz.prog 110 #[.int .i64 7] w (Gives (.string ⟨#[110,101,103]⟩) w):=word_var (i:=5) (by decide) w
theorem word_8 (w:World):Calls Tryz.prog 110 #[.int .i64 8] w (Gives (.string ⟨#[108,101,115,115]⟩) w):=word_var (i:=6) (by decide) w
theorem word_9 (w:World):Calls Tryz.prog 110 #[.int .i64 9] w (Gives (.string ⟨#[115,97,109,101]⟩) w):=word_var (i:=7) (by decide) w
theorem word_10 (w:World):Calls Tryz.prog 110 #[.int .i64 10] w (Gives (.string ⟨#[110,111,116]⟩) w):=word_var (i:=8) (by decide) w
theorem word_11 (w:World):Calls Tryz.prog 110 #[.int .i64 11] w (Gives (.string ⟨#[105,102]⟩) w):=word_var (i:=9) (by decide) w
theorem word_12 (w:World):Calls Tryz.prog 110 #[.int .i64 12] w (Gives (.string ⟨#[109,97,120]⟩) w):=word_var (i:=10) (by decide) w
theorem word_13 (w:World):Calls Tryz.prog 110 #[.int .i64 13] w (Gives (.string ⟨#[109,105,110]⟩) w):=word_var (i:=11) (by decide) w
theorem word_14 (w:World):Calls Tryz.prog 110 #[.int .i64 14] w (Gives (.string ⟨#[99,97,116]⟩) w):=word_var (i:=12) (by decide) w
theorem word_15 (w:World):Calls Tryz.prog 110 #[.int .i64 15] w (Gives (.string ⟨#[108,101,110]⟩) w):=word_var (i:=13) (by decide) w
theorem word_16 (w:World):Calls Tryz.prog 110 #[.int .i64 16] w (Gives (.string ⟨#[99,117,116]⟩) w):=word_var (i:=14) (by decide) w
theorem word_17 (w:World):Calls Tryz.prog 110 #[.int .i64 17] w (Gives (.string ⟨#[119,111,114,100]⟩) w):=word_var (i:=15) (by decide) w
theorem word_18 (w:World):Calls Tryz.prog 110 #[.int .i64 18] w (Gives (.string ⟨#[119,111,114,100,115]⟩) w):=word_var (i:=16) (by decide) w
theorem word_19 (w:World):Calls Tryz.prog 110 #[.int .i64 19] w (Gives (.string ⟨#[110,117,109]⟩) w):=word_var (i:=17) (by decide) w
theorem word_20 (w:World):Calls Tryz.prog 110 #[.int .i64 20] w (Gives (.string ⟨#[116,101,120,116]⟩) w):=word_var (i:=18) (by decide) w
theorem word_21 (w:World):Calls Tryz.prog 110 #[.int .i64 21] w (Gives (.string ⟨#[97,116]⟩) w):=word_var (i:=19) (by decide) w
theorem word_22 (w:World):Calls Tryz.prog 110 #[.int .i64 22] w (Gives (.string ⟨#[114,101]⟩) w):=word_var (i:=20) (by decide) w
theorem word_23 (w:World):Calls Tryz.prog 110 #[.int .i64 23] w (Gives (.string ⟨#[105,109]⟩) w):=word_var (i:=21) (by decide) w
theorem word_24 (w:World):Calls Tryz.prog 110 #[.int .i64 24] w (Gives (.string ⟨#[110,111,114,109]⟩) w):=word_var (i:=22) (by decide) w
theorem word_25 (w:World):Calls Tryz.prog 110 #[.int .i64 25] w (Gives (.string ⟨#[99,111,110,106]⟩) w):=word_var (i:=23) (by decide) w
theorem word_26 (w:World):Calls Tryz.prog 110 #[.int .i64 26] w (Gives (.string ⟨#[101,109,105,116]⟩) w):=word_var (i:=24) (by decide) w
theorem word_27 (w:World):Calls Tryz.prog 110 #[.int .i64 27] w (Gives (.string ⟨#[116,104,101,110]⟩) w):=word_var (i:=25) (by decide) w
theorem word_28 (w:World):Calls Tryz.prog 110 #[.int .i64 28] w (Gives (.string ⟨#[101,97,99,104]⟩) w):=word_var (i:=26) (by decide) w
theorem word_29 (w:World):Calls Tryz.prog 110 #[.int .i64 29] w (Gives (.string ⟨#[108,101,116]⟩) w):=word_var (i:=27) (by decide) w
theorem word_out {o:Int} (h:o<2∨29<o) (w:World):Calls Tryz.prog 110 #[.int .i64 o] w (Gives (.string ⟨#[]⟩) w):=by
 by_cases h1:o<2
 · go_enter Tryz.func110,Tryz.ntmps110
   go_wp2_with fail
   go_ret
   exact ⟨rfl,Below.refl _ _⟩
 · have h2:29<o:=by omega
   clear h
   go_enter Tryz.func110,Tryz.ntmps110
   go_wp2_with fail
   go_ret
   exact ⟨rfl,Below.refl _ _⟩
theorem kind_each {p:Int→Prop} (h:∀ o,o<2∨29<o→p o) (h2:p 2) (h3:p 3) (h4:p 4) (h5:p 5) (h6:p 6) (h7:p 7) (h8:p 8) (h9:p 9) (h10:p 10) (h11:p 11) (h12:p 12) (h13:p 13) (h14:p 14) (h15:p 15) (h16:p 16) (h17:p 17) (h18:p 18) (h19:p 19) (h20:p 20) (h21:p 21) (h22:p 22) (h23:p 23) (h24:p 24) (h25:p 25) (h26:p 26) (h27:p 27) (h28:p 28) (h29:p 29) (o:Int):p o:=by
 by_cases ho:o<2∨29<o
 · exact h o ho
 by_cases e2:o=2
 · rw [e2];exact h2
 by_cases e3:o=3
 · rw [e3];exact h3
 by_cases e4:o=4
 · rw [e4];exact h4
 by_cases e5:o=5
 · rw [e5];exact h5
 by_cases e6:o=6
 · rw [e6];exact h6
 by_cases e7:o=7
 · rw [e7];exact h7
 by_cases e8:o=8
 · rw [e8];exact h8
 by_cases e9:o=9
 · rw [e9];exact h9
 by_cases e10:o=10
 · rw [e10];exact h10
 by_cases e11:o=11
 · rw [e11];exact h11
 by_cases e12:o=12
 · rw [e12];exact h12
 by_cases e13:o=13
 · rw [e13];exact h13
 by_cases e14:o=14
 · rw [e14];exact h14
 by_cases e15:o=15
 · rw [e15];exact h15
 by_cases e16:o=16
 · rw [e16];exact h16
 by_cases e17:o=17
 · rw [e17];exact h17
 by_cases e18:o=18
 · rw [e18];exact h18
 by_cases e19:o=19
 · rw [e19];exact h19
 by_cases e20:o=20
 · rw [e20];exact h20
 by_cases e21:o=21
 · rw [e21];exact h21
 by_cases e22:o=22
 · rw [e22];exact h22
 by_cases e23:o=23
 · rw [e23];exact h23
 by_cases e24:o=24
 · rw [e24];exact h24
 by_cases e25:o=25
 · rw [e25];exact h25
 by_cases e26:o=26
 · rw [e26];exact h26
 by_cases e27:o=27
 · rw [e27];exact h27
 by_cases e28:o=28
 · rw [e28];exact h28
 by_cases e29:o=29
 · rw [e29];exact h29
 omega
theorem word_any (o:Int):∀ w:World,Calls Tryz.prog 110 #[.int .i64 o] w (Gives (.string (tx (wd o))) w) :=
 kind_each (p:=fun o=>∀ w:World,Calls Tryz.prog 110 #[.int .i64 o] w (Gives (.string (tx (wd o))) w)) (fun o h w=>by rw [(kind_out (by omega)).1];exact word_out h w) word_2 word_3 word_4 word_5 word_6 word_7 word_8 word_9 word_10 word_11 word_12 word_13 word_14 word_15 word_16 word_17 word_18 word_19 word_20 word_21 word_22 word_23 word_24 word_25 word_26 word_27 word_28 word_29 o
theorem parts_2 (w:World):Calls Tryz.prog 60 #[.int .i64 2] w (Gives (.int .i64 2) w):=by
 go_enter Tryz.func60,Tryz.ntmps60
 go_wp2_with fail
 refine (word_2 _).mono ?_
 rintro e w1 ⟨rfl,hb⟩
 have HB:=qq hb;clear hb
 go_wp2_with fail
 go_ret
 exact ⟨rfl,HB.out⟩
theorem parts_3 (w:World):Calls Tryz.prog 60 #[.int .i64 3] w (Gives (.int .i64 2) w):=by
 go_enter Tryz.func60,Tryz.ntmps60
 go_wp2_with fail
 refine (word_3 _).mono ?_
 rintro e w1 ⟨rfl,hb⟩
 have HB:=qq hb;clear hb
 go_wp2_with fail
 go_ret
 exact ⟨rfl,HB.out⟩
theorem parts_4 (w:World):Calls Tryz.prog 60 #[.int .i64 4] w (Gives (.int .i64 2) w):=by
 go_enter Tryz.func60,Tryz.ntmps60
 go_wp2_with fail
 refine (word_4 _).mono ?_
 rintro e w1 ⟨rfl,hb⟩
 have HB:=qq hb;clear hb
 go_wp2_with fail
 go_ret
 exact ⟨rfl,HB.out⟩
theorem parts_5 (w:World):Calls Tryz.prog 60 #[.int .i64 5] w (Gives (.int .i64 2) w):=by
 go_enter Tryz.func60,Tryz.ntmps60
 go_wp2_with fail
 refine (word_5 _).mono ?_
 rintro e w1 ⟨rfl,hb⟩
 have HB:=qq hb;clear hb
 go_wp2_with fail
 go_ret
 exact ⟨rfl,HB.out⟩
theorem parts_6 (w:World):Calls Tryz.prog 60 #[.int .i64 6] w (Gives (.int .i64 2) w):=by
 go_enter Tryz.func60,Tryz.ntmps60
 go_wp2_with fail
 refine (word_6 _).mono ?_
 rintro e w1 ⟨rfl,hb⟩
 have HB:=qq hb;clear hb
 go_wp2_with fail
 go_ret
 exact ⟨rfl,HB.out⟩
theorem parts_7 (w:World):Calls Tryz.prog 60 #[.int .i64 7] w (Gives (.int .i64 1) w):=by
 go_enter Tryz.func60,Tryz.ntmps60
 go_wp2_with fail
 refine (word_7 _).mono ?_
 rintro e w1 ⟨rfl,hb⟩
 have HB:=qq hb;clear hb
 go_wp2_with fail
 go_ret
 exact ⟨rfl,HB.out⟩
theorem parts_8 (w:World):Calls Tryz.prog 60 #[.int .i64 8] w (Gives (.int .i64 2) w):=by
 go_enter Tryz.func60,Tryz.ntmps60
 go_wp2_with fail
 refine (word_8 _).mono ?_
 rintro e w1 ⟨rfl,hb⟩
 have HB:=qq hb;clear hb
 go_wp2_with fail
 go_ret
 exact ⟨rfl,HB.out⟩
theorem parts_9 (w:World):Calls Tryz.prog 60 #[.int .i64 9] w (Gives (.int .i64 2) w):=by
 go_enter Tryz.func60,Tryz.ntmps60
 go_wp2_with fail
 refine (word_9 _).mono ?_
 rintro e w1 ⟨rfl,hb⟩
 have HB:=qq hb;clear hb
 go_wp2_with fail
 go_ret
 exact ⟨rfl,HB.out⟩
theorem parts_10 (w:World):Calls Tryz.prog 60 #[.int .i64 10] w (Gives (.int .i64 1) w):=by
 go_enter Tryz.func60,Tryz.ntmps60
 go_wp2_with fail
 refine (word_10 _).mono ?_
 rintro e w1 ⟨rfl,hb⟩
 have HB:=qq hb;clear hb
 go_wp2_with fail
 go_ret
 exact ⟨rfl,HB.out⟩
theorem parts_11 (w:World):Calls Tryz.prog 60 #[.int .i64 11] w (Gives (.int .i64 3) w):=by
 go_enter Tryz.func60,Tryz.ntmps60
 go_wp2_with fail
 refine (word_11 _).mono ?_
 rintro e w1 ⟨rfl,hb⟩
 have HB:=qq hb;clear hb
 go_wp2_with fail
 go_ret
 exact ⟨rfl,HB.out⟩
theorem parts_12 (w:World):Calls Tryz.prog 60 #[.int .i64 12] w (Gives (.int .i64 2) w):=by
 go_enter Tryz.func60,Tryz.ntmps60
 go_wp2_with fail
 refine (word_12 _).mono ?_
 rintro e w1 ⟨rfl,hb⟩
 have HB:=qq hb;clear hb
 go_wp2_with fail
 go_ret
 exact ⟨rfl,HB.out⟩
theorem parts_13 (w:World):Calls Tryz.prog 60 #[.int .i64 13] w (Gives (.int .i64 2) w):=by
 go_enter Tryz.func60,Tryz.ntmps60
 go_wp2_with fail
 refine (word_13 _).mono ?_
 rintro e w1 ⟨rfl,hb⟩
 have HB:=qq hb;clear hb
 go_wp2_with fail
 go_ret
 exact ⟨rfl,HB.out⟩
theorem parts_14 (w:World):Calls Tryz.prog 60 #[.int .i64 14] w (Gives (.int .i64 2) w):=by
 go_enter Tryz.func60,Tryz.ntmps60
 go_wp2_with fail
 refine (word_14 _).mono ?_
 rintro e w1 ⟨rfl,hb⟩
 have HB:=qq hb;clear hb
 go_wp2_with fail
 go_ret
 exact ⟨rfl,HB.out⟩
theorem parts_15 (w:World):Calls Tryz.prog 60 #[.int .i64 15] w (Gives (.int .i64 1) w):=by
 go_enter Tryz.func60,Tryz.ntmps60
 go_wp2_with fail
 refine (word_15 _).mono ?_
 rintro e w1 ⟨rfl,hb⟩
 have HB:=qq hb;clear hb
 go_wp2_with fail
 go_ret
 exact ⟨rfl,HB.out⟩
theorem parts_16 (w:World):Calls Tryz.prog 60 #[.int .i64 16] w (Gives (.int .i64 3) w):=by
 go_enter Tryz.func60,Tryz.ntmps60
 go_wp2_with fail
 refine (word_16 _).mono ?_
 rintro e w1 ⟨rfl,hb⟩
 have HB:=qq hb;clear hb
 go_wp2_with fail
 go_ret
 exact ⟨rfl,HB.out⟩
theorem parts_17 (w:World):Calls Tryz.prog 60 #[.int .i64 17] w (Gives (.int .i64 2) w):=by
 go_enter Tryz.func60,Tryz.ntmps60
 go_wp2_with fail
 refine (word_17 _).mono ?_
 rintro e w1 ⟨rfl,hb⟩
 have HB:=qq hb;clear hb
 go_wp2_with fail
 go_ret
 exact ⟨rfl,HB.out⟩
theorem parts_18 (w:World):Calls Tryz.prog 60 #[.int .i64 18] w (Gives (.int .i64 1) w):=by
 go_enter Tryz.func60,Tryz.ntmps60
 go_wp2_with fail
 refine (word_18 _).mono ?_
 rintro e w1 ⟨rfl,hb⟩
 have HB:=qq hb;clear hb
 go_wp2_with fail
 go_ret
 exact ⟨rfl,HB.out⟩
theorem parts_19 (w:World):Calls Tryz.prog 60 #[.int .i64 19] w (Gives (.int .i64 1) w):=by
 go_enter Tryz.func60,Tryz.ntmps60
 go_wp2_with fail
 refine (word_19 _).mono ?_
 rintro e w1 ⟨rfl,hb⟩
 have HB:=qq hb;clear hb
 go_wp2_with fail
 go_ret
 exact ⟨rfl,HB.out⟩
theorem parts_20 (w:World):Calls Tryz.prog 60 #[.int .i64 20] w (Gives (.int .i64 1) w):=by
 go_enter Tryz.func60,Tryz.ntmps60
 go_wp2_with fail
 refine (word_20 _).mono ?_
 rintro e w1 ⟨rfl,hb⟩
 have HB:=qq hb;clear hb
 go_wp2_with fail
 go_ret
 exact ⟨rfl,HB.out⟩
theorem parts_21 (w:World):Calls Tryz.prog 60 #[.int .i64 21] w (Gives (.int .i64 2) w):=by
 go_enter Tryz.func60,Tryz.ntmps60
 go_wp2_with fail
 refine (word_21 _).mono ?_
 rintro e w1 ⟨rfl,hb⟩
 have HB:=qq hb;clear hb
 go_wp2_with fail
 go_ret
 exact ⟨rfl,HB.out⟩
theorem parts_22 (w:World):Calls Tryz.prog 60 #[.int .i64 22] w (Gives (.int .i64 1) w):=by
 go_enter Tryz.func60,Tryz.ntmps60
 go_wp2_with fail
 refine (word_22 _).mono ?_
 rintro e w1 ⟨rfl,hb⟩
 have HB:=qq hb;clear hb
 go_wp2_with fail
 go_ret
 exact ⟨rfl,HB.out⟩
theorem parts_23 (w:World):Calls Tryz.prog 60 #[.int .i64 23] w (Gives (.int .i64 1) w):=by
 go_enter Tryz.func60,Tryz.ntmps60
 go_wp2_with fail
 refine (word_23 _).mono ?_
 rintro e w1 ⟨rfl,hb⟩
 have HB:=qq hb;clear hb
 go_wp2_with fail
 go_ret
 exact ⟨rfl,HB.out⟩
theorem parts_24 (w:World):Calls Tryz.prog 60 #[.int .i64 24] w (Gives (.int .i64 1) w):=by
 go_enter Tryz.func60,Tryz.ntmps60
 go_wp2_with fail
 refine (word_24 _).mono ?_
 rintro e w1 ⟨rfl,hb⟩
 have HB:=qq hb;clear hb
 go_wp2_with fail
 go_ret
 exact ⟨rfl,HB.out⟩
theorem parts_25 (w:World):Calls Tryz.prog 60 #[.int .i64 25] w (Gives (.int .i64 1) w):=by
 go_enter Tryz.func60,Tryz.ntmps60
 go_wp2_with fail
 refine (word_25 _).mono ?_
 rintro e w1 ⟨rfl,hb⟩
 have HB:=qq hb;clear hb
 go_wp2_with fail
 go_ret
 exact ⟨rfl,HB.out⟩
theorem parts_26 (w:World):Calls Tryz.prog 60 #[.int .i64 26] w (Gives (.int .i64 2) w):=by
 go_enter Tryz.func60,Tryz.ntmps60
 go_wp2_with fail
 refine (word_26 _).mono ?_
 rintro e w1 ⟨rfl,hb⟩
 have HB:=qq hb;clear hb
 go_wp2_with fail
 go_ret
 exact ⟨rfl,HB.out⟩
theorem parts_27 (w:World):Calls Tryz.prog 60 #[.int .i64 27] w (Gives (.int .i64 2) w):=by
 go_enter Tryz.func60,Tryz.ntmps60
 go_wp2_with fail
 refine (word_27 _).mono ?_
 rintro e w1 ⟨rfl,hb⟩
 have HB:=qq hb;clear hb
 go_wp2_with fail
 go_ret
 exact ⟨rfl,HB.out⟩
theorem parts_28 (w:World):Calls Tryz.prog 60 #[.int .i64 28] w (Gives (.int .i64 2) w):=by
 go_enter Tryz.func60,Tryz.ntmps60
 go_wp2_with fail
 refine (word_28 _).mono ?_
 rintro e w1 ⟨rfl,hb⟩
 have HB:=qq hb;clear hb
 go_wp2_with fail
 go_ret
 exact ⟨rfl,HB.out⟩
theorem parts_29 (w:World):Calls Tryz.prog 60 #[.int .i64 29] w (Gives (.int .i64 2) w):=by
 go_enter Tryz.func60,Tryz.ntmps60
 go_wp2_with fail
 refine (word_29 _).mono ?_
 rintro e w1 ⟨rfl,hb⟩
 have HB:=qq hb;clear hb
 go_wp2_with fail
 go_ret
 exact ⟨rfl,HB.out⟩
theorem parts_out {o:Int} (h:o<2∨29<o) (w:World):Calls Tryz.prog 60 #[.int .i64 o] w (Gives (.int .i64 0) w):=by
 have HW:=qq (word_out h w)
 clear h
 go_enter Tryz.func60,Tryz.ntmps60
 go_wp2_with fail
 refine HW.out.mono ?_
 rintro e w1 ⟨rfl,hb⟩
 have HB:=qq hb;clear hb
 go_wp2_with fail
 go_ret
 exact ⟨rfl,HB.out⟩
theorem rparts_any (o:Int):∀ w:World,Calls Tryz.prog 60 #[.int .i64 o] w (Gives (.int .i64 ((pa o:Nat):Int)) w) :=
 kind_each (p:=fun o=>∀ w:World,Calls Tryz.prog 60 #[.int .i64 o] w (Gives (.int .i64 ((pa o:Nat):Int)) w)) (fun o h w=>by rw [(kind_out (by omega)).2];exact parts_out h w) parts_2 parts_3 parts_4 parts_5 parts_6 parts_7 parts_8 parts_9 parts_10 parts_11 parts_12 parts_13 parts_14 parts_15 parts_16 parts_17 parts_18 parts_19 parts_20 parts_21 parts_22 parts_23 parts_24 parts_25 parts_26 parts_27 parts_28 parts_29 o
end Go.Proofs.YtgakcpcpfkoaiaaGreatDoor.Ex

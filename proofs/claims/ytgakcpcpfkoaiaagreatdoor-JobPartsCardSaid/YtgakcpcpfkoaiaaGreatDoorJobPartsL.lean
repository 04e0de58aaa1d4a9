/-
  Proved: for every input the law JobParts returns true, and leaves its arguments as they were; the tables that it reads lie as start-up lays them (the card ties them to the program's text). No other condition.
-/
import Derived.Test.YtgakcpcpfkoaiaaGreatDoorCards
import Derived.Test.YtgakcpcpfkoaiaaGreatDoorTie
import Derived.WalkKit
import Derived.ProofKit
import Derived.OpenShut
import Derived.ShutString
import Derived.LaidMore
import Derived.Stop.Joined
import Derived.SevenTiedAt
import Derived.Test.YtgakcpcpfkoaiaaGreatDoorQ1
import Derived.ChangeOld
import Derived.Below
import Derived.Test.YtgakcpcpfkoaiaaGreatDoorQ5
import Derived.Test.YtgakcpcpfkoaiaaGreatDoorQ10
import Derived.Test.YtgakcpcpfkoaiaaGreatDoorQ9
import Derived.Test.YtgakcpcpfkoaiaaGreatDoorQ2
set_option maxRecDepth 100000
namespace Go.Proofs.YtgakcpcpfkoaiaaGreatDoor.jobParts
open Go.ChangeShapes Go.WideShapes Go.ChangeAt Go.RowKit
open Go.ChangeMaps (open_string shut_string)
set_option linter.unusedVariables false      -- a walk need not use every 'w<i>'
theorem own:ownKnob Tryz.prog.godebug=none:=by kernel_rfl
theorem laidOut:laidOutB Tryz.prog=true:=by kernel_rfl
theorem walk (j0:Jo.Jb) (A0m:Option Addr) (c0m:Nat) (A0b:Option Addr) (c0b:Nat) (A0r:Option Addr) (c0r:Nat) (a1:ByteArray) (a2:ByteArray) (k3 n3:Int) (s3:ByteArray) (x3 y3:Int) (k4 n4:Int) (s4:ByteArray) (x4 y4:Int) (w:World) (w0:Jo.JA w j0 A0m A0b A0r) (wf0:Jo.JF j0) (w1:a1.size≤maxLen) (w2:a2.size≤maxLen) (wk3:(Lit.int .i64 k3).wf=true) (wn3:(Lit.int .i64 n3).wf=true) (ws3:s3.size≤maxLen) (wx3:(Lit.int .i64 x3).wf=true) (wy3:(Lit.int .i64 y3).wf=true) (wk4:(Lit.int .i64 k4).wf=true) (wn4:(Lit.int .i64 n4).wf=true) (ws4:s4.size≤maxLen) (wx4:(Lit.int .i64 x4).wf=true) (wy4:(Lit.int .i64 y4).wf=true) (hT:Ov.Tab w) (hK:Ex.KN w):Calls Tryz.prog 3 #[.agg #[.string (Ov.tx j0.nm),.int .i64 j0.t,.int .i64 j0.p,.int .i64 j0.k,.int .i64 j0.n,.int .i64 j0.f,.slice A0m j0.m.length c0m,.slice A0b j0.b.length c0b,.slice A0r j0.r.length c0r,.string (Ov.tx j0.fd),.bool j0.cb],.string a1,.string a2,.agg #[.int .i64 k3,.int .i64 n3,.string s3,.int .i64 x3,.int .i64 y3],.agg #[.int .i64 k4,.int .i64 n4,.string s4,.int .i64 x4,.int .i64 y4]] w (Ov.Gives (.bool true) w):=by
 have h:=Jo.parts_core j0 A0m c0m A0b c0b A0r c0r a1.data.toList a2 k3 n3 x3 y3 k4 n4 x4 y4 s3 s4 w w0 hT hK (by have h:a1.size≤9223372036854775807:=w1;simpa using h)
 simp only [Ov.tx_of] at h
 exact h
theorem door_met (os:Os) (args:Array Value):laidMetH Tryz.prog Rows.jobPartsRow.laid ((World.doorLaid Tryz.prog 59 os).forCall (fun _ _=>0) ⟨#[],args,[]⟩).memory :=
 laidMetH_of_parts3 (fuel:=8) (laidMet_of_run' 8 (by kernel_rfl) (by kernel_rfl)) (by kernel_rfl) (by kernel_rfl)
theorem lifted (os:Os) (started:os.Started) (H:Type) (enc:TypeId × Value→H) :
 ReturnsInHanded {} Tryz.checked os 3 .any (fun w args=>(Rows.jobPartsSpec.pre enc Tryz.prog Tryz.f3 [] false w args∧laidMetH Tryz.prog Rows.jobPartsRow.laid w)∧sizedMet enc Tryz.prog Tryz.f3 (OpenSpec.ofChange Rows.jobPartsSpec) false w args)
  (Rows.jobPartsSpec.post enc Tryz.prog Tryz.f3 false true false false):=by
 refine returnsInHanded_of_change_and (C:=Tryz.checked) (X:=fun w _=>laidMetH Tryz.prog Rows.jobPartsRow.laid w) (fun _ _ _ hh h=>h.of_heap hh) own started (by kernel_rfl) Tryz.func3
  (ChangeSpec.witness_shaped (enc:=enc) (C:=Tryz.checked) (os:=os) (X:=fun w _=>laidMetH Tryz.prog Rows.jobPartsRow.laid w) false (World.doorLaid Tryz.prog 59 os) #[.agg #[.string ⟨#[]⟩,.int .i64 0,.int .i64 0,.int .i64 0,.int .i64 0,.int .i64 0,.slice none 0 0,.slice none 0 0,.slice none 0 0,.string ⟨#[]⟩,.bool false],.string ⟨#[]⟩,.string ⟨#[]⟩,.agg #[.int .i64 0,.int .i64 0,.string ⟨#[]⟩,.int .i64 0,.int .i64 0],.agg #[.int .i64 0,.int .i64 0,.string ⟨#[]⟩,.int .i64 0,.int .i64 0]] 8 rfl (World.shaped_of_RefB (by kernel_rfl) (by kernel_rfl)) (by kernel_rfl) (by kernel_rfl) (by kernel_rfl) (door_met os _)) ?_
 intro W base args ds gs before hval0 hW _ _ hL _
 have hval:∀ (j:Nat) t v,Tryz.f3.params[j]? = some t→args[j]? = some v→Value.okWide Tryz.prog W .any base t v:=hval0
 have hW':=hW
 obtain ⟨p,q,hA0,hV,rfl,hfz,hnd⟩:=hW
 have hA:DataW.TrodAll enc Tryz.prog W 0 (fun _=>true) true Tryz.f3.params.toList args.toList ds p:=hA0
 rw [Tryz.params3] at hA hval
 obtain ⟨v0,vs0,d0,ds0,p0,q0,hargs,rfl,rfl,h0,r0⟩:=trodAll_cons hA
 obtain ⟨v1,vs1,d1,ds1,p1,q1,rfl,rfl,rfl,h1,r1⟩:=trodAll_cons r0
 obtain ⟨v2,vs2,d2,ds2,p2,q2,rfl,rfl,rfl,h2,r2⟩:=trodAll_cons r1
 obtain ⟨v3,vs3,d3,ds3,p3,q3,rfl,rfl,rfl,h3,r3⟩:=trodAll_cons r2
 obtain ⟨v4,vs4,d4,ds4,p4,q4,rfl,rfl,rfl,h4,r4⟩:=trodAll_cons r3
 obtain ⟨rfl,rfl,rfl⟩:=trodAll_nil r4
 obtain rfl:args=#[v0,v1,v2,v3,v4]:=by cases args;simp_all
 obtain ⟨rfl,rfl⟩:=trodVars_none hV
 have k0:=h0
 have lt0:∀ x ∈ p0,x.block<W.heap.size:=by obtain ⟨m,hm⟩:=k0;exact DataW.trod_lt m _ _ _ hm
 obtain ⟨j0,A0m,c0m,A0b,c0b,A0r,c0r,rfl,w0,wf0⟩:=Jo.job_of (hval 0 24 v0 rfl rfl) h0
 obtain ⟨a1,rfl,rfl,rfl,w1⟩:=open_string Tryz.underlying9 (hval 1 9 v1 rfl rfl) h1
 obtain ⟨a2,rfl,rfl,rfl,w2⟩:=open_string Tryz.underlying9 (hval 2 9 v2 rfl rfl) h2
 obtain ⟨k3,n3,s3,x3,y3,rfl,rfl,rfl,wk3,wn3,ws3,wx3,wy3⟩:=Va.val_of (hval 3 28 v3 rfl rfl) h3
 obtain ⟨k4,n4,s4,x4,y4,rfl,rfl,rfl,wk4,wn4,ws4,wx4,wy4⟩:=Va.val_of (hval 4 28 v4 rfl rfl) h4
 have hK:Ex.KN W:=by
  rw [MakeChecks.laidMetH_plain _ _ _ (by kernel_rfl)] at hL
  exact Ex.kk_met (d:=Rows.laid_stook_expr_kinds) rfl (by simp [Rows.jobPartsRow]) hL
 have hT:Ov.Tab W:=by
  rw [MakeChecks.laidMetH_plain _ _ _ (by kernel_rfl)] at hL
  exact Ov.tab_met (d:=Rows.laid_internal_strconv_uint64pow10) rfl (by simp [Rows.jobPartsRow]) hL
 clear hA0 hval0
 refine (walk j0 A0m c0m A0b c0b A0r c0r a1 a2 k3 n3 s3 x3 y3 k4 n4 s4 x4 y4 W w0 wf0 w1 w2 wk3 wn3 ws3 wx3 wy3 wk4 wn4 ws4 wx4 wy4 hT hK).mono fun e W' ⟨he,bel⟩=>?_
 subst he
 exact ⟨_,rfl,_,_,_,[],_,[],hW',trodAll_mk1 (shut_bool Tryz.underlying4 _),(trodAll_cons_mk (Below.trod laidOut (by kernel_rfl) (of_decide_eq_true (by kernel_rfl)) k0 bel lt0) (trodAll_cons_mk (shut_string Tryz.underlying9 w1) (trodAll_cons_mk (shut_string Tryz.underlying9 w2) (trodAll_cons_mk (Va.shut_val wk3 wn3 ws3 wx3 wy3) (trodAll_cons_mk (Va.shut_val wk4 wn4 ws4 wx4 wy4) trodAll_mk0))))),rfl,bel.frame _,fun h=>by cases h⟩
theorem over : Rows.JobPartsSaid :=
 OpenClaim.holds_of_wide 3 Tryz.f3 rfl rfl rfl rfl rfl rfl rfl ⟨rfl,rfl,rfl,rfl,rfl⟩ rfl rfl rfl rfl rfl (by kernel_rfl) Tryz.func3 (by kernel_rfl)
  (of_decide_eq_true (by kernel_rfl)) (by unfold Func.isWrapper;first | (rw [if_pos (by decide +kernel)];kernel_rfl) | (rw [if_neg (by decide +kernel)];exact ⟨rfl,rfl⟩))
  (fun os started H enc _=>lifted os started H enc)
theorem proved : Rows.JobPartsCardSaid :=
 Claim7.holds_tied_plain_at .later [] [.data, .data, .data, .data] true (true, "fe3c645cd32f2db87d961a77cb33f1bce0fdf7f6dcbe44fbe5df3f48cd770225") false
  over (fun _ h=>by cases h) (by kernel_rfl) (fun _ h=>by cases h) jobParts_row_tie rfl ⟨rfl,rfl⟩ (by kernel_rfl) rfl
  (fun f fn hf hfn=>by
    obtain rfl : f = 3 := Option.some.inj ((show Tryz.prog.funcNamed "stook/stooklaw10.JobParts" = some 3 by kernel_rfl).symm.trans hf) |>.symm
    obtain rfl:fn=Tryz.f3:=(Option.some.inj (Tryz.func3.symm.trans hfn)).symm
    exact ⟨by kernel_rfl,fun j t ht=>by
     rw [Tryz.params3] at ht
     have hm:t ∈ [24,9,28]:=by simpa using Array.mem_of_getElem? ht
     have hall:([24,9,28].all fun u=>!Tryz.prog.wantsStandIn u)=true:=by kernel_rfl
     exact (show Tryz.prog.wantsStandIn t=false by simpa using List.all_eq_true.1 hall t hm)⟩)
  (by kernel_rfl)
#print axioms proved
end Go.Proofs.YtgakcpcpfkoaiaaGreatDoor.jobParts

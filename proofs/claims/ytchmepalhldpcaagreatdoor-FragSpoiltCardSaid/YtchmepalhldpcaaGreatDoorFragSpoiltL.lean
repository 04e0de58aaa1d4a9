/-
  Proved: for every input the law FragSpoilt returns true, and leaves its arguments as they were; the tables that it reads lie as start-up lays them (the card ties them to the program's text). No other condition.
-/
import Derived.Test.YtchmepalhldpcaaGreatDoorCards
import Derived.Test.YtchmepalhldpcaaGreatDoorTie
import Derived.WalkKit
import Derived.ProofKit
import Derived.OpenShut
import Derived.ShutString
import Derived.LaidMore
import Derived.Stop.Joined
import Derived.SevenTiedAt
import Derived.Test.YtchmepalhldpcaaGreatDoorQ1
import Derived.Test.YtchmepalhldpcaaGreatDoorQFrSpoilt
import Derived.Test.YtchmepalhldpcaaGreatDoorQ2
namespace Go.Proofs.YtchmepalhldpcaaGreatDoor.fragSpoilt
open Go.ChangeShapes Go.WideShapes Go.ChangeAt Go.RowKit
open Go.ChangeMaps (open_string shut_string)
set_option linter.unusedVariables false      -- a walk need not use every 'w<i>'
theorem own : ownKnob Tryz.prog.godebug = none := by kernel_rfl
theorem walk (x0 : Fr.Fd) (x1 : Fr.Fd) (a2 : ByteArray) (a3 : Int) (a4 : Int) (w : World) (wx0t : (Lit.int .i64 x0.t).wf = true) (wx0a : (Lit.int .i64 x0.a).wf = true) (wx0p : (Lit.int .i64 x0.p).wf = true) (wx0f : (Lit.int .i64 x0.f).wf = true) (wx1t : (Lit.int .i64 x1.t).wf = true) (wx1a : (Lit.int .i64 x1.a).wf = true) (wx1p : (Lit.int .i64 x1.p).wf = true) (wx1f : (Lit.int .i64 x1.f).wf = true) (w2 : a2.size ≤ maxLen) (w3 : (Lit.int .i64 a3).wf = true) (w4 : (Lit.int .u8 a4).wf = true) (hT : Ov.Tab w) (hE : Ov.Ers w) : Calls Tryz.prog 3 #[.agg #[.int .i64 x0.t, .int .i64 x0.a, .int .i64 x0.p, .int .i64 x0.f], .agg #[.int .i64 x1.t, .int .i64 x1.a, .int .i64 x1.p, .int .i64 x1.f], .string a2, .int .i64 a3, .int .u8 a4] w (Ov.Gives (.bool true) w) := by
 obtain ⟨y, rfl⟩ : ∃ y : UInt8, a4 = (y.toNat : Int) := by
  have h := w4
  simp [Lit.wf, IntKind.min, IntKind.max, IntKind.bits, IntKind.signed] at h
  exact ⟨UInt8.ofNat a4.toNat, by rw [UInt8.toNat_ofNat']; omega⟩
 exact Fr.spoilt_core x0 x1 a2 a3 y w hT hE
theorem door_met (os : Os) (args : Array Value) : laidMetH Tryz.prog Rows.fragSpoiltRow.laid ((World.doorLaid Tryz.prog 62 os).forCall (fun _ _ => 0) ⟨#[], args, []⟩).memory :=
 laidMetH_of_parts3 (fuel := 8) (laidMet_of_run' 8 (by kernel_rfl) (by kernel_rfl)) (by kernel_rfl) (by kernel_rfl)
set_option maxRecDepth 100000 in
theorem lifted (os : Os) (started : os.Started) (H : Type) (enc : TypeId × Value → H) :
 ReturnsInHanded {} Tryz.checked os 3 .any (fun w args => (Rows.fragSpoiltSpec.pre enc Tryz.prog Tryz.f3 [] false w args ∧ laidMetH Tryz.prog Rows.fragSpoiltRow.laid w) ∧ sizedMet enc Tryz.prog Tryz.f3 (OpenSpec.ofChange Rows.fragSpoiltSpec) false w args)
  (Rows.fragSpoiltSpec.post enc Tryz.prog Tryz.f3 false true false false) := by
 refine returnsInHanded_of_change_and (C := Tryz.checked) (X := fun w _ => laidMetH Tryz.prog Rows.fragSpoiltRow.laid w) (fun _ _ _ hh h => h.of_heap hh) own started (by kernel_rfl) Tryz.func3
  (ChangeSpec.witness_shaped (enc := enc) (C := Tryz.checked) (os := os) (X := fun w _ => laidMetH Tryz.prog Rows.fragSpoiltRow.laid w) false (World.doorLaid Tryz.prog 62 os) #[.agg #[.int .i64 0, .int .i64 0, .int .i64 0, .int .i64 0], .agg #[.int .i64 0, .int .i64 0, .int .i64 0, .int .i64 0], .string ⟨#[]⟩, .int .i64 0, .int .u8 0] 8 rfl (World.shaped_of_RefB (by kernel_rfl) (by kernel_rfl)) (by kernel_rfl) (by kernel_rfl) (by kernel_rfl) (door_met os _)) ?_
 intro W base args ds gs before hval0 hW _ _ hL _
 have hval : ∀ (j : Nat) t v, Tryz.f3.params[j]? = some t → args[j]? = some v → Value.okWide Tryz.prog W .any base t v := hval0
 have hW' := hW
 obtain ⟨p, q, hA0, hV, rfl, hfz, hnd⟩ := hW
 have hA : DataW.TrodAll enc Tryz.prog W 0 (fun _ => true) true Tryz.f3.params.toList args.toList ds p := hA0
 rw [Tryz.params3] at hA hval
 obtain ⟨v0, vs0, d0, ds0, p0, q0, hargs, rfl, rfl, h0, r0⟩ := trodAll_cons hA
 obtain ⟨v1, vs1, d1, ds1, p1, q1, rfl, rfl, rfl, h1, r1⟩ := trodAll_cons r0
 obtain ⟨v2, vs2, d2, ds2, p2, q2, rfl, rfl, rfl, h2, r2⟩ := trodAll_cons r1
 obtain ⟨v3, vs3, d3, ds3, p3, q3, rfl, rfl, rfl, h3, r3⟩ := trodAll_cons r2
 obtain ⟨v4, vs4, d4, ds4, p4, q4, rfl, rfl, rfl, h4, r4⟩ := trodAll_cons r3
 obtain ⟨rfl, rfl, rfl⟩ := trodAll_nil r4
 obtain rfl : args = #[v0, v1, v2, v3, v4] := by cases args; simp_all
 obtain ⟨rfl, rfl⟩ := trodVars_none hV
 obtain ⟨x0, rfl, rfl, rfl, wx0t, wx0a, wx0p, wx0f⟩ := Fr.id_of (hval 0 23 v0 rfl rfl) h0
 obtain ⟨x1, rfl, rfl, rfl, wx1t, wx1a, wx1p, wx1f⟩ := Fr.id_of (hval 1 23 v1 rfl rfl) h1
 obtain ⟨a2, rfl, rfl, rfl, w2⟩ := open_string Tryz.underlying9 (hval 2 9 v2 rfl rfl) h2
 obtain ⟨a3, rfl, rfl, rfl, w3⟩ := open_int Tryz.underlying3 (hval 3 3 v3 rfl rfl) h3
 obtain ⟨a4, rfl, rfl, rfl, w4⟩ := open_int Tryz.underlying5 (hval 4 5 v4 rfl rfl) h4
 have hE : Ov.Ers W := by
  rw [MakeChecks.laidMetH_plain _ _ _ (by kernel_rfl)] at hL
  exact ⟨Ov.er_met (d := Rows.laid_strconv_ErrSyntax) rfl (by simp [Rows.fragSpoiltRow]) hL Ov.er_syntax (by kernel_rfl) Tryz.underlying72, Ov.er_met (d := Rows.laid_strconv_ErrRange) rfl (by simp [Rows.fragSpoiltRow]) hL Ov.er_range (by kernel_rfl) Tryz.underlying72⟩
 have hT : Ov.Tab W := by
  rw [MakeChecks.laidMetH_plain _ _ _ (by kernel_rfl)] at hL
  exact Ov.tab_met (d := Rows.laid_internal_strconv_uint64pow10) rfl (by simp [Rows.fragSpoiltRow]) hL
 clear hA0 hval0
 simp only [List.append_nil] at hW'
 refine (walk x0 x1 a2 a3 a4 W wx0t wx0a wx0p wx0f wx1t wx1a wx1p wx1f w2 w3 w4 hT hE).mono fun e W' ⟨he, bel⟩ => ?_
 subst he
 exact ⟨_, rfl, _, _, _, [], _, [], hW', trodAll_mk1 (shut_bool Tryz.underlying4 _), (trodAll_cons_mk (Fr.shut_id wx0t wx0a wx0p wx0f) (trodAll_cons_mk (Fr.shut_id wx1t wx1a wx1p wx1f) (trodAll_cons_mk (shut_string Tryz.underlying9 w2) (trodAll_cons_mk (shut_int Tryz.underlying3 w3) (trodAll_cons_mk (shut_int Tryz.underlying5 w4) trodAll_mk0))))), rfl, bel.frame _, fun h => by cases h⟩
theorem over : Rows.FragSpoiltSaid :=
 OpenClaim.holds_of_wide 3 Tryz.f3 rfl rfl rfl rfl rfl rfl rfl ⟨rfl, rfl, rfl, rfl, rfl⟩ rfl rfl rfl rfl rfl (by kernel_rfl) Tryz.func3 (by kernel_rfl)
  (of_decide_eq_true (by kernel_rfl)) (by unfold Func.isWrapper; first | (rw [if_pos (by decide +kernel)]; kernel_rfl) | (rw [if_neg (by decide +kernel)]; exact ⟨rfl, rfl⟩))
  (fun os started H enc _ => lifted os started H enc)
theorem proved : Rows.FragSpoiltCardSaid :=
 Claim7.holds_tied_plain_at .later [] [.data, .data, .data, .sentinel, .sentinel] true (true, "b1ca20c8c91c55cf58e920e153949ab79ab43224be273b6cb9c298c247c88478") true
  over (fun _ h => by cases h) (by kernel_rfl) (fun _ h => by cases h) fragSpoilt_row_tie rfl ⟨rfl, rfl⟩ (by kernel_rfl) rfl
  (fun f fn hf hfn => by
    obtain rfl : f = 3 := Option.some.inj ((show Tryz.prog.funcNamed "stook/stooklaw15.FragSpoilt" = some 3 by kernel_rfl).symm.trans hf) |>.symm
    obtain rfl : fn = Tryz.f3 := (Option.some.inj (Tryz.func3.symm.trans hfn)).symm
    exact ⟨by kernel_rfl, fun j t ht => by
     rw [Tryz.params3] at ht
     have hm : t ∈ [23, 9, 3, 5] := by simpa using Array.mem_of_getElem? ht
     have hall : ([23, 9, 3, 5].all fun u => !Tryz.prog.wantsStandIn u) = true := by kernel_rfl
     exact (show Tryz.prog.wantsStandIn t = false by simpa using List.all_eq_true.1 hall t hm)⟩)
  (by kernel_rfl)
#print axioms proved
end Go.Proofs.YtchmepalhldpcaaGreatDoor.fragSpoilt

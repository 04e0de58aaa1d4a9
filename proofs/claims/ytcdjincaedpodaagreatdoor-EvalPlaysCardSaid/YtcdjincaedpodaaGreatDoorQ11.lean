/-
  Small texts of this claim, together: ErDoA, ErRunN, EvSteps, EvAwake, EvNamX, EvFar, EvFuelX.
-/
import Derived.Test.YtcdjincaedpodaaGreatDoorQErDo
import Derived.Test.YtcdjincaedpodaaGreatDoorQErDoP
import Derived.Test.YtcdjincaedpodaaGreatDoorQ10
import Derived.Test.YtcdjincaedpodaaGreatDoorQErDoE
import Derived.Test.YtcdjincaedpodaaGreatDoorQEvRun
import Derived.Test.YtcdjincaedpodaaGreatDoorQ8
import Derived.Test.YtcdjincaedpodaaGreatDoorQEvRun2
import Derived.Test.YtcdjincaedpodaaGreatDoorQ5
import Derived.Test.YtcdjincaedpodaaGreatDoorQExParse
import Derived.Test.YtcdjincaedpodaaGreatDoorQ3
import Derived.Test.YtcdjincaedpodaaGreatDoorQ7
namespace Go.Proofs.YtcdjincaedpodaaGreatDoor.Ev
open Go.ChangeShapes Go.WideShapes Go.ChangeAt Go.RowKit Ov Va Ga Ex
set_option maxRecDepth 100000 in
set_option maxHeartbeats 2000000 in
theorem md_zero {w0 : World} {A : Option Addr} {c E b : Nat} {l : List No} {S : St} {ov : Value} {w : World} {k : Nat} (hd : Mac w0 A c E b l S 0 0 ov w) (hl : 0 < l.length) : Calls Tryz.prog 28 #[.pointer (some ⟨b, 0, none⟩), .int .i64 (k : Int)] w (Rn (.er 15) w0 A c E b l ov w) := by
 have e21 : w.cell? ⟨b, 21, none⟩ = some (.int .i64 0) := hd.blk.c 21 _ rfl
 have e20 : w.cell? ⟨b, 20, none⟩ = some (.int .i64 0) := hd.blk.c 20 _ rfl
 have hltb := hd.lt
 have HF := Lib.hid (fun w1 (h : Mac w0 A c E b l S 0 0 ov w1) => mfail_at 15 (by decide) h)
 obtain ⟨w1, hw1, hd1, hm1, hbel, hsz, hbX⟩ := mbox1 hd hl 26 zz
 have HD1 := Lib.hid hd1; have HM1 := Lib.hid hm1; have HW1 := Lib.hid hw1; have HX1 := Lib.hid hbX
 clear hd hd1 hm1 hbel hsz hw1 hbX
 go_enter Tryz.func28, Tryz.ntmps28
 go_wp2_with (fail)
 rw [HW1.out]
 refine (HF.out _ HD1.out).mono ?_
 rintro e w2 ⟨rfl, hd3, hm3⟩
 have HD2 := Lib.hid hd3; have HM2 := Lib.hid (HM1.out.trans hm3); have HX2 := Lib.hid (HX1.out.mv hm3)
 clear hd3 hm3 HD1 HM1 HX1  e21 e20 HF
 obtain ⟨cX0, cX1, cX2, cX3, cX4, zX0, zX1, zX2, zX3, zX4, hltX⟩ := HX2.out.five
 go_wp2_with (fail)
 refine mend (P := bodyPost _ _ _ _ _) HD2.out HM2.out HX2.out (by omega) _ _ _ _ _ ?_
 clear HD2 HM2 HX2 cX0 cX1 cX2 cX3 cX4 zX0 zX1 zX2 zX3 zX4
 intro w9 hd9 hm9 c0 c1 c2 c3 c4
 refine bodyPost_ret (v := .agg zz) (by simp [results, Tryz.results28, go_sem, c0, c1, c2, c3, c4]) rfl ⟨vz, 15, S, 0, ov, rfl, Ans.er rfl rfl (by decide), fun _ => rfl, hd9, hm9⟩
theorem mdo_step {d : Nat} (H : MoC (ev d) d) : MoC (ev (d + 1)) (d + 1) := by
 intro w0 A c E b l S n ov w k r hcx hd hg hx hd25
 have hkl : k < l.length := by
  rcases Nat.lt_or_ge k l.length with h | h
  · exact h
  · rw [List.drop_of_length_le h, ex_nil] at hx; cases hx
 rw [drop_nd hkl, ex_cons] at hx
 have hrn : rn (nd l k) = true := by
  rcases Bool.eq_false_or_eq_true (rn (nd l k)) with h | h
  · exact h
  · rw [if_neg (by rw [h]; decide)] at hx; cases hx
 rw [if_pos hrn] at hx
 have hr := rn_range hrn
 cases n with
 | zero => rw [ev_zero hkl d S]; exact md_zero hd (by omega)
 | succ n =>
   rw [ev_succ hkl d S n]
   obtain ⟨o, ho⟩ : ∃ o, (nd l k).o = o := ⟨_, rfl⟩
   rw [ho] at hx hr
   by_cases h0 : o = 0
   · subst h0; exact md_value w0 A c E b l S n ov w k r hcx hd hg hkl ho hrn hx (by omega)
   by_cases h1 : o = 1
   · subst h1; exact md_name w0 A c E b l S n ov w k r hcx hd hg hkl ho hrn hx (by omega)
   by_cases h11 : o = 11
   · subst h11; exact md_if H w0 A c E b l S n ov w k r hcx hd hg hkl ho hrn hx (by omega)
   by_cases h28 : o = 28
   · subst h28; exact md_each H w0 A c E b l S n ov w k r hcx hd hg hkl ho hrn hx (by omega)
   by_cases h29 : o = 29
   · subst h29; exact md_let H w0 A c E b l S n ov w k r hcx hd hg hkl ho hrn hx (by omega)
   exact md_kind H (by omega) h11 w0 A c E b l S n ov w k r hcx hd hg hkl ho hrn hx (by omega)
theorem mdo_any : ∀ d : Nat, MoC (ev d) d
 | 0 => fun _ _ _ _ _ _ _ _ _ _ _ _ _ _ _ hx _ => by cases hx
 | d + 1 => mdo_step (mdo_any d)
def RQ (X : Rs Va) (w : World) (e : Ending) (w' : World) : Prop := Below w.heap.size w w' ∧ match X with
 | .er x => x ≠ 0 ∧ e = .returned (.tuple #[.agg zz, .slice none 0 0, .int .i64 0, .int .i64 x])
 | .ok v S n => ∃ A c, w'.ownsRow w.heap.size 58 6 (.slice A S.out.length c) S.out.length (pcells S.out) ∧
    e = .returned (.tuple #[.agg v, .slice A S.out.length c, .int .i64 (n : Int), .int .i64 0])
theorem rblk3 (w : World) (t : TypeId) (xs ys zs : List Value) : ∃ w1, ((w.alloc (.cells xs.toArray t)).alloc (.cells ys.toArray t)).alloc (.cells zs.toArray t) = w1 ∧ Below w.heap.size w w1 ∧ w1.heap.size = w.heap.size + 3 ∧ Blk w1 w.heap.size xs ∧ Blk w1 (w.heap.size + 1) ys ∧ Blk w1 (w.heap.size + 2) zs := by
 refine ⟨_, rfl, Below.next (box2 w _ _) (box1 _ _), by simp, ((Blk.made w t xs rfl).old _).old _, ?_, ?_⟩
 · have h := (Blk.made (w.alloc (.cells xs.toArray t)) t ys rfl).old (.cells zs.toArray t)
   rw [World.size_alloc] at h; exact h
 · have h := Blk.made ((w.alloc (.cells xs.toArray t)).alloc (.cells ys.toArray t)) t zs rfl
   simp only [World.size_alloc, Nat.add_assoc, Nat.reduceAdd] at h; exact h
set_option maxRecDepth 100000 in
set_option maxHeartbeats 4000000 in
theorem mrun_no (l : List No) (A : Option Addr) (c : Nat) (k : List UInt8) (v a : Va) (n : Int) (w : World) (hn : Nds w A l) (hl : l.length ≤ 4294967296) (hno : ¬ (Rt l = true ∧ rEnv k v a = true ∧ 0 ≤ n ∧ n ≤ 100000)) :
 Calls Tryz.prog 15 #[.slice A l.length c, .string (tx k), .agg v, .agg a, .int .i64 n] w (RQ (rnX l k v a n) w) := by
 obtain ⟨w1, hw1, hb1, hsz, hbV, hbA, hbX⟩ := rblk3 w 26 v a zz
 have HB1 := Lib.hid hb1; have HW1 := Lib.hid hw1; have HSZ := Lib.hid hsz; have HV1 := Lib.hid hbV; have HA1 := Lib.hid hbA; have HX1 := Lib.hid hbX
 have HRI := Lib.hid (fun w1 (h : Below w.heap.size w w1) => xright_any l A c w1 (hn.next h) hl)
 have HRV := Lib.hid (rright_va v); have HRA := Lib.hid (rright_va a)
 have hks := tx_size k
 have HX : Hid (rnX l k v a n = .er 1) := rnX_bad hno
 have hcs : Rt l = false ∨ (Rt l = true ∧ 4096 < k.length) ∨ (Rt l = true ∧ ¬ 4096 < k.length ∧ rt v = false) ∨ (Rt l = true ∧ ¬ 4096 < k.length ∧ rt v = true ∧ rt a = false) ∨ (Rt l = true ∧ ¬ 4096 < k.length ∧ rt v = true ∧ rt a = true ∧ n < 0) ∨ (Rt l = true ∧ ¬ 4096 < k.length ∧ rt v = true ∧ rt a = true ∧ ¬ n < 0 ∧ 100000 < n) := by
  unfold rEnv at hno
  by_cases h1 : Rt l = true
  · by_cases h2 : 4096 < k.length
    · exact .inr (.inl ⟨h1, h2⟩)
    · by_cases h3 : rt v = true
      · by_cases h4 : rt a = true
        · by_cases h5 : n < 0
          · exact .inr (.inr (.inr (.inr (.inl ⟨h1, h2, h3, h4, h5⟩))))
          · refine .inr (.inr (.inr (.inr (.inr ⟨h1, h2, h3, h4, h5, ?_⟩))))
            by_cases h6 : 100000 < n
            · exact h6
            · exact absurd ⟨h1, by rw [h3, h4]; simp; omega, by omega, by omega⟩ hno
        · exact .inr (.inr (.inr (.inl ⟨h1, h2, h3, by simpa using h4⟩)))
      · exact .inr (.inr (.inl ⟨h1, h2, by simpa using h3⟩))
  · exact .inl (by simpa using h1)
 clear hno hn hl hb1 hw1 hsz hbV hbA hbX
 rcases hcs with h1 | ⟨h1, h2⟩ | ⟨h1, h2, h3⟩ | ⟨h1, h2, h3, h4⟩ | ⟨h1, h2, h3, h4, h5⟩ | ⟨h1, h2, h3, h4, h5, h6⟩
 · skip
   go_enter Tryz.func15, Tryz.ntmps15
   go_wp2_with (fail)
   rw [HW1.out]
   refine (HRI.out _ HB1.out).mono ?_
   rintro e w2 ⟨rfl, hb⟩
   have HB2 := Lib.hid (Below.next HB1.out hb); have HV2 := Lib.hid (HV1.out.next hb); have HA2 := Lib.hid (HA1.out.next hb); have HX2 := Lib.hid (HX1.out.next hb)
   clear hb HB1 HV1 HA1 HX1 
   rw [h1]
   clear h1
   obtain ⟨c0, c1, c2, c3, c4, f0, f1, f2, f3, f4, hltX⟩ := blk_five HX2.out
   go_wp2_with (fail)
   refine bend (P := bodyPost _ _ _ _ _) HX2.out HB2.out (show w.heap.size ≤ w.heap.size + 2 by omega) _ _ _ _ _ ?_
   clear c0 f0 c1 f1 c2 f2 c3 f3 c4 f4 HB2 HV2 HA2 HX2 hltX 
   intro w9 hx9 hb9 c0 c1 c2 c3 c4
   refine bodyPost_ret (v := .tuple #[.agg zz, .slice none 0 0, .int .i64 0, .int .i64 1]) (by simp [results, Tryz.results15, go_sem, c0, c1, c2, c3, c4]) rfl ⟨hb9, by rw [HX.out]; exact ⟨by decide, rfl⟩⟩
 · skip
   go_enter Tryz.func15, Tryz.ntmps15
   go_wp2_with (fail)
   rw [HW1.out]
   refine (HRI.out _ HB1.out).mono ?_
   rintro e w2 ⟨rfl, hb⟩
   have HB2 := Lib.hid (Below.next HB1.out hb); have HV2 := Lib.hid (HV1.out.next hb); have HA2 := Lib.hid (HA1.out.next hb); have HX2 := Lib.hid (HX1.out.next hb)
   clear hb HB1 HV1 HA1 HX1 
   rw [h1]
   clear h1
   obtain ⟨c0, c1, c2, c3, c4, f0, f1, f2, f3, f4, hltX⟩ := blk_five HX2.out
   go_wp2_with (fail)
   refine bend (P := bodyPost _ _ _ _ _) HX2.out HB2.out (show w.heap.size ≤ w.heap.size + 2 by omega) _ _ _ _ _ ?_
   clear c0 f0 c1 f1 c2 f2 c3 f3 c4 f4 HB2 HV2 HA2 HX2 hltX 
   intro w9 hx9 hb9 c0 c1 c2 c3 c4
   refine bodyPost_ret (v := .tuple #[.agg zz, .slice none 0 0, .int .i64 0, .int .i64 1]) (by simp [results, Tryz.results15, go_sem, c0, c1, c2, c3, c4]) rfl ⟨hb9, by rw [HX.out]; exact ⟨by decide, rfl⟩⟩
 · skip
   go_enter Tryz.func15, Tryz.ntmps15
   go_wp2_with (fail)
   rw [HW1.out]
   refine (HRI.out _ HB1.out).mono ?_
   rintro e w2 ⟨rfl, hb⟩
   have HB2 := Lib.hid (Below.next HB1.out hb); have HV2 := Lib.hid (HV1.out.next hb); have HA2 := Lib.hid (HA1.out.next hb); have HX2 := Lib.hid (HX1.out.next hb)
   clear hb HB1 HV1 HA1 HX1 
   rw [h1]
   clear h1
   obtain ⟨qV0, qV1, qV2, qV3, qV4⟩ := ck5 HV2.out
   go_wp2_with (fail)
   refine (HRV.out _).mono ?_
   rintro e w3 ⟨rfl, hb⟩
   have HB3 := Lib.hid (Below.next HB2.out hb); have HV3 := Lib.hid (HV2.out.next hb); have HA3 := Lib.hid (HA2.out.next hb); have HX3 := Lib.hid (HX2.out.next hb)
   clear hb HB2 HV2 HA2 HX2 qV0 qV1 qV2 qV3 qV4
   rw [h3]
   clear h3
   obtain ⟨c0, c1, c2, c3, c4, f0, f1, f2, f3, f4, hltX⟩ := blk_five HX3.out
   go_wp2_with (fail)
   refine bend (P := bodyPost _ _ _ _ _) HX3.out HB3.out (show w.heap.size ≤ w.heap.size + 2 by omega) _ _ _ _ _ ?_
   clear c0 f0 c1 f1 c2 f2 c3 f3 c4 f4 HB3 HV3 HA3 HX3 hltX 
   intro w9 hx9 hb9 c0 c1 c2 c3 c4
   refine bodyPost_ret (v := .tuple #[.agg zz, .slice none 0 0, .int .i64 0, .int .i64 1]) (by simp [results, Tryz.results15, go_sem, c0, c1, c2, c3, c4]) rfl ⟨hb9, by rw [HX.out]; exact ⟨by decide, rfl⟩⟩
 · skip
   go_enter Tryz.func15, Tryz.ntmps15
   go_wp2_with (fail)
   rw [HW1.out]
   refine (HRI.out _ HB1.out).mono ?_
   rintro e w2 ⟨rfl, hb⟩
   have HB2 := Lib.hid (Below.next HB1.out hb); have HV2 := Lib.hid (HV1.out.next hb); have HA2 := Lib.hid (HA1.out.next hb); have HX2 := Lib.hid (HX1.out.next hb)
   clear hb HB1 HV1 HA1 HX1 
   rw [h1]
   clear h1
   obtain ⟨qV0, qV1, qV2, qV3, qV4⟩ := ck5 HV2.out
   go_wp2_with (fail)
   refine (HRV.out _).mono ?_
   rintro e w3 ⟨rfl, hb⟩
   have HB3 := Lib.hid (Below.next HB2.out hb); have HV3 := Lib.hid (HV2.out.next hb); have HA3 := Lib.hid (HA2.out.next hb); have HX3 := Lib.hid (HX2.out.next hb)
   clear hb HB2 HV2 HA2 HX2 qV0 qV1 qV2 qV3 qV4
   rw [h3]
   clear h3
   obtain ⟨qA0, qA1, qA2, qA3, qA4⟩ := ck5 HA3.out
   go_wp2_with (fail)
   refine (HRA.out _).mono ?_
   rintro e w4 ⟨rfl, hb⟩
   have HB4 := Lib.hid (Below.next HB3.out hb); have HV4 := Lib.hid (HV3.out.next hb); have HA4 := Lib.hid (HA3.out.next hb); have HX4 := Lib.hid (HX3.out.next hb)
   clear hb HB3 HV3 HA3 HX3 qA0 qA1 qA2 qA3 qA4
   rw [h4]
   clear h4
   obtain ⟨c0, c1, c2, c3, c4, f0, f1, f2, f3, f4, hltX⟩ := blk_five HX4.out
   go_wp2_with (fail)
   refine bend (P := bodyPost _ _ _ _ _) HX4.out HB4.out (show w.heap.size ≤ w.heap.size + 2 by omega) _ _ _ _ _ ?_
   clear c0 f0 c1 f1 c2 f2 c3 f3 c4 f4 HB4 HV4 HA4 HX4 hltX 
   intro w9 hx9 hb9 c0 c1 c2 c3 c4
   refine bodyPost_ret (v := .tuple #[.agg zz, .slice none 0 0, .int .i64 0, .int .i64 1]) (by simp [results, Tryz.results15, go_sem, c0, c1, c2, c3, c4]) rfl ⟨hb9, by rw [HX.out]; exact ⟨by decide, rfl⟩⟩
 · skip
   go_enter Tryz.func15, Tryz.ntmps15
   go_wp2_with (fail)
   rw [HW1.out]
   refine (HRI.out _ HB1.out).mono ?_
   rintro e w2 ⟨rfl, hb⟩
   have HB2 := Lib.hid (Below.next HB1.out hb); have HV2 := Lib.hid (HV1.out.next hb); have HA2 := Lib.hid (HA1.out.next hb); have HX2 := Lib.hid (HX1.out.next hb)
   clear hb HB1 HV1 HA1 HX1 
   rw [h1]
   clear h1
   obtain ⟨qV0, qV1, qV2, qV3, qV4⟩ := ck5 HV2.out
   go_wp2_with (fail)
   refine (HRV.out _).mono ?_
   rintro e w3 ⟨rfl, hb⟩
   have HB3 := Lib.hid (Below.next HB2.out hb); have HV3 := Lib.hid (HV2.out.next hb); have HA3 := Lib.hid (HA2.out.next hb); have HX3 := Lib.hid (HX2.out.next hb)
   clear hb HB2 HV2 HA2 HX2 qV0 qV1 qV2 qV3 qV4
   rw [h3]
   clear h3
   obtain ⟨qA0, qA1, qA2, qA3, qA4⟩ := ck5 HA3.out
   go_wp2_with (fail)
   refine (HRA.out _).mono ?_
   rintro e w4 ⟨rfl, hb⟩
   have HB4 := Lib.hid (Below.next HB3.out hb); have HV4 := Lib.hid (HV3.out.next hb); have HA4 := Lib.hid (HA3.out.next hb); have HX4 := Lib.hid (HX3.out.next hb)
   clear hb HB3 HV3 HA3 HX3 qA0 qA1 qA2 qA3 qA4
   rw [h4]
   clear h4
   obtain ⟨c0, c1, c2, c3, c4, f0, f1, f2, f3, f4, hltX⟩ := blk_five HX4.out
   go_wp2_with (fail)
   refine bend (P := bodyPost _ _ _ _ _) HX4.out HB4.out (show w.heap.size ≤ w.heap.size + 2 by omega) _ _ _ _ _ ?_
   clear c0 f0 c1 f1 c2 f2 c3 f3 c4 f4 HB4 HV4 HA4 HX4 hltX 
   intro w9 hx9 hb9 c0 c1 c2 c3 c4
   refine bodyPost_ret (v := .tuple #[.agg zz, .slice none 0 0, .int .i64 0, .int .i64 1]) (by simp [results, Tryz.results15, go_sem, c0, c1, c2, c3, c4]) rfl ⟨hb9, by rw [HX.out]; exact ⟨by decide, rfl⟩⟩
 · skip
   go_enter Tryz.func15, Tryz.ntmps15
   go_wp2_with (fail)
   rw [HW1.out]
   refine (HRI.out _ HB1.out).mono ?_
   rintro e w2 ⟨rfl, hb⟩
   have HB2 := Lib.hid (Below.next HB1.out hb); have HV2 := Lib.hid (HV1.out.next hb); have HA2 := Lib.hid (HA1.out.next hb); have HX2 := Lib.hid (HX1.out.next hb)
   clear hb HB1 HV1 HA1 HX1 
   rw [h1]
   clear h1
   obtain ⟨qV0, qV1, qV2, qV3, qV4⟩ := ck5 HV2.out
   go_wp2_with (fail)
   refine (HRV.out _).mono ?_
   rintro e w3 ⟨rfl, hb⟩
   have HB3 := Lib.hid (Below.next HB2.out hb); have HV3 := Lib.hid (HV2.out.next hb); have HA3 := Lib.hid (HA2.out.next hb); have HX3 := Lib.hid (HX2.out.next hb)
   clear hb HB2 HV2 HA2 HX2 qV0 qV1 qV2 qV3 qV4
   rw [h3]
   clear h3
   obtain ⟨qA0, qA1, qA2, qA3, qA4⟩ := ck5 HA3.out
   go_wp2_with (fail)
   refine (HRA.out _).mono ?_
   rintro e w4 ⟨rfl, hb⟩
   have HB4 := Lib.hid (Below.next HB3.out hb); have HV4 := Lib.hid (HV3.out.next hb); have HA4 := Lib.hid (HA3.out.next hb); have HX4 := Lib.hid (HX3.out.next hb)
   clear hb HB3 HV3 HA3 HX3 qA0 qA1 qA2 qA3 qA4
   rw [h4]
   clear h4
   obtain ⟨c0, c1, c2, c3, c4, f0, f1, f2, f3, f4, hltX⟩ := blk_five HX4.out
   go_wp2_with (fail)
   refine bend (P := bodyPost _ _ _ _ _) HX4.out HB4.out (show w.heap.size ≤ w.heap.size + 2 by omega) _ _ _ _ _ ?_
   clear c0 f0 c1 f1 c2 f2 c3 f3 c4 f4 HB4 HV4 HA4 HX4 hltX 
   intro w9 hx9 hb9 c0 c1 c2 c3 c4
   refine bodyPost_ret (v := .tuple #[.agg zz, .slice none 0 0, .int .i64 0, .int .i64 1]) (by simp [results, Tryz.results15, go_sem, c0, c1, c2, c3, c4]) rfl ⟨hb9, by rw [HX.out]; exact ⟨by decide, rfl⟩⟩
theorem run_any (l : List No) (A : Option Addr) (c : Nat) (k : List UInt8) (v a : Va) (n : Int) (w : World) (hn : Nds w A l) (hkn : KN w) (ht : Tab w) (hl : l.length ≤ 4294967296) :
 Calls Tryz.prog 11 #[.slice A l.length c, .agg #[.string (tx k), .int .i64 v.k, .int .i64 v.n, .string (tx v.s), .int .i64 v.x, .int .i64 v.y, .int .i64 a.k, .int .i64 a.n, .string (tx a.s), .int .i64 a.x, .int .i64 a.y], .int .i64 n] w (RunQ (rnX l k v a n) w) := by
 by_cases h : Rt l = true ∧ rEnv k v a = true ∧ 0 ≤ n ∧ n ≤ 100000
 · obtain ⟨h1, h2, h3, h4⟩ := h
   obtain ⟨m, rfl⟩ : ∃ m : Nat, n = (m : Int) := ⟨n.toNat, by omega⟩
   exact run_yes l A c k v a m w hn hkn ht hl h1 h2 (by omega)
 · exact run_no l A c k v a n w hn hkn ht hl h
def stv (X : Rs Va) : Value := match X with
 | .er x => .tuple #[.int .i64 0, .int .i64 x]
 | .ok _ _ n => .tuple #[.int .i64 (100000 - (n : Int)), .int .i64 0]
theorem rnX_left {l : List No} {k : List UInt8} {v a u : Va} {n : Int} {S : St} {m : Nat} (h : rnX l k v a n = .ok u S m) : m ≤ n ∧ rt u = true ∧ S.out.length ≤ 64 ∧ (∀ p ∈ S.out, True) := by
 unfold rnX at h
 split at h
 · rename_i hc
   obtain ⟨h1, h2, h3, h4⟩ := hc
   have h2' := h2
   unfold rEnv at h2'
   simp only [Bool.and_eq_true, decide_eq_true_eq] at h2'
   have hg : Gd (S0 k v a) n.toNat := ⟨h2'.1.1, h2'.1.2, h2'.2, (by show (-9007199254740992 : Int) ≤ 0 ∧ (0 : Int) ≤ 9007199254740992; decide), rt_vz, Nat.zero_le _, by omega⟩
   obtain ⟨g1, g2⟩ := ev_good 25 (Nat.le_refl _) l [] (Rt_in h1).2 _ _ _ _ _ hg h
   rcases ev_fu 25 l (S0 k v a) n.toNat with ⟨a', S1, m', hm, e, _, _⟩ | ⟨x, e, _⟩
   · rw [h] at e
     injection e with _ _ e3
     subst e3
     exact ⟨by omega, g1, g2.out, fun _ _ => trivial⟩
   · rw [h] at e; cases e
 · cases h
set_option maxRecDepth 100000 in
set_option maxHeartbeats 4000000 in
theorem steps_any (l : List No) (A : Option Addr) (c : Nat) (k : List UInt8) (v a : Va) (w : World) (hn : Nds w A l) (hkn : KN w) (ht : Tab w) (hl : l.length ≤ 4294967296) :
 Calls Tryz.prog 12 #[.slice A l.length c, .agg #[.string (tx k), .int .i64 v.k, .int .i64 v.n, .string (tx v.s), .int .i64 v.x, .int .i64 v.y, .int .i64 a.k, .int .i64 a.n, .string (tx a.s), .int .i64 a.x, .int .i64 a.y]] w (Gives (stv (rnX l k v a 100000)) w) := by
 have hb1 := box1 w (.cells #[.string (tx k), .int .i64 v.k, .int .i64 v.n, .string (tx v.s), .int .i64 v.x, .int .i64 v.y, .int .i64 a.k, .int .i64 a.n, .string (tx a.s), .int .i64 a.x, .int .i64 a.y] 28)
 have HB1 := Lib.hid hb1
 have HRU := Lib.hid (fun w1 (h : Below w.heap.size w w1) => run_any l A c k v a 100000 w1 (hn.next h) (hkn.next h) (ht.next h) hl)
 clear hb1 hn hkn ht
 go_enter Tryz.func12, Tryz.ntmps12
 go_wp2_with (fail)
 refine (HRU.out _ HB1.out).mono ?_
 rintro e w2 ⟨hb, hq⟩
 have HB2 := Lib.hid (Below.next HB1.out hb)
 clear hb HB1 HRU
 obtain ⟨X, hX⟩ : ∃ X, rnX l k v a 100000 = X := ⟨_, rfl⟩
 have HXE := Lib.hid hX
 rw [hX] at hq ⊢
 clear hX
 cases X with
 | er x =>
   obtain ⟨hx0, rfl⟩ := hq
   have HR : Hid (stv (.er x) = .tuple #[.int .i64 0, .int .i64 x]) := rfl
   have hx1 : (x == 0) = false := by simpa using hx0
   have hx2 : (x != 0) = true := by simpa using hx0
   clear hx0
   go_wp2_with (fail)
   go_ret2
   exact ⟨by rw [HXE.out, HR.out]; rfl, HB2.out.alloc HB2.out.size _⟩
 | ok u S n =>
   obtain ⟨Ao, co, _, rfl⟩ := hq
   have hn : (n : Int) ≤ 100000 := (rnX_left HXE.out).1
   have HR : Hid (stv (.ok u S n) = .tuple #[.int .i64 (100000 - (n : Int)), .int .i64 0]) := rfl
   go_wp2_with (fail)
   go_ret2
   exact ⟨by rw [HXE.out, HR.out]; rfl, HB2.out.alloc HB2.out.size _⟩
def egT : List UInt8 := [40, 101, 97, 99, 104, 32, 51, 32, 40, 101, 109, 105, 116, 32, 40, 116, 101, 120, 116, 32, 105, 41, 32, 118, 97, 108, 41, 41]
def egL : List No := [⟨28, vz⟩, ⟨0, nv 3⟩, ⟨26, vz⟩, ⟨20, vz⟩, ⟨1, nv 3⟩, ⟨1, nv 1⟩]
theorem wr_nv {n : Nat} (h : n < 10) : wr (nv n) = [UInt8.ofNat (48 + n)] := by
 rw [show nv (n : Int) = ⟨0, n, [], 0, 0⟩ from rfl, wr_int]; unfold Lib.itoa
 rw [if_neg (by omega), show ((n : Int)).toNat = n from rfl, dec_small h]
theorem eg_wt : wt 25 egL = egT := by
 have e1 : wr (nv 3) = [51] := wr_nv (n := 3) (by decide)
 have e : wt 25 egL = 40 :: ([101, 97, 99, 104] ++ ((32 :: (wr (nv 3) ++ (32 :: ((40 :: ([101, 109, 105, 116] ++ ((32 :: ((40 :: ([116, 101, 120, 116] ++ ((32 :: ([105] ++ [])) ++ [41]))) ++ (32 :: ([118, 97, 108] ++ [])))) ++ [41]))) ++ [])))) ++ [41])) := by kernel_rfl
 rw [e, e1]; rfl
theorem eg_ps : ps egT = (egL, 0, 0) := by
 rw [← eg_wt]
 exact ps_wt (by decide +kernel) (by rw [eg_wt]; decide)
theorem eg_rt : Rt egL = true := by decide +kernel
theorem eg_env : rEnv [] (nv 7) vz = true := by decide +kernel
theorem eg_nx1 : nx egL.tail = egL.drop 2 := by decide +kernel
set_option maxRecDepth 100000 in
theorem eg_step0 (S : St) (n : Nat) : ev 24 (egL.drop 2) S (n + 4) = (if 64 < (wr (nv S.i)).length then fail 3 else emitM (wr (nv S.i)) S.val) S n := by rfl
theorem eg_step {S : St} {n i : Nat} (hi : S.i = (i : Int)) (h : i < 10) (ho : S.out.length < 64) : ev 24 (egL.drop 2) S (n + 4) = .ok S.val { S with out := S.out ++ [([UInt8.ofNat (48 + i)], S.val)] } n := by
 rw [eg_step0, hi, wr_nv h, if_neg (by show ¬ 64 < 1; decide)]
 unfold emitM
 rw [if_neg (by omega), ← hi]
def egS : St := { S0 [] (nv 7) vz with out := [([48], nv 7), ([49], nv 7), ([50], nv 7)] }
theorem eg_run : rnX egL [] (nv 7) vz 100 = .ok (nv 7) egS 86 := by
 unfold rnX
 rw [if_pos ⟨eg_rt, eg_env, by decide, by decide⟩]
 have e : ev 25 egL (S0 [] (nv 7) vz) (100 : Int).toNat = withI (lp (ev 24 (nx egL.tail)) 3 0 vz) (S0 [] (nv 7) vz) 98 := rfl
 rw [e, eg_nx1]
 unfold withI
 have h : lp (ev 24 (egL.drop 2)) 3 0 vz (S0 [] (nv 7) vz) 98 = .ok (nv 7) { egS with i := 2 } 86 := by
  rw [lp_succ]
  show bnd (ev 24 (egL.drop 2)) _ { S0 [] (nv 7) vz with i := 0 } (94 + 4) = _
  rw [bnd_ok (eg_step (i := 0) rfl (by decide) (by decide)), lp_succ]
  show bnd (ev 24 (egL.drop 2)) _ { S0 [] (nv 7) vz with i := 1, out := [([48], nv 7)] } (90 + 4) = _
  rw [bnd_ok (eg_step (i := 1) rfl (by decide) (by decide)), lp_succ]
  show bnd (ev 24 (egL.drop 2)) _ { S0 [] (nv 7) vz with i := 2, out := [([48], nv 7), ([49], nv 7)] } (86 + 4) = _
  rw [bnd_ok (eg_step (i := 2) rfl (by decide) (by decide))]; rfl
 rw [h]; rfl
set_option maxRecDepth 100000 in
set_option maxHeartbeats 1000000 in
theorem eq_pair (o s : ByteArray) (a b x y : Int) (w : World) : (binOp .eql 58 (.agg #[.string o, .int .i64 a, .int .i64 b, .string s, .int .i64 x, .int .i64 y]) (.agg #[.string o, .int .i64 a, .int .i64 b, .string s, .int .i64 x, .int .i64 y])).run Tryz.prog w = .ok (.bool true) w := by
 have u := Tryz.underlying3
 have hN : Tryz.prog.underlying 58 = some (.struct (Tryz.prog.fieldsOf 58)) := by kernel_rfl
 have hS : Tryz.prog.underlying 26 = some (.struct (Tryz.prog.fieldsOf 26)) := by kernel_rfl
 have hS2 : Tryz.prog.underlying 24 = some (.struct (Tryz.prog.fieldsOf 24)) := by kernel_rfl
 have hp0 : Tryz.prog.stoodInHeld 58 = false := by kernel_rfl
 have hp : Tryz.prog.stoodInHeld 26 = false := by kernel_rfl
 have hp2 : Tryz.prog.stoodInHeld 24 = false := by kernel_rfl
 have hr := fun d xs ys w => run_equalIn_struct (P := Tryz.prog) w d 26 xs ys hS hp
 have hq := fun d xs ys w => run_equalIn_struct (P := Tryz.prog) w d 24 xs ys hS2 hp2
 rw [run_eql_struct, show (10000 : Nat) = 9999 + 1 from rfl, run_equalIn_struct w 9999 58 _ _ hN hp0]
 clear hN hS hS2 hp hp0 hp2
 simp only [Program.fieldsOf, Tryz.underlying58, Tryz.underlying26, Tryz.underlying24] at hq hr ⊢
 go_simp
set_option maxRecDepth 100000 in
set_option maxHeartbeats 2000000 in
theorem awake9_any (w : World) (hk : KN w) (ht : Tab w) : Calls Tryz.prog 8 #[] w (Gives (.bool true) w) := by
 have HP := Lib.hid (eparse_any (tx egT) w hk)
 rw [tx_list, eg_ps] at HP
 have HK := Lib.hid hk; have HT := Lib.hid ht
 clear hk ht
 go_enter Tryz.func8, Tryz.ntmps8
 go_wp2_with (fail)
 refine HP.out.mono ?_
 rintro e w1 ⟨A, c, rfl, ho, hb⟩
 have HNd : Hid (Nds w1 A egL) := Nds.of_own ho
 have HB := Lib.hid hb
 have HRU : Hid (Calls Tryz.prog 11 #[.slice A 6 c, .agg #[.string ⟨#[]⟩, .int .i64 0, .int .i64 7, .string ⟨#[]⟩, .int .i64 0, .int .i64 0, .int .i64 0, .int .i64 0, .string ⟨#[]⟩, .int .i64 0, .int .i64 0], .int .i64 100] w1 (RunQ (rnX egL [] (nv 7) vz 100) w1)) :=
  run_any egL A c [] (nv 7) vz 100 w1 HNd.out (HK.out.next hb) (HT.out.next hb) (by decide)
 rw [eg_run] at HRU
 clear hb HP ho
 go_wp2_with (fail)
 refine (HRU.out).mono ?_
 rintro e w2 ⟨hb, Ao, co, ho, rfl⟩
 have ho : w2.ownsRow w1.heap.size 58 6 (.slice Ao 3 co) 3 (pcells egS.out) := ho
 obtain ⟨g, cap, hv, _, hgl⟩ := ho.form (by omega)
 injection hv with h1 h2 h3
 subst h1
 subst h3
 clear h2
 have HB2 := Lib.hid (Below.next HB.out hb)
 have c0 : w2.cell? ⟨g, 12, none⟩ = some (.string ⟨#[50]⟩) := by rw [ho.cellAt 12 (by omega)]; rfl
 have c1 : w2.cell? ⟨g, 13, none⟩ = some (.int .i64 0) := by rw [ho.cellAt 13 (by omega)]; rfl
 have c2 : w2.cell? ⟨g, 14, none⟩ = some (.int .i64 7) := by rw [ho.cellAt 14 (by omega)]; rfl
 have c3 : w2.cell? ⟨g, 15, none⟩ = some (.string ⟨#[]⟩) := by rw [ho.cellAt 15 (by omega)]; rfl
 have c4 : w2.cell? ⟨g, 16, none⟩ = some (.int .i64 0) := by rw [ho.cellAt 16 (by omega)]; rfl
 have c5 : w2.cell? ⟨g, 17, none⟩ = some (.int .i64 0) := by rw [ho.cellAt 17 (by omega)]; rfl
 have hE := eq_pair ⟨#[50]⟩ ⟨#[]⟩ 0 7 0 0
 clear ho hb HB HRU HNd
 have hln : ((egS.out.length : Nat) : Int) = 3 := rfl
 go_wp2_with (fail)
 go_ret
 exact ⟨rfl, HB2.out.alloc HB2.out.size _⟩
def FewE (l : List No) (w : World) (e : Ending) (w' : World) : Prop := ∃ b : Int, e = .returned (.int .i64 b) ∧ Below w.heap.size w w' ∧ (b = 0 ∨ b = 1 ∧ l.length < 100)
set_option maxRecDepth 100000 in
set_option maxHeartbeats 2000000 in
theorem few9_any (l : List No) (A : Option Addr) (c : Nat) (k : List UInt8) (v a : Va) (w : World) (hn : Nds w A l) : Calls Tryz.prog 9 #[.slice A l.length c, .agg #[.string (tx k), .int .i64 v.k, .int .i64 v.n, .string (tx v.s), .int .i64 v.x, .int .i64 v.y, .int .i64 a.k, .int .i64 a.n, .string (tx a.s), .int .i64 a.x, .int .i64 a.y]] w (FewE l w) := by
 have h1 : Blk (w.alloc (.cells #[.string (tx k), .int .i64 v.k, .int .i64 v.n, .string (tx v.s), .int .i64 v.x, .int .i64 v.y, .int .i64 a.k, .int .i64 a.n, .string (tx a.s), .int .i64 a.x, .int .i64 a.y] 28)) w.heap.size (ecl k v a) := Blk.made w 28 (ecl k v a) rfl
 have hb1 := box1 w (.cells #[.string (tx k), .int .i64 v.k, .int .i64 v.n, .string (tx v.s), .int .i64 v.x, .int .i64 v.y, .int .i64 a.k, .int .i64 a.n, .string (tx a.s), .int .i64 a.x, .int .i64 a.y] 28)
 have H1 := Lib.hid h1; have HB1 := Lib.hid hb1; have HN := Lib.hid (hn.next hb1)
 clear h1 hb1 hn
 go_enter Tryz.func9, Tryz.ntmps9
 go_wp2_with (fail)
 obtain ⟨w1, hw1⟩ : ∃ w1, w.alloc (.cells #[.string (tx k), .int .i64 v.k, .int .i64 v.n, .string (tx v.s), .int .i64 v.x, .int .i64 v.y, .int .i64 a.k, .int .i64 a.n, .string (tx a.s), .int .i64 a.x, .int .i64 a.y] 28) = w1 := ⟨_, rfl⟩
 rw [hw1] at H1 HB1 HN ⊢
 clear hw1
 have c0 := H1.out.c 0 _ rfl; have c3 := H1.out.c 3 _ rfl; have c8 := H1.out.c 8 _ rfl
 go_loop [5, 6] (fun t i => ∃ j q : Nat, j ≤ l.length ∧ j ≤ 100 ∧ q ≤ j * 10000 ∧ i = .int .i64 (j : Int) ∧ t = .int .i64 (q : Int)) (fun _ i => l.length - (intOf i).toNat)
 case atStart => exact ⟨0, 0, Nat.zero_le _, Nat.zero_le _, Nat.zero_le _, rfl, rfl⟩
 case round =>
  obtain ⟨j, q, hj, hj1, hq, rfl, rfl⟩ := hrel
  by_cases hlt : j < l.length ∧ j < 100
  · obtain ⟨hlt, hl1⟩ := hlt
    obtain ⟨G, O, rfl⟩ := HN.out.shape (by omega)
    have a3 := HN.out.cell hlt 3 _ rfl
    obtain ⟨s, hs⟩ : ∃ s, tx (nd l j).v.s = s := ⟨_, rfl⟩
    rw [hs] at a3
    clear hs
    obtain ⟨z, hz, hz1⟩ : ∃ z : Nat, min ((s.size : Nat) : Int) 10000 = (z : Int) ∧ z ≤ 10000 := ⟨min s.size 10000, by omega, by omega⟩
    go_wp2_with (fail)
    go_round
    case rel => exact ⟨j + 1, q + z, by omega, by omega, by omega, by go_num, by go_num⟩
    case measure => simp [intOf]; omega
  · by_cases hjl : j < l.length
    · have hj2 : ¬ ((j : Int) < 100) := by omega
      have hl2 : (100 : Int) ≤ (l.length : Int) := by omega
      go_wp2_with (fail)
      go_ret
      exact ⟨0, rfl, HB1.out, .inl rfl⟩
    · obtain rfl : j = l.length := by omega
      clear hlt hjl
      by_cases hl2 : (100 : Int) ≤ (l.length : Int)
      · go_wp2_with (fail)
        go_ret
        exact ⟨0, rfl, HB1.out, .inl rfl⟩
      by_cases hq2 : (5000 : Int) < (q : Int)
      · go_wp2_with (fail)
        go_ret
        exact ⟨0, rfl, HB1.out, .inl rfl⟩
      have hk0 := tx_size k; have hv0 := tx_size v.s; have ha0 := tx_size a.s
      obtain ⟨tk, htk⟩ : ∃ t, tx k = t := ⟨_, rfl⟩
      obtain ⟨tv, htv⟩ : ∃ t, tx v.s = t := ⟨_, rfl⟩
      obtain ⟨ta, hta⟩ : ∃ t, tx a.s = t := ⟨_, rfl⟩
      rw [htk] at c0 hk0; rw [htv] at c3 hv0; rw [hta] at c8 ha0
      rw [htk, htv, hta]
      clear htk htv hta
      by_cases hs1 : 5000 < tk.size
      · go_wp2_with (fail)
        go_ret
        exact ⟨0, rfl, HB1.out, .inl rfl⟩
      by_cases hs2 : 5000 < tv.size
      · go_wp2_with (fail)
        go_ret
        exact ⟨0, rfl, HB1.out, .inl rfl⟩
      by_cases hs3 : 5000 < ta.size
      · go_wp2_with (fail)
        go_ret
        exact ⟨0, rfl, HB1.out, .inl rfl⟩
      go_wp2_with (fail)
      go_ret
      exact ⟨1, rfl, HB1.out, .inr ⟨rfl, by omega⟩⟩
end Go.Proofs.YtcdjincaedpodaaGreatDoor.Ev
namespace Go.Proofs.YtcdjincaedpodaaGreatDoor.Ev
open Go.ChangeShapes Go.WideShapes Go.ChangeAt Go.RowKit Ov Tp Ga Va Ex
theorem own_far {w : World} {base n c lo : Nat} {e : TypeId} {A : Option Addr} {xs : List Value} (h : w.ownsRow base e 6 (.slice A n c) n xs) (hb : lo < base) : ∀ a, A = some a → a.block ≠ lo := by
 intro a ha
 rcases h.2 with ⟨h1, _⟩ | ⟨g, cap, cur, hv, h1, _⟩
 · injection h1 with h2 _ _
   rw [h2] at ha; cases ha
 · injection hv with h2 _ _
   rw [h2] at ha
   obtain rfl := Option.some.inj ha
   show g ≠ lo
   omega
end Go.Proofs.YtcdjincaedpodaaGreatDoor.Ev
namespace Go.Proofs.YtcdjincaedpodaaGreatDoor.Ev
open Go.ChangeShapes Go.WideShapes Go.ChangeAt Go.RowKit Ov Va Ex
section
variable {w0 w : World} {p : Option Addr} {z : Nat}
theorem prs_puts {l : List (List UInt8 × Va)} (vs : List Value) (o : Nat) (h : Prs w p l) (hC : ∀ a, p = some a → a.block ≠ z) : Prs (putL w z o vs) p l := fun hn => by
 obtain ⟨B, O, e, hc⟩ := h hn
 exact ⟨B, O, e, fun i j v hi hv => (cell_puts_other (fun e2 => hC _ e e2.symm) vs o).trans (hc i j v hi hv)⟩
end
end Go.Proofs.YtcdjincaedpodaaGreatDoor.Ev
namespace Go.Proofs.YtcdjincaedpodaaGreatDoor.Ev
open Ov Tp Ga Va Ex
theorem rnX_er_more {l : List No} {k : List UInt8} {v a : Va} {n : Nat} {x : Int} (h : rnX l k v a (n : Int) = .er x) (hn : n ≤ 100000) (hx : x ≠ 15) {j : Nat} (hj : n + j ≤ 100000) : rnX l k v a ((n + j : Nat) : Int) = .er x := by
 unfold rnX at h ⊢
 by_cases hc : Rt l = true ∧ rEnv k v a = true
 · rw [if_pos ⟨hc.1, hc.2, by omega, by omega⟩] at h ⊢
   rw [show ((n : Int)).toNat = n from rfl] at h
   rw [show (((n + j : Nat) : Int)).toNat = n + j from rfl]
   rcases ev_fu 25 l (S0 k v a) n with ⟨a', S1, m', hm, e, _, _⟩ | ⟨x', e, e1⟩
   · rw [e] at h; cases h
   · rw [e] at h
     injection h with h
     subst h
     exact e1 hx j
 · rw [if_neg (fun h => hc ⟨h.1, h.2.1⟩)] at h ⊢
   exact h
theorem rnX_ok_all {l : List No} {k : List UInt8} {v a u : Va} {n m : Nat} {S : St} (h : rnX l k v a (n : Int) = .ok u S m) : ∃ N : Nat, N + m = n ∧ 0 < N ∧ (∀ j, N + j ≤ 100000 → rnX l k v a ((N + j : Nat) : Int) = .ok u S j) ∧ rnX l k v a ((N - 1 : Nat) : Int) = .er 15 := by
 unfold rnX at h ⊢
 by_cases hc : Rt l = true ∧ rEnv k v a = true ∧ 0 ≤ (n : Int) ∧ (n : Int) ≤ 100000
 · rw [if_pos hc] at h
   rw [show ((n : Int)).toNat = n from rfl] at h
   rcases ev_fu 25 l (S0 k v a) n with ⟨a', S1, m', hm, e, e1, e2⟩ | ⟨x', e, e1⟩
   · rw [e] at h
     injection h with h1 h2 h3
     subst h1; subst h2; subst h3
     have hN : 0 < n - m' := by
      rcases Nat.eq_zero_or_pos (n - m') with h0 | h0
      · have e0 := e1 0
        rw [h0] at e0
        have hx := (Rt_in hc.1).2
        cases l with
        | nil => rw [ex_nil] at hx; cases hx
        | cons q t => rw [ev_cons] at e0; cases e0
      · exact h0
     refine ⟨n - m', by omega, hN, fun j hj => ?_, ?_⟩
     · rw [if_pos ⟨hc.1, hc.2.1, by omega, by omega⟩]; exact e1 j
     · rw [if_pos ⟨hc.1, hc.2.1, by omega, by omega⟩]; exact e2 _ (by omega)
   · rw [e] at h; cases h
 · rw [if_neg hc] at h; cases h
end Go.Proofs.YtcdjincaedpodaaGreatDoor.Ev

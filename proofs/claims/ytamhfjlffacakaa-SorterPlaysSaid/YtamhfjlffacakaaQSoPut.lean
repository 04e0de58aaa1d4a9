/-
  A text of this claim: SoPut.
-/
import Derived.Test.YtamhfjlffacakaaQ3
import Derived.Test.YtamhfjlffacakaaQ1
import Derived.BigRegion
import Derived.Maps.AppendAt
namespace Go.Proofs.Ytamhfjlffacakaa.So
open Go.ChangeShapes Go.WideShapes Go.ChangeAt Go.RowKit Go.Sort Go.Proofs Ov Va St Pr
theorem own_shape {w : World} {base size n : Nat} {e : TypeId} {v : Value} {xs : List Value} (h : w.ownsRow base e size v (n + 1) xs) : ∃ g c, v = .slice (some ⟨g, 0, none⟩) (n + 1) c := by
 rcases h.2 with ⟨_, h0⟩ | ⟨g, cap, cur, e, _⟩
 · omega
 · exact ⟨g, cap, e⟩
theorem infoR : (Try.prog.info? 78).map (fun i => (i.zero, i.size, i.bytes)) = some (some (.agg #[.int .i64 0, .slice none 0 0]), 2, 32) := by kernel_rfl
structure Ord (lo : Nat) (R : World → Prop) (Q : Nat → Prop) (sl : Nat → Value) (lt : Nat → Nat → Bool) : Prop where
 swo : SWO lt
 one : ∀ a, ∃ A n c, sl a = .slice A n c
 keep : ∀ X Y, R X → Below lo X Y → R Y
 call : ∀ a b W, Q a → Q b → R W → Calls Try.prog 37 #[.agg #[.int .i64 a, sl a], .agg #[.int .i64 b, sl b]] W (Gives (.bool (lt a b)) W)
def JP (hb lo n : Nat) (v : Value) (sl : Nat → Value) (lt : Nat → Nat → Bool) (f : Nat → Nat) (r : Nat) (sr : Value) (w : World) (a' : Act) (w' : World) : Prop := ∃ (a gb c : Nat) (g : Nat → Nat) (u5 u6 u7 u8 u9 u10 u11 u12 u13 u14 u15 u16 u17 u18 u19 u20 u21 u22 u23 u24 u25 u26 u27 u28 u29 u30 u31 u32 u33 u34 u35 u36 u37 u38 u39 u40 u41 u42 u43 u44 u45 u46 u47 u48 u49 u50 u51 u52 u53 u54 u55 u56 u57 u58 u59 u60 u61 u62 u63 u64 u65 u66 u67 u68 u69 u70 u71 u72 u73 u74 u2 : Value),
 a < n + 1 ∧ HM w' hb lo (.slice (some ⟨gb, 0, none⟩) (n + 1) c) sl g (n + 1) ∧ Up lt g (n + 1) a ∧ (∀ x, In g (n + 1) x ↔ In f n x ∨ x = r) ∧ (Inj f n → ¬ In f n r → Inj g (n + 1)) ∧ Kp (hO hb v) w w' ∧
 (∀ b, hO hb (.slice (some ⟨gb, 0, none⟩) (n + 1) c) b → hO hb v b ∨ w.heap.size ≤ b) ∧
 a' = { tmps := #[.pointer (some ⟨hb, 0, none⟩), .agg #[.int .i64 r, sr], u2, .pointer (some ⟨w.heap.size, 0, none⟩), .int .i64 a, u5, u6, u7, u8, u9, u10, u11, u12, u13, u14, u15, u16, u17, u18, u19, u20, u21, u22, u23, u24, u25, u26, u27, u28, u29, u30, u31, u32, u33, u34, u35, u36, u37, u38, u39, u40, u41, u42, u43, u44, u45, u46, u47, u48, u49, u50, u51, u52, u53, u54, u55, u56, u57, u58, u59, u60, u61, u62, u63, u64, u65, u66, u67, u68, u69, u70, u71, u72, u73, u74], defers := [] }
def muP (a' : Act) (_ : World) : Nat := (intOf (a'.tmps.getD 4 undef)).toNat
def PutQ (hb lo n : Nat) (v : Value) (sl : Nat → Value) (lt : Nat → Nat → Bool) (f : Nat → Nat) (r : Nat) (w : World) (e : Ending) (w' : World) : Prop :=
 e = .returned (.tuple #[]) ∧ ∃ v' g, HM w' hb lo v' sl g (n + 1) ∧ Hp lt g (n + 1) ∧ (∀ x, In g (n + 1) x ↔ In f n x ∨ x = r) ∧ (Inj f n → ¬ In f n r → Inj g (n + 1)) ∧ Kp (hO hb v) w w' ∧ (∀ b, hO hb v' b → hO hb v b ∨ w.heap.size ≤ b)
set_option maxRecDepth 100000 in
set_option maxHeartbeats 4000000 in
theorem put_any (hb lo n : Nat) (v : Value) (sl : Nat → Value) (f : Nat → Nat) (r : Nat) (lt : Nat → Nat → Bool) (R : World → Prop) (Q : Nat → Prop) (w : World) (hm : HM w hb lo v sl f n) (hn : n ≤ 1000000) (hp : Hp lt f n)
 (hR : R w) (ho : Ord lo R Q sl lt) (hQ : ∀ i, i < n → Q (f i)) (hr : Q r) (hlo : lo ≤ w.heap.size) :
 Calls Try.prog 39 #[.pointer (some ⟨hb, 0, none⟩), .agg #[.int .i64 r, sl r]] w (PutQ hb lo n v sl lt f r w) := by
 have HM0 := Lib.hid hm; have HP := Lib.hid hp; have HR := Lib.hid hR; have HO := Lib.hid ho; have HQ := Lib.hid hQ; have HQR := Lib.hid hr
 have H1 : Hid ((sl r).oneCell' = true) := by obtain ⟨A, n, c, e⟩ := ho.one r; show (sl r).oneCell' = true; rw [e]; rfl
 obtain ⟨i0, hi0, hi1, hi2, hi3⟩ := info_parts infoR
 have HI0 := Lib.hid hi0; have HI1 := Lib.hid hi1; have HI2 := Lib.hid hi2; have HI3 := Lib.hid hi3
 have HLT := Lib.hid hm.h.lt
 clear hm hp hR ho hQ hr hi0 hi1 hi2 hi3
 obtain ⟨sr, hsr⟩ : ∃ s, s = sl r := ⟨_, rfl⟩
 have HSR := Lib.hid hsr
 rw [← hsr] at H1
 rw [← hsr]
 clear hsr
 go_enter Try.func39, Try.ntmps39
 go_wp2_with (fail)
 refine wp_scope_once 0 (JP hb lo n v sl lt f r sr w) muP rfl (fun NX => ?_) ?_
 · have HB1 := Lib.hid (box1 w (.cells #[.int .i64 r, sr] 78))
   have HX := Lib.hid (Blk.made w 78 [.int .i64 r, sr] rfl)
   have HM1 := Lib.hid (HM0.out.next HB1.out)
   generalize w.alloc (.cells #[.int .i64 r, sr] 78) = w0 at *
   have c0 := HM1.out.h.c 0 _ rfl
   have c0' : (w0.alloc (.cells #[.int .i64 r, sr] 78)).cell? ⟨hb, 0, none⟩ = some v := (HM1.out.next (box1 _ _)).h.c 0 _ rfl
   have x0 := HX.out.c 0 _ rfl
   have x1 := HX.out.c 1 _ rfl
   have HB2 := Lib.hid (below_drewN HB1.out 1)
   have HZ2 : Hid (w0.drew.heap.size = w0.heap.size) := rfl
   have HM2 : Hid (HM w0.drew hb lo v sl f n) := HM1.out.next (below_drewN (Below.refl _ _) 1)
   have HOW : Hid ((w0.drew.alloc (.cells #[.int .i64 r, sr] 78)).ownsRow lo 78 2 v n (ics sl f n)) := (HM2.out.next (box1 _ _)).o
   have HNW : Hid (∀ j u, [Value.int .i64 r, sr][j]? = some u → (w0.drew.alloc (.cells #[.int .i64 r, sr] 78)).cell? ((⟨w0.heap.size, 0, none⟩ : Addr).add j) = some u) := fun j u hj => by
    rw [Addr.add_lit, Nat.zero_add]
    exact (Blk.made w0.drew 78 [.int .i64 r, sr] rfl).c j u hj
   have HN1 : Hid (∀ u ∈ [Value.int .i64 r, sr], u.oneCell' = true) := fun u hu => by
    simp only [List.mem_cons, List.not_mem_nil, or_false] at hu
    rcases hu with rfl | rfl
    · rfl
    · exact H1.out
   have HS1 : Hid (n + 1 ≤ maxLen) := by show _ ≤ _; unfold maxLen; omega
   have HS2 : Hid ((n + 1) * 32 ≤ 140737488355328) := by show _ ≤ _; omega
   have HS3 : Hid (lo ≤ (w0.drew.alloc (.cells #[.int .i64 r, sr] 78)).heap.size) := by
    have h1 : w.heap.size ≤ w0.drew.heap.size := HB2.out.size
    show lo ≤ _
    rw [World.size_alloc]; omega
   clear HB1 HM1 HX
   go_upto_region 1 with fail
   go_region_law (first
    | (refine step_app _ rfl (.tmp 10) (.tmp 12) 73 rfl lo 78 i0 (.agg #[.int .i64 0, .slice none 0 0]) 2 32 Try.underlying73 HI0.out HI1.out HI2.out HI3.out rfl (by decide) v n (ics sl f n) (by simp [Act.eval]) HOW.out ⟨w0.heap.size, 0, none⟩ 1 1 [.int .i64 r, sr] (by simp [Act.eval]) rfl HNW.out HN1.out HS1.out HS2.out HS3.out ?_
       intro v' w3 hown' hgrow hat
       obtain ⟨gb, c, rfl⟩ := own_shape hown'
       have hh3 := ((HM2.out.h.old (.cells #[.int .i64 r, sr] 78)).kp (O := fun b => v.ownBlock = some b) ((Kp.refl _ _).grown hgrow fun b e => .inl e) fun e => HM0.out.ne e)
       have c3 := hh3.c 0 _ rfl
       have f3 := hh3.f 0 _ rfl)
    | fail)
   all_goals
    have hk3 : Kp (hO hb v) w w3 := ((Below.kp _ HB2.out).alloc _).grown hgrow fun b e => .inl (.inr e)
    have hnb : gb ≠ hb ∧ (v.ownBlock = some gb ∨ w.heap.size ≤ gb) := by
     rcases hat with e | e
     · have e' : v.ownBlock = some gb := e.symm
       exact ⟨fun h => HM0.out.ne (by rw [e', h]), .inl e'⟩
     · injection e with e
       have h1 : w.heap.size ≤ w0.heap.size := HB2.out.size
       have h2 := HLT.out
       have e' : gb = w0.heap.size + 1 := by have : gb = (w0.drew.alloc (.cells #[.int .i64 r, sr] 78)).heap.size := e; rw [World.size_alloc] at this; exact this
       exact ⟨by omega, .inr (by omega)⟩
    have hm3 : HM (w3.setCell ⟨hb, 0, none⟩ (.slice (some ⟨gb, 0, none⟩) (n + 1) c)) hb lo (.slice (some ⟨gb, 0, none⟩) (n + 1) c) sl (fun k => if k = n then r else f k) (n + 1) :=
     ⟨hh3.set 0 _, by
      rw [← ics_more]
      refine own_kp (O := fun b => b = hb) ?_ ((Kp.refl (fun b => b = hb) w3).setCell (b := hb) rfl 0 _) fun g e h => hnb.1 (by have e' : some gb = some g := e; injection e' with e'; rw [e']; exact h)
      unfold ic; rw [← HSR.out]; exact hown', HM0.out.lo, fun e => hnb.1 (by have e' : some gb = some hb := e; injection e' with e')⟩
    have HM3 := Lib.hid hm3
    have HK3 := Lib.hid (hk3.setCell (.inl rfl) 0 (.slice (some ⟨gb, 0, none⟩) (n + 1) c))
    have HNB := Lib.hid hnb.2
    clear hown' hgrow hat hk3 hnb hh3 hm3 HM2 HB2
    clear c3 f3
    generalize w3.setCell ⟨hb, 0, none⟩ (.slice (some ⟨gb, 0, none⟩) (n + 1) c) = w4 at *
    have c4 := HM3.out.h.c 0 _ rfl
    go_wp2_with (fail)
    go_step3
    rename_i hK1 hK2
    refine hK2 _ _ (NX.out _ _ ⟨n, gb, c, _, _, _, _, _, _, _, _, _, _, _, _, _, _, _, _, _, _, _, _, _, _, _, _, _, _, _, _, _, _, _, _, _, _, _, _, _, _, _, _, _, _, _, _, _, _, _, _, _, _, _, _, _, _, _, _, _, _, _, _, _, _, _, _, _, _, _, _, _, _, _, _, Nat.lt_succ_self n, HM3.out, up_start HP.out r, more_in, fun h1 h2 => more_inj h1 h2, HK3.out, fun b e => ?_, rfl⟩)
    rcases e with e | e
    · exact .inl (.inl e)
    · have e' : some gb = some b := e
      injection e' with e'
      subst e'
      rcases HNB.out with h | h
      · exact .inl (.inr h)
      · exact .inr h
 · rintro a' w' ⟨a, gb, c, g, u5, u6, u7, u8, u9, u10, u11, u12, u13, u14, u15, u16, u17, u18, u19, u20, u21, u22, u23, u24, u25, u26, u27, u28, u29, u30, u31, u32, u33, u34, u35, u36, u37, u38, u39, u40, u41, u42, u43, u44, u45, u46, u47, u48, u49, u50, u51, u52, u53, u54, u55, u56, u57, u58, u59, u60, u61, u62, u63, u64, u65, u66, u67, u68, u69, u70, u71, u72, u73, u74, u2, ha, hm, hu, hin, hinj, hk, ho, rfl⟩
   have HM' := Lib.hid hm; have HU := Lib.hid hu; have HIN := Lib.hid hin; have HINJ := Lib.hid hinj; have HK := Lib.hid hk; have HOO := Lib.hid ho
   clear hm hu hin hinj hk ho
   have HMU : Hid (muP { tmps := #[.pointer (some ⟨hb, 0, none⟩), .agg #[.int .i64 r, sr], u2, .pointer (some ⟨w.heap.size, 0, none⟩), .int .i64 a, u5, u6, u7, u8, u9, u10, u11, u12, u13, u14, u15, u16, u17, u18, u19, u20, u21, u22, u23, u24, u25, u26, u27, u28, u29, u30, u31, u32, u33, u34, u35, u36, u37, u38, u39, u40, u41, u42, u43, u44, u45, u46, u47, u48, u49, u50, u51, u52, u53, u54, u55, u56, u57, u58, u59, u60, u61, u62, u63, u64, u65, u66, u67, u68, u69, u70, u71, u72, u73, u74], defers := [] } w' = a) := by
    show muP _ _ = _
    rfl
   have HR' := Lib.hid (HO.out.keep _ _ HR.out (HK.out.below HM0.out.low hlo))
   rcases Nat.eq_zero_or_pos a with h0 | h0
   · subst h0
     have hz : decide ((0 : Int) < 0) = false := rfl
     go_wp2_with (fail)
     go_quiet (fail)
     go_wp2_with (fail)
     simp only [Exit.jump]
     go_end0
     exact ⟨rfl, _, g, (HM'.out.next (below_drewN (Below.refl _ _) _)), up_done HU.out (.inl rfl), HIN.out, HINJ.out, HK.out.drewN _, HOO.out⟩
   · obtain ⟨p, hp⟩ : ∃ p, p = (a - 1) / 2 := ⟨_, rfl⟩
     have hpz : ((a : Int) - 1) / 2 = (p : Int) := by omega
     have HP := Lib.hid hp
     have hpa : p < a := by omega
     have hpn : (p : Int) < ((n + 1 : Nat) : Int) := by omega
     have han : (a : Int) < ((n + 1 : Nat) : Int) := by omega
     have hdz : decide ((0 : Int) < (a : Int)) = true := decide_eq_true (by omega)
     have QG : ∀ i, i < n + 1 → Q (g i) := fun i hi => by
      rcases (HIN.out (g i)).1 ⟨i, hi, rfl⟩ with ⟨j, hj, e⟩ | e
      · rw [← e]; exact HQ.out j hj
      · rw [e]; exact HQR.out
     have HC := Lib.hid (fun q : Over w' => HO.out.call (g a) (g p) q.val (QG a ha) (QG p (by omega)) (HO.out.keep _ _ HR'.out (q.property.mono (Nat.le_trans hlo HK.out.size))))
     clear QG hp
     go_wp2_with (fail)
     have hcell := HM'.out
     have a0 := fun q : Over w' => over_cell q (hcell.h.c 0 _ rfl)
     have a1 := fun q : Over w' => over_cell q (hcell.h.c 1 _ rfl)
     have b0 := fun q : Over w' => over_cell q (hcell.cells ha).1
     have b1 := fun q : Over w' => over_cell q (hcell.cells ha).2.1
     have d0 := fun q : Over w' => over_cell q (hcell.cells (show p < n + 1 by omega)).1
     have d1 := fun q : Over w' => over_cell q (hcell.cells (show p < n + 1 by omega)).2.1
     clear hcell
     cases hlt : lt (g a) (g p) with
     | false =>
       rw [hlt] at HC
       have HL := Lib.hid hlt; clear hlt
       go_upto_region 4 with fail
       refine wp_over (by kernel_rfl) (by kernel_rfl) ?_
       repeat (go_big_quiet_step (first | fail | with_reducible exact over_gives _ (HC.out _)))
       refine wpQuiet_nil ?_
       rintro w2 ⟨⟨w2, hb2⟩, rfl⟩
       clear a0 a1 b0 b1 d0 d1
       go_wp2_with (fail)
       simp only [Exit.jump]
       go_end0
       exact ⟨rfl, _, g, HM'.out.next hb2, up_done HU.out (.inr (by rw [← HP.out]; exact HL.out)), HIN.out, HINJ.out, HK.out.next hb2, HOO.out⟩
     | true =>
       rw [hlt] at HC
       have HL := Lib.hid hlt; clear hlt
       go_upto_region 4 with fail
       refine wp_over (by kernel_rfl) (by kernel_rfl) ?_
       repeat (go_big_quiet_step (first | fail | with_reducible exact over_gives _ (HC.out _)))
       refine wpQuiet_nil ?_
       rintro w2 ⟨⟨w2, hb2⟩, rfl⟩
       clear a0 a1 b0 b1 d0 d1
       have hm2 := HM'.out.next hb2
       have HK2 := Lib.hid (HK.out.next hb2)
       have hgb : gb ≠ hb := fun e => hm2.ne (by subst e; rfl)
       have hps := show p < n + 1 by omega
       have HSW := Lib.hid (hm2.sw ha hps)
       have HUS := Lib.hid (up_step HO.out.swo HU.out ha h0 (by rw [← HP.out]; exact HL.out))
       rw [← HP.out] at HUS
       have c0 := hm2.h.c 0 _ rfl
       obtain ⟨b0, b1, b2, b3⟩ := hm2.cells ha
       obtain ⟨d0, d1, d2, d3⟩ := hm2.cells hps
       have e1 : ¬ a * 2 = p * 2 := by omega
       have e2 : ¬ a * 2 = p * 2 + 1 := by omega
       have e3 : ¬ a * 2 + 1 = p * 2 := by omega
       have e4 : ¬ a * 2 + 1 = p * 2 + 1 := by omega
       have e5 : ¬ p * 2 = a * 2 := by omega
       have e6 : ¬ p * 2 = a * 2 + 1 := by omega
       have e7 : ¬ p * 2 + 1 = a * 2 := by omega
       have e8 : ¬ p * 2 + 1 = a * 2 + 1 := by omega
       clear hm2 hb2
       have HKK := Lib.hid fun (W : World) (x0 x1 x2 x3 : Value) => ((((((Kp.refl (fun b => b = gb) W).setCell (b := gb) rfl (a * 2) x0).setCell (b := gb) rfl (a * 2 + 1) x1).setCell (b := gb) rfl (p * 2) x2).setCell (b := gb) rfl (p * 2 + 1) x3).drewN 1)
       obtain ⟨A1, n1, c1, hs1⟩ := HO.out.one (g a)
       obtain ⟨A2, n2, c2, hs2⟩ := HO.out.one (g p)
       rw [hs1] at b1
       rw [hs2] at d1
       rw [hs1, hs2] at HSW
       clear hs1 hs2 HC
       have hpn' : (p : Int) < (n : Int) + 1 := by omega
       have han' : (a : Int) < (n : Int) + 1 := by omega
       go_upto_region 5 with fail
       go_region
       have HS2 := Lib.hid (HSW.out.next (below_drewN (Below.refl _ _) 1))
       have HK3 := Lib.hid (HK2.out.trans (HKK.out w2 (.int .i64 (g p)) (.slice A2 n2 c2) (.int .i64 (g a)) (.slice A1 n1 c1)) fun b e => by subst e; exact HOO.out _ (.inr rfl))
       clear b0 b1 b2 b3 d0 d1 d2 d3 c0 HKK HSW HK2
       generalize ((((w2.setCell ⟨gb, a * 2, none⟩ (.int .i64 (g p))).setCell ⟨gb, a * 2 + 1, none⟩ (.slice A2 n2 c2)).setCell ⟨gb, p * 2, none⟩ (.int .i64 (g a))).setCell ⟨gb, p * 2 + 1, none⟩ (.slice A1 n1 c1)) = w3 at *
       go_wp2_with (fail)
       go_step3
       refine ⟨rfl, ⟨p, gb, c, sw g a p, _, _, _, _, _, _, _, _, _, _, _, _, _, _, _, _, _, _, _, _, _, _, _, _, _, _, _, _, _, _, _, _, _, _, _, _, _, _, _, _, _, _, _, _, _, _, _, _, _, _, _, _, _, _, _, _, _, _, _, _, _, _, _, _, _, _, _, _, _, _, _, hps, HS2.out, HUS.out, fun x => (sw_in ha hps x).trans (HIN.out x), fun h1 h2 => sw_inj ha hps (HINJ.out h1 h2), HK3.out, HOO.out, rfl⟩, ?_⟩
       refine Nat.lt_of_lt_of_eq ?_ HMU.out.symm
       show muP _ _ < a
       unfold muP
       simp [intOf]
       omega
end Go.Proofs.Ytamhfjlffacakaa.So

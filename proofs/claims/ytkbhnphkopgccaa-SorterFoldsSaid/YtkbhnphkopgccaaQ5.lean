/-
  Small texts of this claim, together: SoFolds1, SoEnd, SoGive, SoAwake, SoFolds.
-/
import Derived.Test.YtkbhnphkopgccaaQSoFold
import Derived.Test.YtkbhnphkopgccaaQ4
import Derived.Test.YtkbhnphkopgccaaQSoPutS
import Derived.Test.YtkbhnphkopgccaaQ3
import Derived.Lib.SliceRun
namespace Go.Proofs.Ytkbhnphkopgccaa.So
open Go.Proofs Ov Va St Pr Jo Go.Sort
section
variable {w : List UInt8}
theorem vk_in {k : List UInt8} {l : List Pr} {v : Va} (h : v ∈ vk k l) : ∃ p ∈ l, p.1 = k ∧ p.2 = v := by
 unfold vk ky at h
 obtain ⟨p, hp, e⟩ := List.mem_map.1 h
 obtain ⟨h1, h2⟩ := List.mem_filter.1 hp
 exact ⟨p, h1, of_decide_eq_true h2, e⟩
theorem rp_rt {l : List Pr} (h : ∀ p ∈ l, rp p = true) : ∀ p ∈ l, rt p.2 = true := fun p hp => ((rp_iff p).1 (h p hp)).2
theorem vk_rt {l : List Pr} (h : ∀ p ∈ l, rt p.2 = true) (k : List UInt8) : ∀ v ∈ vk k l, rt v = true := fun v hv => by
 obtain ⟨p, hp, _, e⟩ := vk_in hv
 rw [← e]; exact h p hp
theorem fold13 (hw : isF w = true) {l : List Pr} (hr : ∀ p ∈ l, rt p.2 = true) {e : Int} (h : FoldN w l e) : e = 13 := by
 obtain ⟨he, k, h0, h1⟩ := h
 have hv := vk_rt hr k
 revert hv h0 h1
 generalize vk k l = xs
 intro h0 h1 hv
 match xs, h0 with
 | a :: ta, _ =>
   have ra := hv a (List.mem_cons_self ..)
   have ras : ∀ v ∈ ta, rt v = true := fun v hm => hv v (List.mem_cons_of_mem _ hm)
   have e1 : (fl w a ta).2 = e := h1
   rw [fl_bad hw ta a ra ras fun g => he (by rw [← e1, (fl_good hw ta a ra ras g).1])] at e1
   exact e1.symm
theorem foldY_in (hw : isF w = true) {l m : List Pr} (hr : ∀ p ∈ l, rp p = true) (h : FoldY w l m) : ∀ p ∈ m, rp p = true := fun p hp => by
 have h1 : p ∈ ky p.1 m := List.mem_filter.2 ⟨hp, decide_eq_true rfl⟩
 rw [h.ky] at h1
 by_cases h0 : vk p.1 l = []
 · rw [if_pos h0] at h1; cases h1
 · rw [if_neg h0] at h1
   have e1 := List.mem_singleton.1 h1
   have e2 : p.2 = (fg w (vk p.1 l)).1 := congrArg (·.2) e1
   refine (rp_iff p).2 ⟨?_, by rw [e2]; exact fg_right hw (vk_rt (rp_rt hr) _) h0 (h.ok _ h0)⟩
   obtain ⟨v, hv⟩ := List.exists_mem_of_ne_nil _ h0
   obtain ⟨q, hq, hk, _⟩ := vk_in hv
   rw [← hk]; exact ((rp_iff q).1 (hr q hq)).1
theorem rp_tx {l : List Pr} (h : ∀ p ∈ l, rp p = true) : Tx l := fun p hp => by
 obtain ⟨h1, h2⟩ := (rp_iff p).1 (h p hp)
 refine ⟨by omega, ?_⟩
 rcases rt_yes h2 with ⟨_, _, _, h, _⟩ | ⟨_, _, h, _⟩ | ⟨_, _, h, _⟩
 · rw [h]; simp
 · omega
 · rw [h]; simp
theorem rp_sr {l : List Pr} (h : ∀ p ∈ l, rp p = true) : ∀ p ∈ sr l, rp p = true := fun p hp => h p ((sr_mem l p).1 hp)
def Rel (w : List UInt8) (L L' : List Pr) : Prop := ∀ k, (vk k L = [] ↔ vk k L' = []) ∧ (vk k L ≠ [] → fg w (vk k L) = fg w (vk k L'))
theorem vk_two (k : List UInt8) (la lb : List Pr) : vk k (sr la ++ sr lb) = vk k (sr (la ++ lb)) := by rw [vk_append, vk_sr, vk_sr, vk_sr, vk_append]
theorem rel_of (hw : isF w = true) {la lb ma mb : List Pr} (hr : ∀ p ∈ la ++ lb, rp p = true) (ha : FoldY w (sr la) ma) (hb : FoldY w (sr lb) mb) : Rel w (sr (la ++ lb)) (sr (ma ++ mb)) := fun k => by
 have h := folds_again hw (l1 := sr la) (l2 := sr lb) (fun p hp => rp_rt hr p (by
  rcases List.mem_append.1 hp with h | h
  · exact List.mem_append_left _ ((sr_mem _ _).1 h)
  · exact List.mem_append_right _ ((sr_mem _ _).1 h))) ha hb k
 rw [vk_two] at h
 rw [vk_sr k (ma ++ mb)]
 exact h
theorem err_yes (hw : isF w = true) {la lb m : List Pr} (hr : ∀ p ∈ la ++ lb, rp p = true) {e : Int} (h : FoldN w (sr la) e ∨ FoldN w (sr lb) e) (hx : FoldY w (sr (la ++ lb)) m) : False := by
 obtain ⟨k, h0, h1⟩ := folds_err hw (l1 := sr la) (l2 := sr lb) (fun p hp => rp_rt hr p (by
  rcases List.mem_append.1 hp with h | h
  · exact List.mem_append_left _ ((sr_mem _ _).1 h)
  · exact List.mem_append_right _ ((sr_mem _ _).1 h))) h
 rw [vk_two] at h0 h1
 rw [hx.ok k h0] at h1; cases h1
def FR (w : List UInt8) (l m : List Pr) (er : Int) : Prop := (er = 0 ∧ FoldY w l m) ∨ (er ≠ 0 ∧ m = [] ∧ FoldN w l er)
theorem agree (hw : isF w = true) {L L' m m' : List Pr} {e e' : Int} (hr : ∀ p ∈ L, rp p = true) (hr' : ∀ p ∈ L', rp p = true) (hl : Rel w L L') (h : FR w L m e) (h' : FR w L' m' e') : e = e' ∧ m = m' := by
 rcases h with ⟨rfl, h⟩ | ⟨he, rfl, h⟩
 · rcases h' with ⟨rfl, h'⟩ | ⟨he', rfl, h'⟩
   · exact ⟨rfl, h.uniq h' fun k => ⟨(hl k).1, fun h0 => by rw [(hl k).2 h0]⟩⟩
   · exfalso
     obtain ⟨_, k, h0, h1⟩ := h'
     have r := hl k
     have h2 : vk k L ≠ [] := fun e => h0 (r.1.1 e)
     rw [← r.2 h2] at h1
     exact he' (h1.symm.trans (h.ok k h2))
 · rcases h' with ⟨rfl, h'⟩ | ⟨he', rfl, h'⟩
   · exfalso
     obtain ⟨_, k, h0, h1⟩ := h
     have r := hl k
     rw [r.2 h0] at h1
     exact he (h1.symm.trans (h'.ok k fun e => h0 (r.1.2 e)))
   · exact ⟨(fold13 hw (rp_rt hr) h).trans (fold13 hw (rp_rt hr') h').symm, rfl⟩
theorem foldQ_cases {l : List Pr} {W W' : World} {e : Ending} (h : FoldQ w l W e W') : ∃ A c m er, e = .returned (.tuple #[.slice A m.length c, .int .i64 er]) ∧ PIn W' (A, c, m) ∧ m.length ≤ l.length ∧ Go.RowKit.Below W.heap.size W W' ∧ FR w l m er := by
 obtain ⟨hb, ⟨m, v, rfl, hy, hr, hl⟩ | ⟨er, rfl, hn⟩⟩ := h
 · obtain ⟨A, c, rfl, hp⟩ := own_pin hr
   exact ⟨A, c, m, 0, rfl, hp, hl, hb, .inl ⟨rfl, hy⟩⟩
 · exact ⟨none, 0, [], er, rfl, ⟨Prs.nil _ _, fun _ => ⟨rfl, rfl⟩⟩, Nat.zero_le _, hb, .inr ⟨hn.1, rfl, hn⟩⟩
end
end Go.Proofs.Ytkbhnphkopgccaa.So
namespace Go.Proofs.Ytkbhnphkopgccaa.So
open Go.ChangeShapes Go.WideShapes Go.ChangeAt Go.RowKit Go.Sort Go.Shelf Go.Proofs Ov Va St Pr
theorem own_none (w : World) (lo : Nat) (h : lo ≤ w.heap.size) (e : TypeId) (size : Nat) : (w.alloc (.cells #[] e)).ownsRow lo e size (.slice (some ⟨w.heap.size, 0, none⟩) 0 0) 0 [] :=
 ⟨by simp, .inr ⟨w.heap.size, 0, #[], rfl, h, (by show (w.heap.push _)[w.heap.size]? = _; simp), Nat.le_refl _, Nat.zero_le _, by simp, by simp⟩⟩
set_option maxHeartbeats 1000000 in
set_option maxRecDepth 100000 in
theorem clone_runs (L : Option Addr) (q cL lo : Nat) (vs : List Value) (w : World) (h : w.ownsRow lo 22 1 (.slice L q cL) q vs) (h1 : ∀ u ∈ vs, u.oneCell' = true) (hq : q ≤ 100000) :
 Calls Try.prog 51 #[.slice L q cL] w fun e w' => ∃ v, e = .returned v ∧ w'.ownsRow w.heap.size 22 1 v q vs ∧ Below w.heap.size w w' := by
 have H := Lib.hid h; have H1 := Lib.hid h1
 rcases h.2 with ⟨e, h0⟩ | ⟨g, cap, cur, e, _⟩
 · injection e with e1 e2 e3
   subst e1; subst e2; subst e3
   have hv : vs = [] := List.eq_nil_of_length_eq_zero (by have := h.1; simpa using this)
   subst hv
   clear h h1
   go_enter Try.func51, Try.ntmps51
   have hE : (binOp .eql 33 (.slice none 0 0) (.slice none 0 0)).run Try.prog w = .ok (.bool true) w := Lib.run_eql_slice_nil w 33 22 none 0 0 0 0 Try.underlying33
   go_wp2_with (fail)
   go_ret
   exact ⟨_, rfl, World.ownsRow_nil _ _ _ _, Below.refl _ _⟩
 · injection e with e1 e2 e3
   subst e1
   obtain ⟨i1, hj0, hj1, hj2, hj3⟩ := info_parts infoL
   have HJ0 := Lib.hid hj0; have HJ1 := Lib.hid hj1; have HJ2 := Lib.hid hj2; have HJ3 := Lib.hid hj3
   have hvl : vs.length = q * 1 := h.1
   have hcells := h.cells (g := g) rfl
   have HVL := Lib.hid hvl; have HCE := Lib.hid hcells
   clear h h1 hj0 hj1 hj2 hj3 hvl hcells e2 e3
   go_enter Try.func51, Try.ntmps51
   have hE : (binOp .eql 33 (.slice (some ⟨g, 0, none⟩) q cL) (.slice none 0 0)).run Try.prog w = .ok (.bool false) w := Lib.run_eql_slice_nil w 33 22 (some ⟨g, 0, none⟩) q cL 0 0 Try.underlying33
   go_wp2_with (at_builtin; refine wpList_append_own _ rfl _ _ 33 rfl w.heap.size 22 i1 (.slice none 0 0) 1 24 Try.underlying33 HJ0.out HJ1.out HJ2.out HJ3.out rfl (by decide) _ _ _ rfl (own_none w _ (Nat.le_refl _) 22 1) ⟨g, 0, none⟩ q cL vs rfl HVL.out ?c1 H1.out ?c3 ?c4 ?c5 ?_)
   case c1 =>
    intro j u hj
    have := HCE.out j u hj
    exact ((box1 w _).cell (block_lt_of_cell this)).trans this
   case c3 => unfold maxLen; omega
   case c4 => omega
   case c5 => rw [World.size_alloc]; omega
   intro v' w3 hown' hgrow _
   have HB := Lib.hid ((box1 w (.cells #[] 22)).grown hgrow (by rw [World.size_alloc]; omega) (fun k e => by cases e; exact Nat.le_refl _))
   have HO := Lib.hid hown'
   clear hown' hgrow
   go_wp2_with (fail)
   go_ret
   exact ⟨v', rfl, HO.out, HB.out⟩
def rsE (room : Nat) (l : List Pr) (q : Nat) : List (List Pr) := (List.range q).map (ch room l) ++ (if l.length = q * room then [] else [sr (l.drop (q * room))])
def EndQ (room : Nat) (l : List Pr) (q : Nat) (w : World) (e : Ending) (w' : World) : Prop :=
 ∃ (v : Value) (ps' : List Part), e = .returned v ∧ w'.ownsRow w.heap.size 22 1 v ps'.length (ps'.map pv) ∧ (∀ x ∈ ps', PIn w' x ∧ x.2.2.length ≤ x.2.1 ∧ ∀ g o, x.1 = some ⟨g, o, none⟩ → v.ownBlock ≠ some g) ∧ ps'.map (·.2.2) = rsE room l q ∧ Below w.heap.size w w'
set_option maxHeartbeats 2000000 in
set_option maxRecDepth 100000 in
theorem ended_any {lo b room q : Nat} {l : List Pr} {vi vl : Value} {ps : List Part} (w : World) (h : SS w lo b room l q vi vl ps) (hl : l.length ≤ 100000) (hr1 : 1 ≤ room) (hX : Tx l) :
 Calls Try.prog 31 #[.pointer (some ⟨b, 0, none⟩)] w (EndQ room l q w) := by
 obtain ⟨A, cA, e1, hAc, hAn⟩ := own_slice h.i
 obtain ⟨L, cL, e2, hLc, hLn⟩ := own_slice h.d
 subst e1; subst e2
 have hq : q ≤ 100000 := by have := Nat.le_mul_of_pos_right q hr1; have := h.q1; omega
 have hpl : ps.length = q := by have := h.d.1; simpa using this
 have hcl := clone_runs L q cL lo (ps.map pv) w h.d (fun u hu => by obtain ⟨x, _, rfl⟩ := List.mem_map.1 hu; rfl) hq
 have HS := Lib.hid h; have HX := Lib.hid hX; have HPL := Lib.hid hpl
 obtain ⟨n, hn⟩ : ∃ n, n = l.length - q * room := ⟨_, rfl⟩
 have HN := Lib.hid hn
 have c2 := h.h.c 2 _ rfl
 clear h hX hpl hn
 go_enter Try.func31, Try.ntmps31
 go_wp2_with (fail)
 refine hcl.mono ?_
 rintro e w1 ⟨v1, rfl, hown, hb⟩
 have HO1 := Lib.hid hown; have HB1 := Lib.hid hb
 have hs1 := HS.out.next hb
 have c1 := hs1.h.c 1 _ rfl
 rw [← HN.out] at c1
 have HS1 := Lib.hid hs1
 clear hcl hown hb hs1 c2
 have HLS : Hid (∀ x ∈ ps, PIn w1 x ∧ x.2.2.length ≤ x.2.1) := fun x hx => ⟨⟨(HS1.out.o x hx).1.prs, (HS1.out.o x hx).2.1⟩, (HS1.out.o x hx).2.2⟩
 rcases Nat.eq_zero_or_pos n with h0 | h0
 · subst h0
   obtain ⟨A9, c9, e9, _⟩ := own_slice HO1.out
   subst e9
   go_wp2_with (fail)
   go_ret
   refine ⟨_, ps, rfl, by rw [HPL.out]; exact HO1.out, fun x hx => ⟨(HLS.out x hx).1, (HLS.out x hx).2, fun g o e hv => ?_⟩, ?_, HB1.out⟩
   · have h1 := (own_lt HO1.out hv).1
     have h2 := (HS.out.o x hx).1.lt g o e
     omega
   have h1 := HS.out.q1; have h2 := HN.out
   unfold rsE
   rw [if_pos (by omega), List.append_nil]; exact HS.out.p
 · have h0z : (0 : Int) < (n : Int) := by omega
   have hPI : PIn w1 (A, cA, l.drop (q * room)) := ⟨prs_own (by have := HS1.out.i; exact this) (by rw [List.length_drop]), fun e => by
    have := hAn e; rw [← HN.out] at this; omega⟩
   have hso := sort_any A cA (l.drop (q * room)) w1 hPI (by rw [List.length_drop]; omega) (fun z hz => HX.out z (List.mem_of_mem_drop hz))
   rw [List.length_drop, ← HN.out] at hso
   have hsl : (sr (l.drop (q * room))).length = n := by rw [sr_len, List.length_drop]; exact HN.out.symm
   have HSL := Lib.hid hsl
   obtain ⟨i1, hj0, hj1, hj2, hj3⟩ := info_parts infoL
   have HJ0 := Lib.hid hj0; have HJ1 := Lib.hid hj1; have HJ2 := Lib.hid hj2; have HJ3 := Lib.hid hj3
   have HW : Hid (w.heap.size ≤ w1.heap.size) := HB1.out.size
   clear hj0 hj1 hj2 hj3 hPI hsl
   obtain ⟨A9, c9, e9, _, _⟩ := own_slice HO1.out
   subst e9
   go_wp2_with (fail)
   refine hso.mono ?_
   rintro e w2 ⟨A1, c1', rfl, ho2, hn2, hc2, hb2⟩
   rw [HSL.out] at hc2 ⊢
   have HO2 := Lib.hid ho2; have HN2 := Lib.hid hn2; have HC2 := Lib.hid hc2; have HB2 := Lib.hid hb2
   have HOW := Lib.hid (own_keep (own_keep HO1.out hb2) (box1 w2 (.cells #[.slice A1 n c1'] 22)))
   have HB12 := Lib.hid (Below.next HB1.out hb2)
   clear ho2 hn2 hc2 hb2 c1
   go_wp2_with (at_builtin; refine wpList_append_own_at _ rfl _ _ 33 rfl w.heap.size 22 i1 (.slice none 0 0) 1 24 Try.underlying33 HJ0.out HJ1.out HJ2.out HJ3.out rfl (by decide) _ _ _ rfl HOW.out ⟨w2.heap.size, 0, none⟩ 1 1 [.slice A1 n c1'] rfl rfl ?c1 ?c2 ?c3 ?c4 ?c5 ?_)
   case c1 =>
    intro j u hj
    rw [Addr.add_lit, Nat.zero_add]
    exact (Blk.made w2 22 [.slice A1 n c1'] rfl).c j u hj
   case c2 =>
    intro u hu
    obtain rfl : u = .slice A1 n c1' := by simpa using hu
    rfl
   case c3 => unfold maxLen; omega
   case c4 => omega
   case c5 => have := HB12.out.size; rw [World.size_alloc]; omega
   intro v' w3 hown' hgrow _ hat
   have hBa := (box1 w2 (.cells #[.slice A1 n c1'] 22))
   have hkp : ∀ (x : Part), PIn (w2.alloc (.cells #[.slice A1 n c1'] 22)) x → (∀ g o, x.1 = some ⟨g, o, none⟩ → 0 < x.2.2.length → (Value.slice A9 q c9).ownBlock ≠ some g) → PIn w3 x := fun x hx hne => ⟨fun h0 => by
    obtain ⟨B, O, e, hc⟩ := hx.1 h0
    refine ⟨B, O, e, fun i j v hi hv => ?_⟩
    have hcell := hc i j v hi hv
    have hlt : B < (w2.alloc (.cells #[.slice A1 n c1'] 22)).heap.size := block_lt_of_cell hcell
    exact (World.cell?_of_block (a := ⟨B, O + i * 6 + j, none⟩) (hgrow.block B hlt fun e' => hne B O e h0 e'.symm)).trans hcell, hx.2⟩
   have HAT : Hid (v'.ownBlock = (Value.slice A9 q c9).ownBlock ∨ v'.ownBlock = some (w2.heap.size + 1)) := hat
   have HO3 := Lib.hid hown'
   have HB3 := Lib.hid ((Below.next HB12.out hBa).grown hgrow (by have := HB12.out.size; rw [World.size_alloc]; omega) (fun k e => (own_lt HOW.out e).1))
   have HKP := Lib.hid hkp
   clear hown' hgrow hkp hBa hat
   go_wp2_with (fail)
   go_ret
   have hal := fun x hx => (HLS.out x hx)
   refine ⟨v', ps ++ [(A1, c1', sr (l.drop (q * room)))], rfl, ?_, fun x hx => ?_, ?_, HB3.out⟩
   · have e1 : (ps ++ [((A1, c1', sr (l.drop (q * room))) : Part)]).length = q + 1 := by rw [List.length_append, HPL.out]; rfl
     rw [e1, List.map_append]
     have e2 : pv ((A1, c1', sr (l.drop (q * room))) : Part) = .slice A1 n c1' := by unfold pv; dsimp only; rw [HSL.out]
     simp only [List.map_cons, List.map_nil, e2]
     exact HO3.out
   · rcases List.mem_append.1 hx with hx | hx
     · refine ⟨HKP.out x (((hal x hx).1.next HB2.out).next (box1 w2 _)) fun g o e h0 hv => ?_, (hal x hx).2, fun g o e hv => ?_⟩
       rotate_left
       · have h1 := (own_lt HO3.out hv).1
         have h2 := (HS.out.o x hx).1.lt g o e
         omega
       have h1 := (own_lt HO1.out hv).1
       have h2 := (HS.out.o x hx).1.lt g o e
       omega
     · have hA1 : ∀ g o, A1 = some ⟨g, o, none⟩ → w1.heap.size ≤ g ∧ g < w2.heap.size := fun g o e => by
        refine ⟨?_, HO2.out.lt g o e⟩
        rcases HO2.out with ⟨_, e1⟩ | ⟨g', e1, h3, _⟩
        · rw [e1] at e; cases e
        · rw [e1] at e
          injection e with e
          injection e with e
          omega
       obtain rfl : x = (A1, c1', sr (l.drop (q * room))) := by simpa using hx
       refine ⟨HKP.out _ ⟨(HO2.out.next (box1 w2 _)).prs, HN2.out⟩ fun g o e h0 hv => ?_, by dsimp only; rw [HSL.out]; exact HC2.out, fun g o e hv => ?_⟩
       rotate_left
       · have h5 := hA1 g o e
         rcases HAT.out with h | h
         · rw [h] at hv; have := (own_lt HO1.out hv).2; omega
         · rw [h] at hv; injection hv with hv; omega
       have h1 := (own_lt HO1.out hv).2
       have h2 : w1.heap.size ≤ g := by
        rcases HO2.out with ⟨_, e1⟩ | ⟨g', e1, h3, _⟩
        · dsimp only at e; rw [e1] at e; cases e
        · dsimp only at e
          rw [e1] at e
          injection e with e
          injection e with e
          omega
       omega
   · have h1 := HS.out.q1; have h2 := HN.out
     unfold rsE
     rw [if_neg (by omega), List.map_append, HS.out.p]
     rfl
def RunsQ (rs : List (List Pr)) (w : World) (e : Ending) (w' : World) : Prop :=
 ∃ (v : Value) (qs : List Part), e = .returned v ∧ w'.ownsRow w.heap.size 22 1 v qs.length (qs.map pv) ∧ (∀ x ∈ qs, OwnL w.heap.size w' x.1 x.2.2 ∧ (x.1 = none → x.2.2 = [] ∧ x.2.1 = 0) ∧ x.2.2.length ≤ x.2.1) ∧ qs.map (·.2.2) = rs ∧ Below w.heap.size w w'
structure RI (w wr : World) (v : Value) (m i : Nat) (rs : List (List Pr)) (qs : List Part) : Prop where
 len : qs.length = m
 row : wr.ownsRow w.heap.size 22 1 v m (qs.map pv)
 rs : qs.map (·.2.2) = rs
 all : ∀ x ∈ qs, PIn wr x ∧ x.2.2.length ≤ x.2.1 ∧ ∀ g o, x.1 = some ⟨g, o, none⟩ → v.ownBlock ≠ some g
 own : ∀ j, j < i → OwnL w.heap.size wr (qd qs j).1 (qd qs j).2.2
 b : Below w.heap.size w wr
theorem _root_.Go.Proofs.Ytkbhnphkopgccaa.Pr.PIn.kp {O : Nat → Prop} {w w' : World} {x : Part} (h : PIn w x) (k : Kp O w w') (hO : ∀ g o, x.1 = some ⟨g, o, none⟩ → ¬ O g) : PIn w' x := ⟨fun h0 => by
 obtain ⟨B, o, e, hc⟩ := h.1 h0
 refine ⟨B, o, e, fun i j v hi hv => ?_⟩
 have hcell := hc i j v hi hv
 exact (k.cell (p := ⟨B, o + i * 6 + j, none⟩) (hO B o e) (block_lt_of_cell hcell)).trans hcell, h.2⟩
theorem qd_set {qs : List Part} {i j : Nat} {x : Part} (hi : i < qs.length) : qd (qs.set i x) j = if j = i then x else qd qs j := by
 unfold qd
 rw [List.getElem?_set]
 by_cases e : i = j
 · subst e; rw [if_pos rfl, if_pos hi, if_pos rfl]; rfl
 · rw [if_neg e, if_neg (fun h => e h.symm)]
theorem qd_mem {qs : List Part} {i : Nat} (hi : i < qs.length) : qd qs i ∈ qs := by
 unfold qd; rw [List.getElem?_eq_getElem hi]; exact List.getElem_mem hi
theorem RI.step {w wr w1 : World} {g c m i : Nat} {rs : List (List Pr)} {qs : List Part} (h : RI w wr (.slice (some ⟨g, 0, none⟩) m c) m i rs qs) (hi : i < m)
 (ho : OwnL wr.heap.size w1 (some ⟨wr.heap.size, 0, none⟩) (qd qs i).2.2) (hb : Below wr.heap.size wr w1) :
 RI w (w1.setCell ⟨g, i, none⟩ (.slice (some ⟨wr.heap.size, 0, none⟩) (qd qs i).2.2.length (qd qs i).2.2.length)) (.slice (some ⟨g, 0, none⟩) m c) m (i + 1) rs (qs.set i (some ⟨wr.heap.size, 0, none⟩, (qd qs i).2.2.length, (qd qs i).2.2)) := by
 have hgl := own_lt h.row (g := g) rfl
 have hz := hb.size
 have hil : i < qs.length := by rw [h.len]; exact hi
 have hset : Kp (fun b => b = g) w1 (w1.setCell ⟨g, i, none⟩ (.slice (some ⟨wr.heap.size, 0, none⟩) (qd qs i).2.2.length (qd qs i).2.2.length)) := (Kp.refl (fun b => b = g) w1).setCell (b := g) rfl i _
 have hnew : OwnL wr.heap.size (w1.setCell ⟨g, i, none⟩ (.slice (some ⟨wr.heap.size, 0, none⟩) (qd qs i).2.2.length (qd qs i).2.2.length)) (some ⟨wr.heap.size, 0, none⟩) (qd qs i).2.2 := ho.kp hset fun y o e h => by
  injection e with e; injection e with e; omega
 refine ⟨by rw [List.length_set]; exact h.len, ?_, ?_, fun x hx => ?_, fun j hj => ?_, ?_⟩
 · have := ((own_keep h.row hb).stored i (.slice (some ⟨wr.heap.size, 0, none⟩) (qd qs i).2.2.length (qd qs i).2.2.length)).1
   rw [List.map_set]; exact this
 · rw [List.map_set, ← h.rs]
   have hm : i < (qs.map (·.2.2)).length := by simpa using hil
   have e : (qd qs i).2.2 = (qs.map (·.2.2))[i] := by
    unfold qd
    rw [List.getElem?_eq_getElem hil, List.getElem_map]; rfl
   show (qs.map (·.2.2)).set i (qd qs i).2.2 = _
   rw [e]
   exact List.set_getElem_self hm
 · rcases List.mem_or_eq_of_mem_set hx with hx | rfl
   · have ha := h.all x hx
     refine ⟨(ha.1.next hb).kp hset fun y o e h => ha.2.2 y o e (by rw [h]; rfl), ha.2⟩
   · refine ⟨⟨hnew.prs, fun e => by cases e⟩, Nat.le_refl _, fun y o e hv => ?_⟩
     injection e with e; injection e with e
     have hv' : some g = some y := hv
     injection hv' with hv'
     omega
 · rw [qd_set hil]
   split
   · exact hnew.lower h.b.size
   · rename_i hne
     have hx := h.own j (by omega)
     refine (hx.next hb).kp hset fun y o e hy => (h.all _ (qd_mem (by omega))).2.2 y o e (by rw [hy]; rfl)
 · exact (Below.next h.b hb).setCell (p := ⟨g, i, none⟩) hgl.1 _
set_option maxHeartbeats 2000000 in
set_option maxRecDepth 100000 in
theorem runs_any {lo b room q : Nat} {l : List Pr} {vi vl : Value} {ps : List Part} (w : World) (h : SS w lo b room l q vi vl ps) (hl : l.length ≤ 100000) (hr1 : 1 ≤ room) (hX : Tx l) :
 Calls Try.prog 15 #[.pointer (some ⟨b, 0, none⟩)] w (RunsQ (rsE room l q) w) := by
 have hend := ended_any w h hl hr1 hX
 unfold EndQ at hend
 have HXR : Hid (∀ r ∈ rsE room l q, Tx r ∧ r.length ≤ 100000) := fun r hr => by
  have sub : ∀ m : List Pr, (∀ z ∈ m, z ∈ l) → m.length ≤ l.length → Tx (sr m) ∧ (sr m).length ≤ 100000 := fun m hm hml => ⟨fun z hz => hX z (hm z ((sr_mem m z).1 hz)), by rw [sr_len]; omega⟩
  unfold rsE at hr
  rcases List.mem_append.1 hr with hr | hr
  · obtain ⟨i, _, rfl⟩ := List.mem_map.1 hr
    exact sub _ (fun z hz => List.mem_of_mem_drop (List.mem_of_mem_take hz)) (by rw [List.length_take, List.length_drop]; omega)
  · split at hr
    · cases hr
    · obtain rfl : r = sr (l.drop (q * room)) := by simpa using hr
      exact sub _ (fun z hz => List.mem_of_mem_drop hz) (by rw [List.length_drop]; omega)
 have hq : q ≤ 100000 := by have := Nat.le_mul_of_pos_right q hr1; have := h.q1; omega
 have HRL : Hid ((rsE room l q).length ≤ 100001) := by
  show _ ≤ _
  unfold rsE
  rw [List.length_append, List.length_map, List.length_range]
  split
  · simp; omega
  · simp; omega
 clear h hl hX
 generalize rsE room l q = rs at *
 go_enter Try.func15, Try.ntmps15
 go_wp2_with (fail)
 refine hend.mono ?_
 rintro e w1 ⟨v, ps', rfl, hrow, hall, hrs, hb⟩
 clear hend
 obtain ⟨A9, c9, e9, hc9, hn9⟩ := own_slice hrow
 obtain ⟨m, hm⟩ : ∃ m, m = ps'.length := ⟨_, rfl⟩
 have hR : RI w w1 v m 0 rs ps' := ⟨hm.symm, by rw [hm]; exact hrow, hrs, hall, (fun j hj => absurd hj (Nat.not_lt_zero _)), hb⟩
 have hml : m ≤ 100001 := by have := congrArg List.length hrs; rw [List.length_map] at this; have := HRL.out; omega
 rw [← hm] at e9 hc9
 have hn0 : A9 = none → m = 0 := fun e => by rw [hm]; exact (hn9 e).1
 subst e9
 have HR := Lib.hid hR
 have HN0 := Lib.hid hn0
 clear hrow hall hrs hb hm hn9 hR hn0
 go_wp2_with (fail)
 go_loopg [10] m (fun kx s10 wr => ∃ (i : Nat) (qs : List Part), i ≤ m ∧ m - i ≤ kx ∧ s10 = .int .i64 i ∧ Hid (RI w wr (.slice A9 m c9) m i rs qs))
 case atStart => exact ⟨0, ps', Nat.zero_le _, by omega, rfl, HR⟩
 case round =>
  clear HR
  obtain ⟨i, qs, hi, hkx, rfl, HR⟩ := hrel
  by_cases hlt : i < m
  · have hltz : (i : Int) < (m : Int) := by omega
    rcases HR.out.row.2 with ⟨_, e0⟩ | ⟨g, cap, cur, e, _⟩
    · omega
    · injection e with e1 e2 e3
      subst e1
      have hil : i < qs.length := by rw [HR.out.len]; exact hlt
      have hcell : wr.cell? ⟨g, i, none⟩ = some (pv (qd qs i)) := by
       rw [HR.out.row.cellAt i (by omega)]
       unfold qd
       rw [List.getElem?_map, List.getElem?_eq_getElem hil]; rfl
      have hfr : ∀ X : World, X.ownsRow w.heap.size 22 1 (.slice (some ⟨g, 0, none⟩) m c9) m (qs.map pv) → X.cell? ⟨g, i, none⟩ = some (pv (qd qs i)) ∧ X.frozen? ⟨g, i, none⟩ = false := fun X hX => ⟨by
       rw [hX.cellAt i (by omega)]
       unfold qd
       rw [List.getElem?_map, List.getElem?_eq_getElem hil]; rfl, hX.frozenAt _⟩
      have HFR := Lib.hid hfr
      have hPi := (HR.out.all _ (qd_mem hil)).1
      have hmem : (qd qs i).2.2 ∈ rs := by rw [← HR.out.rs]; exact List.mem_map.2 ⟨_, qd_mem hil, rfl⟩
      have hxr := HXR.out _ hmem
      have hcall := ownPairs_any (qd qs i).1 (qd qs i).2.1 (qd qs i).2.2 wr hPi.1 hxr.2 hxr.1
      have hlen := hxr.2
      unfold pv at hcell
      clear hPi hmem hxr hfr e2 e3
      obtain ⟨xA, hxA⟩ : ∃ x, x = (qd qs i).1 := ⟨_, rfl⟩
      obtain ⟨xc, hxc⟩ : ∃ x, x = (qd qs i).2.1 := ⟨_, rfl⟩
      obtain ⟨xn, hxn⟩ : ∃ x, x = (qd qs i).2.2.length := ⟨_, rfl⟩
      have HXN := Lib.hid hxn
      rw [← hxA, ← hxc, ← hxn] at hcell hcall
      rw [← hxn] at hlen
      clear hxA hxc hxn
      go_wp2_with (fail)
      refine hcall.mono ?_
      rintro e w2 ⟨rfl, ho, hb⟩
      have HST := Lib.hid (HR.out.step hlt ho hb)
      obtain ⟨d0, d1⟩ := HFR.out w2 (own_keep HR.out.row hb)
      unfold pv at d0
      rw [← HXN.out] at HST
      clear hcall ho hb hcell
      go_wp2_with (fail)
      go_roundg (m - (i + 1))
      case measure => omega
      case rel => exact ⟨i + 1, _, by omega, Nat.le_refl _, by go_num, HST⟩
  · obtain rfl : i = m := by omega
    have hltz : ¬ (i : Int) < (i : Int) := by omega
    go_wp2_with (fail)
    go_ret
    refine ⟨_, qs, rfl, by rw [HR.out.len]; exact HR.out.row, fun x hx => ?_, HR.out.rs, HR.out.b⟩
    obtain ⟨j, hj, e⟩ := List.getElem_of_mem hx
    have e' : qd qs j = x := by unfold qd; rw [List.getElem?_eq_getElem hj, e]; rfl
    have ho := HR.out.own j (by rw [← HR.out.len]; exact hj)
    rw [e'] at ho
    have ha := HR.out.all x hx
    exact ⟨ho, ha.1.2, ha.2.1⟩
def p1 (c : UInt8) : Pr := ([c], ⟨0, 0, [], 0, 0⟩)
theorem pcl_p1 (c : UInt8) : (pcl (p1 c)).toArray = #[.string ⟨#[c]⟩, .int .i64 0, .int .i64 0, .string ⟨#[]⟩, .int .i64 0, .int .i64 0] := rfl
theorem tx_p1 (l : List UInt8) : Tx (l.map p1) := fun z hz => by
 obtain ⟨c, _, rfl⟩ := List.mem_map.1 hz
 exact ⟨by simp [p1], by simp [p1]⟩
theorem rs_awake : rsE 2 ([98, 97, 99].map p1) 1 = [[p1 97, p1 98], [p1 99]] := by decide
theorem two_parts {qs : List Part} {a b : List Pr} (h : qs.map (·.2.2) = [a, b]) : ∃ A c B d, qs = [(A, c, a), (B, d, b)] := by
 match qs, h with
 | [], h => cases h
 | [x], h => simp at h
 | [x, y], h =>
   simp only [List.map_cons, List.map_nil, List.cons.injEq, and_true] at h
   obtain ⟨A, c, l⟩ := x
   obtain ⟨B, d, m⟩ := y
   obtain ⟨h1, h2⟩ := h
   dsimp only at h1 h2
   subst h1; subst h2
   exact ⟨A, c, B, d, rfl⟩
 | _ :: _ :: _ :: _, h => simp at h
set_option maxHeartbeats 2000000 in
set_option maxRecDepth 100000 in
theorem awake12_any (w : World) : Calls Try.prog 9 #[] w (Gives (.bool true) w) := by
 have hn := new_yes 2 (by decide) (by decide) w
 go_enter Try.func9, Try.ntmps9
 go_wp2_with (fail)
 refine hn.mono ?_
 rintro e w1 ⟨rfl, hs1, hb1⟩
 have HB1 := Lib.hid hb1
 have hp1 := put_yes (p1 98) w1 hs1 rfl (by simp) (by decide) (by decide) (tx_p1 [98]) hb1.size
 rw [pcl_p1] at hp1
 clear hn hb1
 go_wp2_with (fail)
 refine hp1.mono ?_
 rintro e w2 ⟨rfl, q2, vi2, vl2, ps2, hs2, hk2, _⟩
 have HB2 := Lib.hid (HB1.out.trans (hk2.below (fun c e => (hs1.old c e).1) HB1.out.size))
 have hp2 := put_yes (p1 97) w2 hs2 rfl (by simp) (by decide) (by decide) (tx_p1 [98, 97]) HB2.out.size
 rw [pcl_p1] at hp2
 clear hp1 hk2 hs1 HB1
 go_wp2_with (fail)
 refine hp2.mono ?_
 rintro e w3 ⟨rfl, q3, vi3, vl3, ps3, hs3, hk3, _⟩
 have HB3 := Lib.hid (HB2.out.trans (hk3.below (fun c e => (hs2.old c e).1) HB2.out.size))
 have hp3 := put_yes (p1 99) w3 hs3 rfl (by simp) (by decide) (by decide) (tx_p1 [98, 97, 99]) HB3.out.size
 rw [pcl_p1] at hp3
 clear hp2 hk3 hs2 HB2
 go_wp2_with (fail)
 refine hp3.mono ?_
 rintro e w4 ⟨rfl, q4, vi4, vl4, ps4, hs4, hk4, _⟩
 have HB4 := Lib.hid (HB3.out.trans (hk4.below (fun c e => (hs3.old c e).1) HB3.out.size))
 have hq : q4 = 1 := by
  have h1 := hs4.q1; have h2 := hs4.q2
  simp at h1 h2
  omega
 subst hq
 have hr := runs_any w4 hs4 (by simp) (by decide) (tx_p1 [98, 97, 99])
 have er : rsE 2 ([] ++ [p1 98] ++ [p1 97] ++ [p1 99]) 1 = [[p1 97, p1 98], [p1 99]] := rs_awake
 rw [er] at hr
 clear hp3 hk4 hs3 hs4 HB3 er
 go_wp2_with (fail)
 refine hr.mono ?_
 rintro e w5 ⟨v, qs, rfl, hrow, hall, hrs, hb⟩
 have HB5 := Lib.hid (Below.next HB4.out hb)
 clear hr hb HB4
 obtain ⟨xA, xc, yA, yc, rfl⟩ := two_parts hrs
 obtain ⟨g, c, rfl⟩ := own_shape' (n := 1) hrow
 have c0 : w5.cell? ⟨g, 0, none⟩ = some (.slice xA 2 xc) := (hrow.cellAt 0 (by decide)).trans rfl
 have c1 : w5.cell? ⟨g, 1, none⟩ = some (.slice yA 1 yc) := (hrow.cellAt 1 (by decide)).trans rfl
 have hx : Prs w5 xA [p1 97, p1 98] := (hall _ (List.mem_cons_self ..)).1.prs
 have hy : Prs w5 yA [p1 99] := (hall _ (List.mem_cons_of_mem _ (List.mem_cons_self ..))).1.prs
 obtain ⟨G, O, e1⟩ := hx.shape (by decide)
 obtain ⟨G', O', e2⟩ := hy.shape (by decide)
 subst e1; subst e2
 have d0 : w5.cell? ⟨G, O, none⟩ = some (.string ⟨#[97]⟩) := hx.cell (i := 0) (by decide) 0 _ rfl
 have d1 : w5.cell? ⟨G', O', none⟩ = some (.string ⟨#[99]⟩) := hy.cell (i := 0) (by decide) 0 _ rfl
 clear hrow hall hx hy
 go_wp2_with (fail)
 go_ret
 exact ⟨rfl, HB5.out⟩
end Go.Proofs.Ytkbhnphkopgccaa.So
namespace Go.Proofs.Ytkbhnphkopgccaa.So
open Go.ChangeShapes Go.WideShapes Go.ChangeAt Go.RowKit Go.Sort Go.Shelf Go.Proofs Ov Va St Pr Jo
set_option maxRecDepth 100000 in
set_option maxHeartbeats 4000000 in
theorem folds_core (A : Option Addr) (c : Nat) (l : List Pr) (cut which : Nat) (w : World) (h : PIn w (A, c, l)) (hlc : l.length ≤ c) (ha : cut ≤ 255) (hb' : which ≤ 255) :
 Calls Try.prog 4 #[.slice A l.length c, .int .u8 cut, .int .u8 which] w (Gives (.bool true) w) := by
 have HI := Lib.hid h
 clear h
 go_enter Try.func4, Try.ntmps4
 go_wp2_with (fail)
 refine (awake12_any w).mono ?_
 rintro e a1 ⟨rfl, hb⟩
 have HB1 := Lib.hid hb
 clear hb
 have hsm := small_any A c l a1 (HI.out.next HB1.out).1
 go_wp2_with (fail)
 refine hsm.mono ?_
 rintro e a2 ⟨q0, rfl, hb, hq⟩
 have HB2 := Lib.hid (Below.next HB1.out hb)
 clear hb hsm HB1
 rcases hq with rfl | ⟨rfl, hl, hx⟩
 · go_wp2_with (fail)
   refine (awake12_any a2).mono ?_
   rintro e a3 ⟨rfl, hb⟩
   have HB3 := Lib.hid (Below.next HB2.out hb)
   clear hb
   go_wp2_with (fail)
   go_ret
   exact ⟨rfl, HB3.out⟩
 have HX : Hid (Tx l) := fun p hp => by have := hx p hp; omega
 clear hx
 have hri := pright_any A c l a2 (HI.out.next HB2.out).1 (by omega)
 cases hrl : rl l with
 | false =>
   rw [hrl] at hri
   go_wp2_with (fail)
   refine hri.mono ?_
   rintro e a3 ⟨rfl, hb⟩
   have HB3 := Lib.hid (Below.next HB2.out hb)
   clear hb hri
   go_wp2_with (fail)
   refine (awake12_any a3).mono ?_
   rintro e a4 ⟨rfl, hb⟩
   have HB4 := Lib.hid (Below.next HB3.out hb)
   clear hb
   go_wp2_with (fail)
   go_ret
   exact ⟨rfl, HB4.out⟩
 | true =>
   rw [hrl] at hri
   have HRL := Lib.hid hrl
   clear hrl
   go_wp2_with (fail)
   refine hri.mono ?_
   rintro e a3 ⟨rfl, hb⟩
   have HB3 := Lib.hid (Below.next HB2.out hb)
   clear hb hri HB2
   by_cases hz : l.length = 0
   · have hzz : ((l.length : Int) == 0) = true := by simp [hz]
     go_wp2_with (fail)
     refine (awake12_any a3).mono ?_
     rintro e a4 ⟨rfl, hb⟩
     have HB4 := Lib.hid (Below.next HB3.out hb)
     clear hb
     go_wp2_with (fail)
     go_ret
     exact ⟨rfl, HB4.out⟩
   have hzz : ((l.length : Int) == 0) = false := beq_eq_false_iff_ne.2 (by omega)
   have hl1 : IntKind.i64.wrap ((l.length : Int) + 1) = (l.length : Int) + 1 := by rw [IntKind.wrap_i64]; omega
   have hl2 : ((l.length : Int) + 1 == 0) = false := beq_eq_false_iff_ne.2 (by omega)
   obtain ⟨k, hk⟩ : ∃ k : Nat, k = cut % (l.length + 1) := ⟨_, rfl⟩
   have hkl : k ≤ l.length := by rw [hk]; have := Nat.mod_lt cut (show 0 < l.length + 1 by omega); omega
   have hkt : ((cut : Int)).tmod ((l.length : Int) + 1) = (k : Int) := by
    rw [hk, show ((l.length : Int) + 1) = ((l.length + 1 : Nat) : Int) by omega]; rfl
   clear hk
   obtain ⟨cw, hw, hcw⟩ : ∃ cw : ByteArray, isF cw.data.toList = true ∧ (a3.alloc (.cells #[.string ⟨#[115, 117, 109]⟩, .string ⟨#[109, 97, 120]⟩, .string ⟨#[109, 105, 110]⟩, .string ⟨#[103, 99, 100]⟩] 9)).cell? ⟨a3.heap.size, which % 4, none⟩ = some (.string cw) := by
    have hbk := Blk.made a3 9 [.string ⟨#[115, 117, 109]⟩, .string ⟨#[109, 97, 120]⟩, .string ⟨#[109, 105, 110]⟩, .string ⟨#[103, 99, 100]⟩] rfl
    have hm : which % 4 = 0 ∨ which % 4 = 1 ∨ which % 4 = 2 ∨ which % 4 = 3 := by omega
    rcases hm with e | e | e | e
    · exact ⟨⟨#[115, 117, 109]⟩, by decide, by rw [e]; exact hbk.c 0 _ rfl⟩
    · exact ⟨⟨#[109, 97, 120]⟩, by decide, by rw [e]; exact hbk.c 1 _ rfl⟩
    · exact ⟨⟨#[109, 105, 110]⟩, by decide, by rw [e]; exact hbk.c 2 _ rfl⟩
    · exact ⟨⟨#[103, 99, 100]⟩, by decide, by rw [e]; exact hbk.c 3 _ rfl⟩
   have HB4 := Lib.hid (Below.next HB3.out (box1 a3 (.cells #[.string ⟨#[115, 117, 109]⟩, .string ⟨#[109, 97, 120]⟩, .string ⟨#[109, 105, 110]⟩, .string ⟨#[103, 99, 100]⟩] 9)))
   have HW := Lib.hid hw
   obtain ⟨B, O, rfl⟩ := (HI.out.1).shape (by show 0 < l.length; omega)
   have hkc : k ≤ c := by omega
   have HRP : Hid (∀ p ∈ l, rp p = true) := (rl_iff l).1 HRL.out
   obtain ⟨la, hla⟩ : ∃ x, x = l.take k := ⟨_, rfl⟩
   obtain ⟨lb, hlb⟩ : ∃ x, x = l.drop k := ⟨_, rfl⟩
   have HCAT : Hid (la ++ lb = l) := by rw [hla, hlb]; exact List.take_append_drop k l
   have hlal : la.length = k := by rw [hla, List.length_take]; omega
   have hlbl : lb.length = l.length - k := by rw [hlb, List.length_drop]
   have HPa : Hid (PIn w (some ⟨B, O, none⟩, c, la)) := ⟨by rw [hla]; exact prs_take HI.out.1 k, fun h => nomatch h⟩
   have HPb : Hid (PIn w (some ⟨B, O + k * 6, none⟩, c - k, lb)) := ⟨by rw [hlb]; exact prs_drop HI.out.1 k, fun h => nomatch h⟩
   have HTa : Hid (Tx la) := fun p hp => HX.out p (by rw [← HCAT.out]; exact List.mem_append_left _ hp)
   have HTb : Hid (Tx lb) := fun p hp => HX.out p (by rw [← HCAT.out]; exact List.mem_append_right _ hp)
   clear hla hlb
   clear hw HB3 HRL
   go_wp2_with (fail)
   generalize a3.alloc (.cells #[.string ⟨#[115, 117, 109]⟩, .string ⟨#[109, 97, 120]⟩, .string ⟨#[109, 105, 110]⟩, .string ⟨#[103, 99, 100]⟩] 9) = a4 at *
   clear hcw hkt hl1 hl2
   -- the first part
   have hs := sort_any _ _ _ a4 (HPa.out.next HB4.out) (by rw [hlal]; omega) HTa.out
   rw [hlal] at hs
   refine hs.mono ?_
   rintro e d1 ⟨A5, c5, rfl, ho, hn, _, hb⟩
   have H5 := Lib.hid (show PIn d1 (A5, c5, sr la) from ⟨ho.prs, hn⟩)
   replace HB := Lib.hid (Below.next HB4.out hb); clear hb hs ho hn HB4
   have hf := sfold_any A5 c5 (sr la) cw d1 H5.out (by rw [sr_len]; omega) (fun p hp => HTa.out p ((sr_mem _ _).1 hp)) (sr_od la)
   go_wp2_with (fail)
   refine hf.mono ?_
   rintro e d2 hq
   obtain ⟨Aa, ca, ma, ea, rfl, hpa, hlma, hb, hfa⟩ := foldQ_cases hq
   have HMa := Lib.hid hpa; have HFa := Lib.hid hfa
   replace HB := Lib.hid (Below.next HB.out hb); clear hb hf hq hpa hfa H5
   rw [sr_len] at hlma
   -- the second part
   have hs2 : ∀ (Ob cb : Nat), (cb = c - k ∧ (Ob = O + k * 6 ∨ c = k)) → PIn w (some ⟨B, Ob, none⟩, cb, lb) := fun Ob cb hh => by
    obtain ⟨rfl, rfl | h⟩ := hh
    · exact HPb.out
    · exact ⟨fun hl => absurd hl (by show ¬ 0 < lb.length; omega), fun h => nomatch h⟩
   have HS2 := Lib.hid hs2
   clear hs2
   go_wp2_with (fail)
   all_goals
    first
    | (have hs := sort_any _ _ _ d2 ((HS2.out (O + k * 6) (c - k) ⟨rfl, .inl rfl⟩).next HB.out) (by rw [hlbl]; omega) HTb.out
       rw [hlbl] at hs
       refine hs.mono ?_)
    | (have hs := sort_any _ _ _ d2 ((HS2.out O 0 ⟨by omega, .inr (by omega)⟩).next HB.out) (by rw [hlbl]; omega) HTb.out
       rw [hlbl] at hs
       refine hs.mono ?_)
    rintro e d3 ⟨A6, c6, rfl, ho, hn, _, hb⟩
    have H6 := Lib.hid (show PIn d3 (A6, c6, sr lb) from ⟨ho.prs, hn⟩)
    replace HMa := Lib.hid (HMa.out.next hb)
    replace HB := Lib.hid (Below.next HB.out hb); clear hb hs ho hn
    have hf := sfold_any A6 c6 (sr lb) cw d3 H6.out (by rw [sr_len]; omega) (fun p hp => HTb.out p ((sr_mem _ _).1 hp)) (sr_od lb)
    go_wp2_with (fail)
    refine hf.mono ?_
    rintro e d4 hq
    obtain ⟨Ab, cb, mb, eb, rfl, hpb, hlmb, hb, hfb⟩ := foldQ_cases hq
    have HMb := Lib.hid hpb; have HFb := Lib.hid hfb
    replace HMa := Lib.hid (HMa.out.next hb)
    replace HB := Lib.hid (Below.next HB.out hb); clear hb hf hq hpb hfb H6
    rw [sr_len] at hlmb
    -- all
    have hs := sort_any (some ⟨B, O, none⟩) c l d4 (HI.out.next HB.out) (by omega) HX.out
    go_wp2_with (fail)
    first
    | refine hs.mono ?_
    | (have hck : c = k := by omega
       rw [hck] at hs
       refine hs.mono ?_)
    rintro e d5 ⟨A7, c7, rfl, ho, hn, _, hb⟩
    have H7 := Lib.hid (show PIn d5 (A7, c7, sr l) from ⟨ho.prs, hn⟩)
    replace HMa := Lib.hid (HMa.out.next hb); replace HMb := Lib.hid (HMb.out.next hb)
    replace HB := Lib.hid (Below.next HB.out hb); clear hb hs ho hn
    have hf := sfold_any A7 c7 (sr l) cw d5 H7.out (by rw [sr_len]; omega) (fun p hp => HX.out p ((sr_mem _ _).1 hp)) (sr_od l)
    go_wp2_with (fail)
    refine hf.mono ?_
    rintro e d6 hq
    obtain ⟨Ax, cx, mx, ex, rfl, hpx, hlmx, hb, hfx⟩ := foldQ_cases hq
    have HMx := Lib.hid hpx; have HFx := Lib.hid hfx
    replace HMa := Lib.hid (HMa.out.next hb); replace HMb := Lib.hid (HMb.out.next hb)
    replace HB := Lib.hid (Below.next HB.out hb); clear hb hf hq hpx hfx H7
    rw [sr_len] at hlmx
    have hw := HW.out
    have hrc : ∀ p ∈ la ++ lb, rp p = true := by rw [HCAT.out]; exact HRP.out
    have h13 : FoldN cw.data.toList (sr la) ea ∨ FoldN cw.data.toList (sr lb) eb → ex = 13 := fun hn => by
     rcases HFx.out with ⟨_, hx⟩ | ⟨_, _, hx⟩
     · rcases hn with hn | hn
       · exact (err_yes hw hrc (.inl hn) (by rw [HCAT.out]; exact hx)).elim
       · exact (err_yes hw hrc (.inr hn) (by rw [HCAT.out]; exact hx)).elim
     · exact fold13 hw (rp_rt (rp_sr HRP.out)) hx
    rcases HFa.out with ⟨h0, hya⟩ | ⟨hea, _, hna⟩
    · subst h0
      rcases HFb.out with ⟨h0, hyb⟩ | ⟨heb, _, hnb⟩
      · subst h0
        have hrel := rel_of hw hrc hya hyb
        rw [HCAT.out] at hrel
        have hrm : ∀ p ∈ ma ++ mb, rp p = true := fun p hp => by
         rcases List.mem_append.1 hp with h | h
         · exact foldY_in hw (rp_sr fun p hp => hrc p (List.mem_append_left _ hp)) hya p h
         · exact foldY_in hw (rp_sr fun p hp => hrc p (List.mem_append_right _ hp)) hyb p h
        have hj := join_of [(Aa, ca, ma), (Ab, cb, mb)] d6 (ma ++ mb) (by simp) (by simp [al]) (fun i hi => by
         have hi' : i < 2 := hi
         match i, hi' with
         | 0, _ => exact HMa.out
         | 1, _ => exact HMb.out) (by rw [List.length_append]; omega) (rp_tx hrm) 22
        have hb1 := box1 d6 (.cells ([(Aa, ca, ma), (Ab, cb, mb)].map pv).toArray 22)
        replace HMx := Lib.hid (HMx.out.next hb1)
        replace HB := Lib.hid (Below.next HB.out hb1); clear hb1 HMa HMb
        have HJ := Lib.hid hj; have HREL := Lib.hid hrel; have HRM := Lib.hid hrm
        clear hj hrel hrm h13 hya hyb hrc hw
        go_wp2_with (fail)
        refine HJ.out.mono ?_
        rintro e d7 ⟨A8, c8, rfl, ho, hn, _, hb⟩
        have H8 := Lib.hid (show PIn d7 (A8, c8, sr (ma ++ mb)) from ⟨ho.prs, hn⟩)
        replace HMx := Lib.hid (HMx.out.next hb)
        replace HB := Lib.hid (Below.next HB.out hb); clear hb ho hn HJ
        have hf := sfold_any A8 c8 (sr (ma ++ mb)) cw d7 H8.out (by rw [sr_len, List.length_append]; omega) (fun p hp => rp_tx HRM.out p ((sr_mem _ _).1 hp)) (sr_od _)
        go_wp2_with (fail)
        refine hf.mono ?_
        rintro e d8 hq
        obtain ⟨Ay, cy, my, ey, rfl, hpy, hlmy, hb, hfy⟩ := foldQ_cases hq
        obtain ⟨h1, h2⟩ := agree HW.out (rp_sr HRP.out) (rp_sr HRM.out) HREL.out HFx.out hfy
        subst h1; subst h2
        replace HMx := Lib.hid (HMx.out.next hb)
        have hsa := same_pairs mx Ax Ay cx cy d8 HMx.out.1 hpy.1 (by omega)
        replace HB := Lib.hid (Below.next HB.out hb); clear hb hf hq hpy hfy H8
        have hee : (ex == ex) = true := beq_self_eq_true _
        go_wp2_with (fail)
        refine hsa.mono ?_
        rintro e d9 ⟨rfl, hb⟩
        replace HB := Lib.hid (Below.next HB.out hb); clear hb hsa
        go_wp2_with (fail)
        go_ret
        exact ⟨rfl, HB.out⟩
      · have e13 := h13 (.inr hnb)
        subst e13
        have hez : (eb == 0) = false := beq_eq_false_iff_ne.2 heb
        clear h13 hrc hw hnb hya
        go_wp2_with (fail)
        go_ret
        exact ⟨rfl, HB.out⟩
    · have e13 := h13 (.inl hna)
      subst e13
      have hez : (ea == 0) = false := beq_eq_false_iff_ne.2 hea
      clear h13 hrc hw hna
      go_wp2_with (fail)
      go_ret
      exact ⟨rfl, HB.out⟩
end Go.Proofs.Ytkbhnphkopgccaa.So

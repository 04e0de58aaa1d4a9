/-
  Small texts of this claim, together: SoEnd, SoGive, SoAwake, SoMerge, SoNil, SoFill, SoRunsL, SoRoom.
-/
import Derived.Test.YtkbhnphkopgccaaQSoPutS
import Derived.Test.YtkbhnphkopgccaaQ4
import Derived.Lib.SliceRun
import Derived.Test.YtkbhnphkopgccaaQSoIts
import Derived.Test.YtkbhnphkopgccaaQ1
import Derived.Sort.CutIn
namespace Go.Proofs.Ytkbhnphkopgccaa.So
open Go.ChangeShapes Go.WideShapes Go.ChangeAt Go.RowKit Go.Sort Go.Shelf Go.Proofs Ov Va St Pr
theorem own_none (w : World) (lo : Nat) (h : lo ≤ w.heap.size) (e : TypeId) (size : Nat) : (w.alloc (.cells #[] e)).ownsRow lo e size (.slice (some ⟨w.heap.size, 0, none⟩) 0 0) 0 [] :=
 ⟨by simp, .inr ⟨w.heap.size, 0, #[], rfl, h, (by show (w.heap.push _)[w.heap.size]? = _; simp), Nat.le_refl _, Nat.zero_le _, by simp, by simp⟩⟩
set_option maxHeartbeats 1000000 in
set_option maxRecDepth 100000 in
theorem clone_runs (L : Option Addr) (q cL lo : Nat) (vs : List Value) (w : World) (h : w.ownsRow lo 22 1 (.slice L q cL) q vs) (h1 : ∀ u ∈ vs, u.oneCell' = true) (hq : q ≤ 100000) :
 Calls Try.prog 51 #[.slice L q cL] w fun e w' => ∃ v, e = .returned v ∧ w'.ownsRow w.heap.size 22 1 v q vs ∧ Below w.heap.size w w' := by
 have H := Lib.hid h; have H1 := Lib.hid h1
 rcases h.2 with ⟨e, h0⟩ | ⟨g, cap, cur, e, _⟩
 · injection e with e1 e2 e3
   subst e1; subst e2; subst e3
   have hv : vs = [] := List.eq_nil_of_length_eq_zero (by have := h.1; simpa using this)
   subst hv
   clear h h1
   go_enter Try.func51, Try.ntmps51
   have hE : (binOp .eql 33 (.slice none 0 0) (.slice none 0 0)).run Try.prog w = .ok (.bool true) w := Lib.run_eql_slice_nil w 33 22 none 0 0 0 0 Try.underlying33
   go_wp2_with (fail)
   go_ret
   exact ⟨_, rfl, World.ownsRow_nil _ _ _ _, Below.refl _ _⟩
 · injection e with e1 e2 e3
   subst e1
   obtain ⟨i1, hj0, hj1, hj2, hj3⟩ := info_parts infoL
   have HJ0 := Lib.hid hj0; have HJ1 := Lib.hid hj1; have HJ2 := Lib.hid hj2; have HJ3 := Lib.hid hj3
   have hvl : vs.length = q * 1 := h.1
   have hcells := h.cells (g := g) rfl
   have HVL := Lib.hid hvl; have HCE := Lib.hid hcells
   clear h h1 hj0 hj1 hj2 hj3 hvl hcells e2 e3
   go_enter Try.func51, Try.ntmps51
   have hE : (binOp .eql 33 (.slice (some ⟨g, 0, none⟩) q cL) (.slice none 0 0)).run Try.prog w = .ok (.bool false) w := Lib.run_eql_slice_nil w 33 22 (some ⟨g, 0, none⟩) q cL 0 0 Try.underlying33
   go_wp2_with (at_builtin; refine wpList_append_own _ rfl _ _ 33 rfl w.heap.size 22 i1 (.slice none 0 0) 1 24 Try.underlying33 HJ0.out HJ1.out HJ2.out HJ3.out rfl (by decide) _ _ _ rfl (own_none w _ (Nat.le_refl _) 22 1) ⟨g, 0, none⟩ q cL vs rfl HVL.out ?c1 H1.out ?c3 ?c4 ?c5 ?_)
   case c1 =>
    intro j u hj
    have := HCE.out j u hj
    exact ((box1 w _).cell (block_lt_of_cell this)).trans this
   case c3 => unfold maxLen; omega
   case c4 => omega
   case c5 => rw [World.size_alloc]; omega
   intro v' w3 hown' hgrow _
   have HB := Lib.hid ((box1 w (.cells #[] 22)).grown hgrow (by rw [World.size_alloc]; omega) (fun k e => by cases e; exact Nat.le_refl _))
   have HO := Lib.hid hown'
   clear hown' hgrow
   go_wp2_with (fail)
   go_ret
   exact ⟨v', rfl, HO.out, HB.out⟩
def rsE (room : Nat) (l : List Pr) (q : Nat) : List (List Pr) := (List.range q).map (ch room l) ++ (if l.length = q * room then [] else [sr (l.drop (q * room))])
def EndQ (room : Nat) (l : List Pr) (q : Nat) (w : World) (e : Ending) (w' : World) : Prop :=
 ∃ (v : Value) (ps' : List Part), e = .returned v ∧ w'.ownsRow w.heap.size 22 1 v ps'.length (ps'.map pv) ∧ (∀ x ∈ ps', PIn w' x ∧ x.2.2.length ≤ x.2.1 ∧ ∀ g o, x.1 = some ⟨g, o, none⟩ → v.ownBlock ≠ some g) ∧ ps'.map (·.2.2) = rsE room l q ∧ Below w.heap.size w w'
theorem ended_nil (w : World) : Calls Try.prog 31 #[.pointer none] w fun e w' => e = .returned (.slice none 0 0) ∧ w = w' := by
 go_enter Try.func31, Try.ntmps31
 go_wp2_with (fail)
 go_ret
 exact ⟨rfl, rfl⟩
set_option maxHeartbeats 2000000 in
set_option maxRecDepth 100000 in
theorem ended_any {lo b room q : Nat} {l : List Pr} {vi vl : Value} {ps : List Part} (w : World) (h : SS w lo b room l q vi vl ps) (hl : l.length ≤ 100000) (hr1 : 1 ≤ room) (hX : Tx l) :
 Calls Try.prog 31 #[.pointer (some ⟨b, 0, none⟩)] w (EndQ room l q w) := by
 obtain ⟨A, cA, e1, hAc, hAn⟩ := own_slice h.i
 obtain ⟨L, cL, e2, hLc, hLn⟩ := own_slice h.d
 subst e1; subst e2
 have hq : q ≤ 100000 := by have := Nat.le_mul_of_pos_right q hr1; have := h.q1; omega
 have hpl : ps.length = q := by have := h.d.1; simpa using this
 have hcl := clone_runs L q cL lo (ps.map pv) w h.d (fun u hu => by obtain ⟨x, _, rfl⟩ := List.mem_map.1 hu; rfl) hq
 have HS := Lib.hid h; have HX := Lib.hid hX; have HPL := Lib.hid hpl
 obtain ⟨n, hn⟩ : ∃ n, n = l.length - q * room := ⟨_, rfl⟩
 have HN := Lib.hid hn
 have c2 := h.h.c 2 _ rfl
 clear h hX hpl hn
 go_enter Try.func31, Try.ntmps31
 go_wp2_with (fail)
 refine hcl.mono ?_
 rintro e w1 ⟨v1, rfl, hown, hb⟩
 have HO1 := Lib.hid hown; have HB1 := Lib.hid hb
 have hs1 := HS.out.next hb
 have c1 := hs1.h.c 1 _ rfl
 rw [← HN.out] at c1
 have HS1 := Lib.hid hs1
 clear hcl hown hb hs1 c2
 have HLS : Hid (∀ x ∈ ps, PIn w1 x ∧ x.2.2.length ≤ x.2.1) := fun x hx => ⟨⟨(HS1.out.o x hx).1.prs, (HS1.out.o x hx).2.1⟩, (HS1.out.o x hx).2.2⟩
 rcases Nat.eq_zero_or_pos n with h0 | h0
 · subst h0
   obtain ⟨A9, c9, e9, _⟩ := own_slice HO1.out
   subst e9
   go_wp2_with (fail)
   go_ret
   refine ⟨_, ps, rfl, by rw [HPL.out]; exact HO1.out, fun x hx => ⟨(HLS.out x hx).1, (HLS.out x hx).2, fun g o e hv => ?_⟩, ?_, HB1.out⟩
   · have h1 := (own_lt HO1.out hv).1
     have h2 := (HS.out.o x hx).1.lt g o e
     omega
   have h1 := HS.out.q1; have h2 := HN.out
   unfold rsE
   rw [if_pos (by omega), List.append_nil]; exact HS.out.p
 · have h0z : (0 : Int) < (n : Int) := by omega
   have hPI : PIn w1 (A, cA, l.drop (q * room)) := ⟨prs_own (by have := HS1.out.i; exact this) (by rw [List.length_drop]), fun e => by
    have := hAn e; rw [← HN.out] at this; omega⟩
   have hso := sort_any A cA (l.drop (q * room)) w1 hPI (by rw [List.length_drop]; omega) (fun z hz => HX.out z (List.mem_of_mem_drop hz))
   rw [List.length_drop, ← HN.out] at hso
   have hsl : (sr (l.drop (q * room))).length = n := by rw [sr_len, List.length_drop]; exact HN.out.symm
   have HSL := Lib.hid hsl
   obtain ⟨i1, hj0, hj1, hj2, hj3⟩ := info_parts infoL
   have HJ0 := Lib.hid hj0; have HJ1 := Lib.hid hj1; have HJ2 := Lib.hid hj2; have HJ3 := Lib.hid hj3
   have HW : Hid (w.heap.size ≤ w1.heap.size) := HB1.out.size
   clear hj0 hj1 hj2 hj3 hPI hsl
   obtain ⟨A9, c9, e9, _, _⟩ := own_slice HO1.out
   subst e9
   go_wp2_with (fail)
   refine hso.mono ?_
   rintro e w2 ⟨A1, c1', rfl, ho2, hn2, hc2, hb2⟩
   rw [HSL.out] at hc2 ⊢
   have HO2 := Lib.hid ho2; have HN2 := Lib.hid hn2; have HC2 := Lib.hid hc2; have HB2 := Lib.hid hb2
   have HOW := Lib.hid (own_keep (own_keep HO1.out hb2) (box1 w2 (.cells #[.slice A1 n c1'] 22)))
   have HB12 := Lib.hid (Below.next HB1.out hb2)
   clear ho2 hn2 hc2 hb2 c1
   go_wp2_with (at_builtin; refine wpList_append_own_at _ rfl _ _ 33 rfl w.heap.size 22 i1 (.slice none 0 0) 1 24 Try.underlying33 HJ0.out HJ1.out HJ2.out HJ3.out rfl (by decide) _ _ _ rfl HOW.out ⟨w2.heap.size, 0, none⟩ 1 1 [.slice A1 n c1'] rfl rfl ?c1 ?c2 ?c3 ?c4 ?c5 ?_)
   case c1 =>
    intro j u hj
    rw [Addr.add_lit, Nat.zero_add]
    exact (Blk.made w2 22 [.slice A1 n c1'] rfl).c j u hj
   case c2 =>
    intro u hu
    obtain rfl : u = .slice A1 n c1' := by simpa using hu
    rfl
   case c3 => unfold maxLen; omega
   case c4 => omega
   case c5 => have := HB12.out.size; rw [World.size_alloc]; omega
   intro v' w3 hown' hgrow _ hat
   have hBa := (box1 w2 (.cells #[.slice A1 n c1'] 22))
   have hkp : ∀ (x : Part), PIn (w2.alloc (.cells #[.slice A1 n c1'] 22)) x → (∀ g o, x.1 = some ⟨g, o, none⟩ → 0 < x.2.2.length → (Value.slice A9 q c9).ownBlock ≠ some g) → PIn w3 x := fun x hx hne => ⟨fun h0 => by
    obtain ⟨B, O, e, hc⟩ := hx.1 h0
    refine ⟨B, O, e, fun i j v hi hv => ?_⟩
    have hcell := hc i j v hi hv
    have hlt : B < (w2.alloc (.cells #[.slice A1 n c1'] 22)).heap.size := block_lt_of_cell hcell
    exact (World.cell?_of_block (a := ⟨B, O + i * 6 + j, none⟩) (hgrow.block B hlt fun e' => hne B O e h0 e'.symm)).trans hcell, hx.2⟩
   have HAT : Hid (v'.ownBlock = (Value.slice A9 q c9).ownBlock ∨ v'.ownBlock = some (w2.heap.size + 1)) := hat
   have HO3 := Lib.hid hown'
   have HB3 := Lib.hid ((Below.next HB12.out hBa).grown hgrow (by have := HB12.out.size; rw [World.size_alloc]; omega) (fun k e => (own_lt HOW.out e).1))
   have HKP := Lib.hid hkp
   clear hown' hgrow hkp hBa hat
   go_wp2_with (fail)
   go_ret
   have hal := fun x hx => (HLS.out x hx)
   refine ⟨v', ps ++ [(A1, c1', sr (l.drop (q * room)))], rfl, ?_, fun x hx => ?_, ?_, HB3.out⟩
   · have e1 : (ps ++ [((A1, c1', sr (l.drop (q * room))) : Part)]).length = q + 1 := by rw [List.length_append, HPL.out]; rfl
     rw [e1, List.map_append]
     have e2 : pv ((A1, c1', sr (l.drop (q * room))) : Part) = .slice A1 n c1' := by unfold pv; dsimp only; rw [HSL.out]
     simp only [List.map_cons, List.map_nil, e2]
     exact HO3.out
   · rcases List.mem_append.1 hx with hx | hx
     · refine ⟨HKP.out x (((hal x hx).1.next HB2.out).next (box1 w2 _)) fun g o e h0 hv => ?_, (hal x hx).2, fun g o e hv => ?_⟩
       rotate_left
       · have h1 := (own_lt HO3.out hv).1
         have h2 := (HS.out.o x hx).1.lt g o e
         omega
       have h1 := (own_lt HO1.out hv).1
       have h2 := (HS.out.o x hx).1.lt g o e
       omega
     · have hA1 : ∀ g o, A1 = some ⟨g, o, none⟩ → w1.heap.size ≤ g ∧ g < w2.heap.size := fun g o e => by
        refine ⟨?_, HO2.out.lt g o e⟩
        rcases HO2.out with ⟨_, e1⟩ | ⟨g', e1, h3, _⟩
        · rw [e1] at e; cases e
        · rw [e1] at e
          injection e with e
          injection e with e
          omega
       obtain rfl : x = (A1, c1', sr (l.drop (q * room))) := by simpa using hx
       refine ⟨HKP.out _ ⟨(HO2.out.next (box1 w2 _)).prs, HN2.out⟩ fun g o e h0 hv => ?_, by dsimp only; rw [HSL.out]; exact HC2.out, fun g o e hv => ?_⟩
       rotate_left
       · have h5 := hA1 g o e
         rcases HAT.out with h | h
         · rw [h] at hv; have := (own_lt HO1.out hv).2; omega
         · rw [h] at hv; injection hv with hv; omega
       have h1 := (own_lt HO1.out hv).2
       have h2 : w1.heap.size ≤ g := by
        rcases HO2.out with ⟨_, e1⟩ | ⟨g', e1, h3, _⟩
        · dsimp only at e; rw [e1] at e; cases e
        · dsimp only at e
          rw [e1] at e
          injection e with e
          injection e with e
          omega
       omega
   · have h1 := HS.out.q1; have h2 := HN.out
     unfold rsE
     rw [if_neg (by omega), List.map_append, HS.out.p]
     rfl
def RunsQ (rs : List (List Pr)) (w : World) (e : Ending) (w' : World) : Prop :=
 ∃ (v : Value) (qs : List Part), e = .returned v ∧ w'.ownsRow w.heap.size 22 1 v qs.length (qs.map pv) ∧ (∀ x ∈ qs, OwnL w.heap.size w' x.1 x.2.2 ∧ (x.1 = none → x.2.2 = [] ∧ x.2.1 = 0) ∧ x.2.2.length ≤ x.2.1) ∧ qs.map (·.2.2) = rs ∧ Below w.heap.size w w'
theorem runs_nil (w : World) : Calls Try.prog 15 #[.pointer none] w (Gives (.slice none 0 0) w) := by
 go_enter Try.func15, Try.ntmps15
 go_wp2_with (fail)
 refine (ended_nil w).mono ?_
 rintro e w1 ⟨rfl, rfl⟩
 go_wp2_with (fail)
 refine wp_loop_rounds 1 ?_
 rw [rounds_succ]
 go_wp2_with (fail)
 go_ret
 exact ⟨rfl, Below.refl _ _⟩
structure RI (w wr : World) (v : Value) (m i : Nat) (rs : List (List Pr)) (qs : List Part) : Prop where
 len : qs.length = m
 row : wr.ownsRow w.heap.size 22 1 v m (qs.map pv)
 rs : qs.map (·.2.2) = rs
 all : ∀ x ∈ qs, PIn wr x ∧ x.2.2.length ≤ x.2.1 ∧ ∀ g o, x.1 = some ⟨g, o, none⟩ → v.ownBlock ≠ some g
 own : ∀ j, j < i → OwnL w.heap.size wr (qd qs j).1 (qd qs j).2.2
 b : Below w.heap.size w wr
theorem _root_.Go.Proofs.Ytkbhnphkopgccaa.Pr.PIn.kp {O : Nat → Prop} {w w' : World} {x : Part} (h : PIn w x) (k : Kp O w w') (hO : ∀ g o, x.1 = some ⟨g, o, none⟩ → ¬ O g) : PIn w' x := ⟨fun h0 => by
 obtain ⟨B, o, e, hc⟩ := h.1 h0
 refine ⟨B, o, e, fun i j v hi hv => ?_⟩
 have hcell := hc i j v hi hv
 exact (k.cell (p := ⟨B, o + i * 6 + j, none⟩) (hO B o e) (block_lt_of_cell hcell)).trans hcell, h.2⟩
theorem qd_set {qs : List Part} {i j : Nat} {x : Part} (hi : i < qs.length) : qd (qs.set i x) j = if j = i then x else qd qs j := by
 unfold qd
 rw [List.getElem?_set]
 by_cases e : i = j
 · subst e; rw [if_pos rfl, if_pos hi, if_pos rfl]; rfl
 · rw [if_neg e, if_neg (fun h => e h.symm)]
theorem qd_mem {qs : List Part} {i : Nat} (hi : i < qs.length) : qd qs i ∈ qs := by
 unfold qd; rw [List.getElem?_eq_getElem hi]; exact List.getElem_mem hi
theorem RI.step {w wr w1 : World} {g c m i : Nat} {rs : List (List Pr)} {qs : List Part} (h : RI w wr (.slice (some ⟨g, 0, none⟩) m c) m i rs qs) (hi : i < m)
 (ho : OwnL wr.heap.size w1 (some ⟨wr.heap.size, 0, none⟩) (qd qs i).2.2) (hb : Below wr.heap.size wr w1) :
 RI w (w1.setCell ⟨g, i, none⟩ (.slice (some ⟨wr.heap.size, 0, none⟩) (qd qs i).2.2.length (qd qs i).2.2.length)) (.slice (some ⟨g, 0, none⟩) m c) m (i + 1) rs (qs.set i (some ⟨wr.heap.size, 0, none⟩, (qd qs i).2.2.length, (qd qs i).2.2)) := by
 have hgl := own_lt h.row (g := g) rfl
 have hz := hb.size
 have hil : i < qs.length := by rw [h.len]; exact hi
 have hset : Kp (fun b => b = g) w1 (w1.setCell ⟨g, i, none⟩ (.slice (some ⟨wr.heap.size, 0, none⟩) (qd qs i).2.2.length (qd qs i).2.2.length)) := (Kp.refl (fun b => b = g) w1).setCell (b := g) rfl i _
 have hnew : OwnL wr.heap.size (w1.setCell ⟨g, i, none⟩ (.slice (some ⟨wr.heap.size, 0, none⟩) (qd qs i).2.2.length (qd qs i).2.2.length)) (some ⟨wr.heap.size, 0, none⟩) (qd qs i).2.2 := ho.kp hset fun y o e h => by
  injection e with e; injection e with e; omega
 refine ⟨by rw [List.length_set]; exact h.len, ?_, ?_, fun x hx => ?_, fun j hj => ?_, ?_⟩
 · have := ((own_keep h.row hb).stored i (.slice (some ⟨wr.heap.size, 0, none⟩) (qd qs i).2.2.length (qd qs i).2.2.length)).1
   rw [List.map_set]; exact this
 · rw [List.map_set, ← h.rs]
   have hm : i < (qs.map (·.2.2)).length := by simpa using hil
   have e : (qd qs i).2.2 = (qs.map (·.2.2))[i] := by
    unfold qd
    rw [List.getElem?_eq_getElem hil, List.getElem_map]; rfl
   show (qs.map (·.2.2)).set i (qd qs i).2.2 = _
   rw [e]
   exact List.set_getElem_self hm
 · rcases List.mem_or_eq_of_mem_set hx with hx | rfl
   · have ha := h.all x hx
     refine ⟨(ha.1.next hb).kp hset fun y o e h => ha.2.2 y o e (by rw [h]; rfl), ha.2⟩
   · refine ⟨⟨hnew.prs, fun e => by cases e⟩, Nat.le_refl _, fun y o e hv => ?_⟩
     injection e with e; injection e with e
     have hv' : some g = some y := hv
     injection hv' with hv'
     omega
 · rw [qd_set hil]
   split
   · exact hnew.lower h.b.size
   · rename_i hne
     have hx := h.own j (by omega)
     refine (hx.next hb).kp hset fun y o e hy => (h.all _ (qd_mem (by omega))).2.2 y o e (by rw [hy]; rfl)
 · exact (Below.next h.b hb).setCell (p := ⟨g, i, none⟩) hgl.1 _
set_option maxHeartbeats 2000000 in
set_option maxRecDepth 100000 in
theorem runs_any {lo b room q : Nat} {l : List Pr} {vi vl : Value} {ps : List Part} (w : World) (h : SS w lo b room l q vi vl ps) (hl : l.length ≤ 100000) (hr1 : 1 ≤ room) (hX : Tx l) :
 Calls Try.prog 15 #[.pointer (some ⟨b, 0, none⟩)] w (RunsQ (rsE room l q) w) := by
 have hend := ended_any w h hl hr1 hX
 unfold EndQ at hend
 have HXR : Hid (∀ r ∈ rsE room l q, Tx r ∧ r.length ≤ 100000) := fun r hr => by
  have sub : ∀ m : List Pr, (∀ z ∈ m, z ∈ l) → m.length ≤ l.length → Tx (sr m) ∧ (sr m).length ≤ 100000 := fun m hm hml => ⟨fun z hz => hX z (hm z ((sr_mem m z).1 hz)), by rw [sr_len]; omega⟩
  unfold rsE at hr
  rcases List.mem_append.1 hr with hr | hr
  · obtain ⟨i, _, rfl⟩ := List.mem_map.1 hr
    exact sub _ (fun z hz => List.mem_of_mem_drop (List.mem_of_mem_take hz)) (by rw [List.length_take, List.length_drop]; omega)
  · split at hr
    · cases hr
    · obtain rfl : r = sr (l.drop (q * room)) := by simpa using hr
      exact sub _ (fun z hz => List.mem_of_mem_drop hz) (by rw [List.length_drop]; omega)
 have hq : q ≤ 100000 := by have := Nat.le_mul_of_pos_right q hr1; have := h.q1; omega
 have HRL : Hid ((rsE room l q).length ≤ 100001) := by
  show _ ≤ _
  unfold rsE
  rw [List.length_append, List.length_map, List.length_range]
  split
  · simp; omega
  · simp; omega
 clear h hl hX
 generalize rsE room l q = rs at *
 go_enter Try.func15, Try.ntmps15
 go_wp2_with (fail)
 refine hend.mono ?_
 rintro e w1 ⟨v, ps', rfl, hrow, hall, hrs, hb⟩
 clear hend
 obtain ⟨A9, c9, e9, hc9, hn9⟩ := own_slice hrow
 obtain ⟨m, hm⟩ : ∃ m, m = ps'.length := ⟨_, rfl⟩
 have hR : RI w w1 v m 0 rs ps' := ⟨hm.symm, by rw [hm]; exact hrow, hrs, hall, (fun j hj => absurd hj (Nat.not_lt_zero _)), hb⟩
 have hml : m ≤ 100001 := by have := congrArg List.length hrs; rw [List.length_map] at this; have := HRL.out; omega
 rw [← hm] at e9 hc9
 have hn0 : A9 = none → m = 0 := fun e => by rw [hm]; exact (hn9 e).1
 subst e9
 have HR := Lib.hid hR
 have HN0 := Lib.hid hn0
 clear hrow hall hrs hb hm hn9 hR hn0
 go_wp2_with (fail)
 go_loopg [10] m (fun kx s10 wr => ∃ (i : Nat) (qs : List Part), i ≤ m ∧ m - i ≤ kx ∧ s10 = .int .i64 i ∧ Hid (RI w wr (.slice A9 m c9) m i rs qs))
 case atStart => exact ⟨0, ps', Nat.zero_le _, by omega, rfl, HR⟩
 case round =>
  clear HR
  obtain ⟨i, qs, hi, hkx, rfl, HR⟩ := hrel
  by_cases hlt : i < m
  · have hltz : (i : Int) < (m : Int) := by omega
    rcases HR.out.row.2 with ⟨_, e0⟩ | ⟨g, cap, cur, e, _⟩
    · omega
    · injection e with e1 e2 e3
      subst e1
      have hil : i < qs.length := by rw [HR.out.len]; exact hlt
      have hcell : wr.cell? ⟨g, i, none⟩ = some (pv (qd qs i)) := by
       rw [HR.out.row.cellAt i (by omega)]
       unfold qd
       rw [List.getElem?_map, List.getElem?_eq_getElem hil]; rfl
      have hfr : ∀ X : World, X.ownsRow w.heap.size 22 1 (.slice (some ⟨g, 0, none⟩) m c9) m (qs.map pv) → X.cell? ⟨g, i, none⟩ = some (pv (qd qs i)) ∧ X.frozen? ⟨g, i, none⟩ = false := fun X hX => ⟨by
       rw [hX.cellAt i (by omega)]
       unfold qd
       rw [List.getElem?_map, List.getElem?_eq_getElem hil]; rfl, hX.frozenAt _⟩
      have HFR := Lib.hid hfr
      have hPi := (HR.out.all _ (qd_mem hil)).1
      have hmem : (qd qs i).2.2 ∈ rs := by rw [← HR.out.rs]; exact List.mem_map.2 ⟨_, qd_mem hil, rfl⟩
      have hxr := HXR.out _ hmem
      have hcall := ownPairs_any (qd qs i).1 (qd qs i).2.1 (qd qs i).2.2 wr hPi.1 hxr.2 hxr.1
      have hlen := hxr.2
      unfold pv at hcell
      clear hPi hmem hxr hfr e2 e3
      obtain ⟨xA, hxA⟩ : ∃ x, x = (qd qs i).1 := ⟨_, rfl⟩
      obtain ⟨xc, hxc⟩ : ∃ x, x = (qd qs i).2.1 := ⟨_, rfl⟩
      obtain ⟨xn, hxn⟩ : ∃ x, x = (qd qs i).2.2.length := ⟨_, rfl⟩
      have HXN := Lib.hid hxn
      rw [← hxA, ← hxc, ← hxn] at hcell hcall
      rw [← hxn] at hlen
      clear hxA hxc hxn
      go_wp2_with (fail)
      refine hcall.mono ?_
      rintro e w2 ⟨rfl, ho, hb⟩
      have HST := Lib.hid (HR.out.step hlt ho hb)
      obtain ⟨d0, d1⟩ := HFR.out w2 (own_keep HR.out.row hb)
      unfold pv at d0
      rw [← HXN.out] at HST
      clear hcall ho hb hcell
      go_wp2_with (fail)
      go_roundg (m - (i + 1))
      case measure => omega
      case rel => exact ⟨i + 1, _, by omega, Nat.le_refl _, by go_num, HST⟩
  · obtain rfl : i = m := by omega
    have hltz : ¬ (i : Int) < (i : Int) := by omega
    go_wp2_with (fail)
    go_ret
    refine ⟨_, qs, rfl, by rw [HR.out.len]; exact HR.out.row, fun x hx => ?_, HR.out.rs, HR.out.b⟩
    obtain ⟨j, hj, e⟩ := List.getElem_of_mem hx
    have e' : qd qs j = x := by unfold qd; rw [List.getElem?_eq_getElem hj, e]; rfl
    have ho := HR.out.own j (by rw [← HR.out.len]; exact hj)
    rw [e'] at ho
    have ha := HR.out.all x hx
    exact ⟨ho, ha.1.2, ha.2.1⟩
def p1 (c : UInt8) : Pr := ([c], ⟨0, 0, [], 0, 0⟩)
theorem pcl_p1 (c : UInt8) : (pcl (p1 c)).toArray = #[.string ⟨#[c]⟩, .int .i64 0, .int .i64 0, .string ⟨#[]⟩, .int .i64 0, .int .i64 0] := rfl
theorem tx_p1 (l : List UInt8) : Tx (l.map p1) := fun z hz => by
 obtain ⟨c, _, rfl⟩ := List.mem_map.1 hz
 exact ⟨by simp [p1], by simp [p1]⟩
theorem rs_awake : rsE 2 ([98, 97, 99].map p1) 1 = [[p1 97, p1 98], [p1 99]] := by decide
theorem two_parts {qs : List Part} {a b : List Pr} (h : qs.map (·.2.2) = [a, b]) : ∃ A c B d, qs = [(A, c, a), (B, d, b)] := by
 match qs, h with
 | [], h => cases h
 | [x], h => simp at h
 | [x, y], h =>
   simp only [List.map_cons, List.map_nil, List.cons.injEq, and_true] at h
   obtain ⟨A, c, l⟩ := x
   obtain ⟨B, d, m⟩ := y
   obtain ⟨h1, h2⟩ := h
   dsimp only at h1 h2
   subst h1; subst h2
   exact ⟨A, c, B, d, rfl⟩
 | _ :: _ :: _ :: _, h => simp at h
set_option maxHeartbeats 2000000 in
set_option maxRecDepth 100000 in
theorem awake12_any (w : World) : Calls Try.prog 9 #[] w (Gives (.bool true) w) := by
 have hn := new_yes 2 (by decide) (by decide) w
 go_enter Try.func9, Try.ntmps9
 go_wp2_with (fail)
 refine hn.mono ?_
 rintro e w1 ⟨rfl, hs1, hb1⟩
 have HB1 := Lib.hid hb1
 have hp1 := put_yes (p1 98) w1 hs1 rfl (by simp) (by decide) (by decide) (tx_p1 [98]) hb1.size
 rw [pcl_p1] at hp1
 clear hn hb1
 go_wp2_with (fail)
 refine hp1.mono ?_
 rintro e w2 ⟨rfl, q2, vi2, vl2, ps2, hs2, hk2, _⟩
 have HB2 := Lib.hid (HB1.out.trans (hk2.below (fun c e => (hs1.old c e).1) HB1.out.size))
 have hp2 := put_yes (p1 97) w2 hs2 rfl (by simp) (by decide) (by decide) (tx_p1 [98, 97]) HB2.out.size
 rw [pcl_p1] at hp2
 clear hp1 hk2 hs1 HB1
 go_wp2_with (fail)
 refine hp2.mono ?_
 rintro e w3 ⟨rfl, q3, vi3, vl3, ps3, hs3, hk3, _⟩
 have HB3 := Lib.hid (HB2.out.trans (hk3.below (fun c e => (hs2.old c e).1) HB2.out.size))
 have hp3 := put_yes (p1 99) w3 hs3 rfl (by simp) (by decide) (by decide) (tx_p1 [98, 97, 99]) HB3.out.size
 rw [pcl_p1] at hp3
 clear hp2 hk3 hs2 HB2
 go_wp2_with (fail)
 refine hp3.mono ?_
 rintro e w4 ⟨rfl, q4, vi4, vl4, ps4, hs4, hk4, _⟩
 have HB4 := Lib.hid (HB3.out.trans (hk4.below (fun c e => (hs3.old c e).1) HB3.out.size))
 have hq : q4 = 1 := by
  have h1 := hs4.q1; have h2 := hs4.q2
  simp at h1 h2
  omega
 subst hq
 have hr := runs_any w4 hs4 (by simp) (by decide) (tx_p1 [98, 97, 99])
 have er : rsE 2 ([] ++ [p1 98] ++ [p1 97] ++ [p1 99]) 1 = [[p1 97, p1 98], [p1 99]] := rs_awake
 rw [er] at hr
 clear hp3 hk4 hs3 hs4 HB3 er
 go_wp2_with (fail)
 refine hr.mono ?_
 rintro e w5 ⟨v, qs, rfl, hrow, hall, hrs, hb⟩
 have HB5 := Lib.hid (Below.next HB4.out hb)
 clear hr hb HB4
 obtain ⟨xA, xc, yA, yc, rfl⟩ := two_parts hrs
 obtain ⟨g, c, rfl⟩ := own_shape' (n := 1) hrow
 have c0 : w5.cell? ⟨g, 0, none⟩ = some (.slice xA 2 xc) := (hrow.cellAt 0 (by decide)).trans rfl
 have c1 : w5.cell? ⟨g, 1, none⟩ = some (.slice yA 1 yc) := (hrow.cellAt 1 (by decide)).trans rfl
 have hx : Prs w5 xA [p1 97, p1 98] := (hall _ (List.mem_cons_self ..)).1.prs
 have hy : Prs w5 yA [p1 99] := (hall _ (List.mem_cons_of_mem _ (List.mem_cons_self ..))).1.prs
 obtain ⟨G, O, e1⟩ := hx.shape (by decide)
 obtain ⟨G', O', e2⟩ := hy.shape (by decide)
 subst e1; subst e2
 have d0 : w5.cell? ⟨G, O, none⟩ = some (.string ⟨#[97]⟩) := hx.cell (i := 0) (by decide) 0 _ rfl
 have d1 : w5.cell? ⟨G', O', none⟩ = some (.string ⟨#[99]⟩) := hy.cell (i := 0) (by decide) 0 _ rfl
 clear hrow hall hx hy
 go_wp2_with (fail)
 go_ret
 exact ⟨rfl, HB5.out⟩
theorem merged_any (A : Option Addr) (k c : Nat) (w : World) : Calls Try.prog 30 #[.slice A k c] w fun e w' => e = .returned (.func (.func 46) #[] #[.pointer (some ⟨w.heap.size, 0, none⟩)]) ∧ Blk w' w.heap.size [.slice A k c] ∧ Below w.heap.size w w' := by
 have HB := Lib.hid (box1 w (.cells #[.slice A k c] 33))
 have HK := Lib.hid (Blk.made w 33 [.slice A k c] rfl)
 go_enter Try.func30, Try.ntmps30
 go_wp2_with (fail)
 go_ret
 exact ⟨rfl, HK.out, HB.out⟩
def MI (w : World) (bx b6 : Nat) (A : Option Addr) (c k : Nat) (pre : List Pr) (O : Nat → Prop) (X : World) : Prop :=
 ∃ v, Blk X b6 [v] ∧ Blk X bx [.slice A k c] ∧ X.ownsRow w.heap.size 49 6 v pre.length (pcells pre) ∧ (∀ g, v.ownBlock = some g → ¬ O g ∧ g ≠ b6 ∧ g ≠ bx) ∧ ¬ O b6 ∧ ¬ O bx ∧ (∀ b, O b → w.heap.size ≤ b ∧ b < X.heap.size) ∧ Below w.heap.size w X
theorem MI.step {w : World} {bx b6 : Nat} {A : Option Addr} {c k : Nat} {pre : List Pr} {O O' : Nat → Prop} {X Y : World} (h : MI w bx b6 A c k pre O X) (q : Kp O X Y) (ho : ∀ b, O' b → b < Y.heap.size ∧ (O b ∨ X.heap.size ≤ b)) : MI w bx b6 A c k pre O' Y := by
 obtain ⟨v, h6, hx, hr, hg, n6, nx, hO, hb⟩ := h
 have hs := hb.size
 refine ⟨v, h6.kp q n6, hx.kp q nx, own_kp hr q fun g e => (hg g e).1, fun g e => ⟨fun e' => ?_, (hg g e).2⟩, fun e' => ?_, fun e' => ?_, fun b e => ⟨?_, (ho b e).1⟩, hb.trans (q.below (fun b e => (hO b e).1) hs)⟩
 · rcases (ho g e').2 with h | h
   · exact (hg g e).1 h
   · have := (own_lt hr e).2; omega
 · rcases (ho b6 e').2 with h | h
   · exact n6 h
   · have := h6.lt; omega
 · rcases (ho bx e').2 with h | h
   · exact nx h
   · have := hx.lt; omega
 · rcases (ho b e).2 with h | h
   · exact (hO b h).1
   · omega
attribute [local go_sem] Oper.semAt_some
set_option maxRecDepth 100000 in
set_option maxHeartbeats 4000000 in
theorem merge_yes (A : Option Addr) (c : Nat) (qs : List Part) (w : World) (h : LlN w A qs) (hK : Rk qs c) (hT : (rsOf qs).flatten.length ≤ 1000000) :
 Calls Try.prog 14 #[.slice A qs.length c] w fun e w' => ∃ v, e = .returned (.tuple #[v, .int .i64 0]) ∧ w'.ownsRow w.heap.size 49 6 v (rsOf qs).flatten.length (pcells (sr (rsOf qs).flatten)) ∧ Below w.heap.size w w' := by
 have HL := Lib.hid h; have HK := Lib.hid hK; have HT := Lib.hid hT
 clear h hK hT
 refine (callsIn_wide (n := 9)).1 ?_
 refine callsIn_of_wp_marks Try.func14 rfl trivial ?_ rfl
 simp only [Try.ntmps14, List.size_toArray, List.length_cons, List.length_nil, Nat.reduceAdd, Nat.reduceSub, Array.replicate_succ, Array.replicate_zero, List.push_toArray, List.append_toArray, List.nil_append, List.cons_append]
 have hkl := HK.out.k
 gi_wp2
 gi_loopw [10] (fun s10 wr => ∃ i : Nat, s10 = .int .i64 i ∧ i ≤ qs.length ∧ Hid (Below w.heap.size w wr)) (fun s10 _ => qs.length - (intOf s10).toNat)
 case atStart => exact ⟨0, rfl, Nat.zero_le _, Below.refl _ _⟩
 case round =>
  obtain ⟨i, rfl, hi, HB⟩ := hrel
  by_cases hlt : i < qs.length
  · have hltz : (i : Int) < (qs.length : Int) := by omega
    obtain ⟨B, O, hA, hc, hp⟩ := (HL.out.next HB.out) i hlt
    subst hA
    have hkn := HK.out.n i hlt
    have hod := HK.out.o i hlt
    unfold pv at hc
    have hcall := ordered_any (qd qs i).1 (qd qs i).2.1 (qd qs i).2.2 wr hp.1 hkn.1
    generalize (qd qs i).1 = Ai at *
    generalize (qd qs i).2.1 = ci at *
    generalize (qd qs i).2.2 = li at *
    gi_wp2_with (refine ⟨trivial, ?_⟩; refine (callsIn_wide.2 hcall).mono ?_; rintro e w1 ⟨q, rfl, hq, hb⟩; have hq' := hq.2 hod; clear hq; subst hq'; replace hb := Lib.hid hb; clear hp hod)
    exact ⟨⟨i + 1, by go_num, by omega, Below.next HB.out hb.out⟩, by simp [intOf]; omega⟩
  · obtain rfl : i = qs.length := by omega
    have hltz : ¬ (qs.length : Int) < (qs.length : Int) := by omega
    gi_wp2_with (refine ⟨trivial, ?_⟩; refine (callsIn_wide.2 (merged_any _ _ _ _)).mono ?_; rintro e w1 ⟨rfl, hk, hb⟩)
    obtain ⟨b6, hb6⟩ : ∃ x, x = wr.heap.size := ⟨_, rfl⟩
    have hz6 := World.size_alloc wr (.cells #[.slice none 0 0] 22)
    have h6 : Blk w1 b6 [.slice none 0 0] := by rw [hb6]; exact (Blk.made wr 22 [.slice none 0 0] rfl).next hb
    rw [hz6] at hk
    obtain ⟨bx, hbx⟩ : ∃ x, x = wr.heap.size + 1 := ⟨_, rfl⟩
    rw [← hbx] at hk ⊢
    have hB1 : Below w.heap.size w w1 := Below.next HB.out (Below.next (box1 wr _) hb)
    have hne : b6 ≠ bx := by omega
    have hI0 : MI w bx b6 A c qs.length [] (fun _ => False) w1 := ⟨.slice none 0 0, h6, hk, World.ownsRow_nil _ _ _ _, (fun g e => by cases e), (fun h => h), (fun h => h), (fun b h => h.elim), hB1⟩
    have HI0 := Lib.hid hI0
    have HNE := Lib.hid hne
    have HB1 := Lib.hid hB1
    have H6B : Hid (b6 < w1.heap.size ∧ bx < w1.heap.size ∧ w.heap.size ≤ b6 ∧ w.heap.size ≤ bx) := by
     have h1 := h6.lt; have h2 := hk.lt; have h3 := HB.out.size
     show _ ∧ _ ∧ _ ∧ _
     omega
    rw [← hb6]
    clear hk hb h6 hI0 hB1 hne hz6 hbx hb6
    refine wpIn_rngA (F := Fence.wide) (M := Mm bx A c qs) (Fx := fun pre x _ => ∃ rest, sr (rsOf qs).flatten = pre ++ x :: rest) (S := fun xs => xs = sr (rsOf qs).flatten) (Sp := fun pre => ∃ rest, sr (rsOf qs).flatten = pre ++ rest) rfl (by decide) (gf := 46) (lb := #[.pointer (some ⟨bx, 0, none⟩)]) rfl trivial (enters_of Try.func46 (by kernel_rfl) rfl)
     (merged1_its bx A c qs HK.out 8) (fun _ => rfl)
     (fun pre O X => MI w bx b6 A c qs.length pre O X) (fun _ _ => False)
     (fun s O O' X Y h k ho => h.step k ho) (fun s O X h b hb => by obtain ⟨_, _, _, _, _, _, _, h7, _⟩ := h; exact (h7 b hb).2) (fun s X Y h k => h)
     (fun s O X h => by obtain ⟨_, _, h2, _, _, _, _, _, h8⟩ := h; exact ⟨h2.c 0 _ rfl, HL.out.next h8⟩) HI0.out
     (fun pre x X l o o' h _ _ => h)
     (fun x X => { tmps := #[.slice A qs.length c, undef, u2, u3, undef, u5, .pointer (some ⟨b6, 0, none⟩), .pointer (some ⟨X.heap.size, 0, none⟩), .slice A qs.length c, .int .i64 qs.length, .int .i64 qs.length, .bool false, u12, u13, u14, u15, u16, u17, .slice A qs.length c, .func (.func 46) #[] #[.pointer (some ⟨bx, 0, none⟩)], .agg (pcl x).toArray, undef, undef, undef, undef, undef], defers := [] })
     (fun x X => X.alloc (.cells (pcl x).toArray 49)) (fun x X => box1 X _) (fun pre x X h => h) ?assign ?body ?done ?stop
    case assign =>
     intro l x X K hK
     unfold enP pcl
     unfold pcl at hK
     gi_wp2
     exact hK
    case body =>
     intro l pre x O X V hI hx hk hlt
     obtain ⟨rest, hrest⟩ := hx
     have hlen : pre.length + 1 ≤ 1000000 := by
      have h1 := congrArg List.length hrest
      rw [sr_len, List.length_append, List.length_cons] at h1
      have := HT.out; omega
     clear hrest
     obtain ⟨v, h6, hxx, hr, hg, n6, nx, hO, hb⟩ := hI
     have hp7 : Blk V X.heap.size (pcl x) := (Blk.made X 49 (pcl x) rfl).kp hk fun e => by omega
     obtain ⟨i0, hi0, hi1, hi2, hi3⟩ := info_parts infoP
     have HI0' := Lib.hid hi0; have HI1 := Lib.hid hi1; have HI2 := Lib.hid hi2; have HI3 := Lib.hid hi3
     obtain ⟨xk, ⟨vk, vn, vs, vx, vy⟩⟩ := x
     have x0 := hp7.c 0 _ rfl; have x1 := hp7.c 1 _ rfl; have x2 := hp7.c 2 _ rfl; have x3 := hp7.c 3 _ rfl; have x4 := hp7.c 4 _ rfl; have x5 := hp7.c 5 _ rfl
     have c6 := h6.c 0 _ rfl
     have H6 := Lib.hid h6; have HXX := Lib.hid hxx; have HR := Lib.hid hr; have HG := Lib.hid hg; have HN6 := Lib.hid n6; have HNX := Lib.hid nx; have HO := Lib.hid hO; have HBV := Lib.hid hb
     have HHL := Lib.hid hlen
     obtain ⟨Av, cv, e1, _, _⟩ := own_slice hr
     subst e1
     clear hi0 hi1 hi2 hi3 h6 hxx hr hg n6 nx hO hb hk hlt hp7
     gi_wp2_with (gi_at_builtin; refine wpListIn_append_at _ rfl _ _ 22 rfl w.heap.size 49 i0 (.agg (pcl pz).toArray) 6 64 Try.underlying22 HI0'.out HI1.out HI2.out HI3.out rfl (by decide) _ _ _ rfl (own_keep HR.out (box1 V _)) _ 1 1 (pcl (xk, ⟨vk, vn, vs, vx, vy⟩)) rfl rfl ?c1 (pcl_one _) ?c3 ?c4 ?c5 ?_)
     case c1 =>
      intro j u hj
      exact hj
     case c3 => unfold maxLen; omega
     case c4 => omega
     case c5 => have := HBV.out.size; omega
     intro v' w3 hown' hgrow hat
     have hO6 : ∀ b, O b → b ≠ b6 := fun b hb e => HN6.out (e ▸ hb)
     have hOv : ∀ b, O b → (Value.slice Av pre.length cv).ownBlock ≠ some b := fun b hb e => (HG.out b e).1 hb
     have hvv : (Value.slice Av pre.length cv).ownBlock ≠ some b6 := fun e => (HG.out b6 e).2.1 rfl
     have hh3 := ((H6.out.old (.cells (pcl (xk, ⟨vk, vn, vs, vx, vy⟩)).toArray 49)).kp (O := fun b => (Value.slice Av pre.length cv).ownBlock = some b) ((Kp.refl _ _).grown hgrow fun b e => .inl e) fun e => hvv e)
     have hk3 : Kp (fun b => b = b6 ∨ (Value.slice Av pre.length cv).ownBlock = some b) V w3 := ((Kp.refl _ V).alloc _).grown hgrow fun b e => .inl (.inr e)
     have hk4 := hk3.setCell (b := b6) (.inl rfl) 0 v'
     have hv' : ∀ g, v'.ownBlock = some g → ¬ O g ∧ g ≠ b6 ∧ g ≠ bx := fun g e => by
      rcases hat with h | h
      · exact HG.out g (by rw [← h]; exact e)
      · rw [h] at e
        injection e with e
        have h1 := H6.out.lt; have h2 := HXX.out.lt
        exact ⟨fun h => by have := (HO.out g h).2; omega, by omega, by omega⟩
     have hrow : (w3.setCell ⟨b6, 0, none⟩ v').ownsRow w.heap.size 49 6 v' (pre ++ [((xk, ⟨vk, vn, vs, vx, vy⟩) : Pr)]).length (pcells (pre ++ [(xk, ⟨vk, vn, vs, vx, vy⟩)])) := by
      rw [pcells_snoc, List.length_append]
      exact own_kp (O := fun b => b = b6) hown' ((Kp.refl (fun b => b = b6) w3).setCell (b := b6) rfl 0 _) fun g e h => (hv' g e).2.1 h
     have hx4 := HXX.out.kp hk4 fun e => e.elim (fun e => HNE.out e.symm) fun e => (HG.out bx e).2.2 rfl
     have HFIN : Hid (V.heap.size ≤ (w3.setCell ⟨b6, 0, none⟩ v').heap.size ∧ (∀ b, O b → b < V.heap.size → (w3.setCell ⟨b6, 0, none⟩ v').heap[b]? = V.heap[b]?) ∧ MI w bx b6 A c qs.length (pre ++ [(xk, ⟨vk, vn, vs, vx, vy⟩)]) O (w3.setCell ⟨b6, 0, none⟩ v')) :=
      ⟨hk4.size, fun b hb hl => hk4.block b hl fun e => e.elim (hO6 b hb) fun e => hOv b hb e,
       ⟨v', hh3.set 0 v', hx4, hrow, hv', HN6.out, HNX.out, fun b hb => ⟨(HO.out b hb).1, Nat.lt_of_lt_of_le (HO.out b hb).2 hk4.size⟩,
        HBV.out.trans (hk4.below (fun b e => e.elim (fun e => by rw [e]; exact H6B.out.2.2.1) fun e => (own_lt HR.out e).1) HBV.out.size)⟩⟩
     have c3 := hh3.c 0 _ rfl
     have f3 := hh3.f 0 _ rfl
     have HS3 : Hid (∃ A3 n3 c3, v' = .slice A3 n3 c3) := by
      obtain ⟨A3, c3, e, _⟩ := own_slice hown'
      exact ⟨A3, _, c3, e⟩
     clear hO6 hOv hvv hh3 hk3 hk4 hv' hrow hx4 hown' hgrow hat c6 x0 x1 x2 x3 x4 x5
     obtain ⟨A3, n3, c3', rfl⟩ := HS3.out
     gi_wp2
     exact HFIN.out
    case done =>
     intro D xs O X hD hS hI hd
     subst hS
     obtain ⟨v, h6, hxx, hr, hg, n6, nx, hO, hb⟩ := hI
     have c6 := h6.c 0 _ rfl
     have HB9 := Lib.hid hb; have HR9 := Lib.hid hr
     clear hxx hg n6 nx hO hb hr h6
     have hkp : Kp (fun b => b = D) X (X.putObj D (.deferred none)) := Kp.putObj X D _ rfl
     have hr' : (X.putObj D (.deferred none)).ownsRow w.heap.size 49 6 v (sr (rsOf qs).flatten).length (pcells (sr (rsOf qs).flatten)) := own_kp HR9.out hkp fun g e h => by
      subst h
      rcases HR9.out.2 with ⟨h1, _⟩ | ⟨g', cap, cur, h1, _, hc, _⟩
      · subst h1; cases e
      · subst h1
        have e' : some g' = some g := e
        injection e' with e'
        subst e'
        rw [hd] at hc; cases hc
     rw [sr_len] at hr'
     have HR8 := Lib.hid hr'
     have HD := Lib.hid hd
     have hD' : w.heap.size ≤ D := by have := HB1.out.size; omega
     have HB8 := Lib.hid (HB9.out.trans (below_put (.deferred none) hD' HB9.out.size))
     clear hkp hr' hd hD hD'
     gi_wp2
     refine ⟨by simp, .inl ⟨D, _, rfl, run_takeDeferred HD.out, ?_⟩⟩
     exact ⟨.tuple #[v, .int .i64 0], by simp [results, Try.results14, go_sem], v, rfl, HR8.out, HB8.out⟩
    case stop =>
     intro D pre X hD hS hI hd
     exact hI.elim
theorem all_nil (w : World) : Calls Try.prog 25 #[.pointer none] w fun e w' => e = .returned (.func (.func 46) #[] #[.pointer (some ⟨w.heap.size, 0, none⟩)]) ∧ Blk w' w.heap.size [.slice none 0 0] ∧ Below w.heap.size w w' := by
 go_enter Try.func25, Try.ntmps25
 go_wp2_with (fail)
 refine (ended_nil w).mono ?_
 rintro e w1 ⟨rfl, rfl⟩
 go_wp2_with (fail)
 refine (merged_any none 0 0 _).mono ?_
 rintro e w2 ⟨rfl, hk, hb⟩
 have HK := Lib.hid hk; have HB := Lib.hid hb
 clear hk hb
 go_wp2_with (fail)
 go_ret
 exact ⟨rfl, HK.out, HB.out⟩
def NI (w : World) (bx b1 b2 : Nat) (vs : List Value) (O : Nat → Prop) (X : World) : Prop :=
 Blk X bx [.slice none 0 0] ∧ Blk X b1 vs ∧ Blk X b2 [.bool false] ∧ ¬ O bx ∧ ¬ O b1 ∧ ¬ O b2 ∧ (∀ b, O b → w.heap.size ≤ b ∧ b < X.heap.size) ∧ Below w.heap.size w X
theorem NI.step {w : World} {bx b1 b2 : Nat} {vs : List Value} {O O' : Nat → Prop} {X Y : World} (h : NI w bx b1 b2 vs O X) (q : Kp O X Y) (ho : ∀ b, O' b → b < Y.heap.size ∧ (O b ∨ X.heap.size ≤ b)) : NI w bx b1 b2 vs O' Y := by
 obtain ⟨hx, h1, h2, nx, n1, n2, hO, hb⟩ := h
 have hs := hb.size
 have no : ∀ b vs, Blk X b vs → ¬ O b → ¬ O' b := fun b vs hk hn e => by
  rcases (ho b e).2 with h | h
  · exact hn h
  · have := hk.lt; omega
 refine ⟨hx.kp q nx, h1.kp q n1, h2.kp q n2, no _ _ hx nx, no _ _ h1 n1, no _ _ h2 n2, fun b e => ⟨?_, (ho b e).1⟩, hb.trans (q.below (fun b e => (hO b e).1) hs)⟩
 rcases (ho b e).2 with h | h
 · exact (hO b h).1
 · omega
attribute [local go_sem] Oper.semAt_some
set_option maxRecDepth 100000 in
set_option maxHeartbeats 4000000 in
theorem nil_core (p : Pr) (w : World) : Calls Try.prog 7 #[.agg (pcl p).toArray] w (Gives (.bool true) w) := by
 have HPN := Lib.hid (fun W => put_nil p W)
 unfold pcl at HPN ⊢
 have H1 := Lib.hid ((box6 w 49 (.string (tx p.1)) (.int .i64 p.2.k) (.int .i64 p.2.n) (.string (tx p.2.s)) (.int .i64 p.2.x) (.int .i64 p.2.y)).old (.cells #[.bool false] 4))
 have H2 := Lib.hid (Blk.made (w.alloc (.cells #[.string (tx p.1), .int .i64 p.2.k, .int .i64 p.2.n, .string (tx p.2.s), .int .i64 p.2.x, .int .i64 p.2.y] 49)) 4 [.bool false] (World.size_alloc _ _))
 have HB := Lib.hid (box2 w (.cells #[.string (tx p.1), .int .i64 p.2.k, .int .i64 p.2.n, .string (tx p.2.s), .int .i64 p.2.x, .int .i64 p.2.y] 49) (.cells #[.bool false] 4))
 refine (callsIn_wide (n := 9)).1 ?_
 refine callsIn_of_wp_marks Try.func7 rfl trivial ?_ rfl
 simp only [Try.ntmps7, List.size_toArray, List.length_cons, List.length_nil, Nat.reduceAdd, Nat.reduceSub, Array.replicate_succ, Array.replicate_zero, List.push_toArray, List.append_toArray, List.nil_append, List.cons_append]
 generalize tx p.1 = k at *
 generalize p.2.k = vk at *
 generalize p.2.n = vn at *
 generalize tx p.2.s = vs at *
 generalize p.2.x = vx at *
 generalize p.2.y = vy at *
 gi_wp2
 generalize (w.alloc (.cells #[.string k, .int .i64 vk, .int .i64 vn, .string vs, .int .i64 vx, .int .i64 vy] 49)).alloc (.cells #[.bool false] 4) = w0 at *
 gi_wp2_with (refine ⟨trivial, ?_⟩; refine (callsIn_wide.2 (awake12_any _)).mono ?_; rintro e a1 ⟨rfl, hb⟩; replace H1 := Lib.hid (H1.out.next hb); replace H2 := Lib.hid (H2.out.next hb); replace HB := Lib.hid (Below.next HB.out hb); clear hb)
 gi_wp2_with (refine ⟨trivial, ?_⟩; refine (callsIn_wide.2 (all_nil _)).mono ?_; rintro e a2 ⟨rfl, hk, hb⟩)
 obtain ⟨b1, hb1⟩ : ∃ x, x = w.heap.size := ⟨_, rfl⟩
 obtain ⟨b2, hb2⟩ : ∃ x, x = w.heap.size + 1 := ⟨_, rfl⟩
 obtain ⟨bx, hbx⟩ : ∃ x, x = a1.heap.size := ⟨_, rfl⟩
 rw [← hb1] at H1
 rw [← hb2] at H2
 rw [← hbx] at hk
 rw [← hb2, ← hb1, ← hbx]
 have HI0 : Hid (NI w bx b1 b2 [.string k, .int .i64 vk, .int .i64 vn, .string vs, .int .i64 vx, .int .i64 vy] (fun _ => False) a2) :=
  ⟨hk, H1.out.next hb, H2.out.next hb, (fun h => h), (fun h => h), (fun h => h), (fun b h => h.elim), Below.next HB.out hb⟩
 have HLT : Hid (w.heap.size ≤ b2 ∧ b2 < a2.heap.size ∧ w.heap.size ≤ a2.heap.size) := by
  have h1 := (H2.out.next hb).lt
  have h2 := (Below.next HB.out hb).size
  show _ ∧ _ ∧ _
  omega
 clear hk hb hb1 hb2 hbx H1 H2 HB
 refine wpIn_rngA (F := Fence.wide) (M := Mm bx none 0 []) (Fx := fun pre x _ => ∃ rest, sr (rsOf []).flatten = pre ++ x :: rest) (S := fun xs => xs = sr (rsOf []).flatten) (Sp := fun pre => ∃ rest, sr (rsOf []).flatten = pre ++ rest) rfl (by decide) (gf := 46) (lb := #[.pointer (some ⟨bx, 0, none⟩)]) rfl trivial (enters_of Try.func46 (by kernel_rfl) rfl)
  (merged1_its bx none 0 [] ⟨Nat.zero_le _, Nat.le_refl _, (fun r h => absurd h (Nat.not_lt_zero _)), (fun r h => absurd h (Nat.not_lt_zero _)), (fun r h => absurd h (Nat.not_lt_zero _))⟩ 8) (fun _ => rfl)
  (fun _ O X => NI w bx b1 b2 [.string k, .int .i64 vk, .int .i64 vn, .string vs, .int .i64 vx, .int .i64 vy] O X) (fun _ _ => False)
  (fun s O O' X Y h q ho => h.step q ho) (fun s O X h b hb => (h.2.2.2.2.2.2.1 b hb).2) (fun s X Y h _ => h)
  (fun s O X h => ⟨h.1.c 0 _ rfl, fun i hi => absurd hi (Nat.not_lt_zero _)⟩) HI0.out
  (fun pre x X l o o' h _ _ => h)
  (fun x _ => { tmps := #[.agg #[.string k, .int .i64 vk, .int .i64 vn, .string vs, .int .i64 vx, .int .i64 vy], .pointer (some ⟨b1, 0, none⟩), .pointer (some ⟨b2, 0, none⟩), .pointer none, .bool true, .bool false, .pointer none, .func (.func 46) #[] #[.pointer (some ⟨bx, 0, none⟩)], .agg (pcl x).toArray, undef, undef, undef, undef, undef, undef, undef, undef, undef, undef, undef, undef, undef, undef, undef], defers := [] })
  (fun x X => X) (fun x X => Below.refl _ X) (fun pre x X h => h) ?assign ?body ?done ?stop
 case assign =>
  intro l x X K hK
  unfold enP pcl
  unfold pcl at hK
  gi_wp2
  simp
  exact hK
 case body =>
  rintro l pre x O X V hI ⟨rest, hx⟩
  have e : sr (rsOf []).flatten = [] := rfl
  rw [e] at hx
  simp at hx
 case done =>
  intro D xs O X hD hS hI hd
  obtain ⟨hx, h1, h2, nx, n1, n2, hO, hb⟩ := hI
  have x0 := h1.c 0 _ rfl; have x1 := h1.c 1 _ rfl; have x2 := h1.c 2 _ rfl; have x3 := h1.c 3 _ rfl; have x4 := h1.c 4 _ rfl; have x5 := h1.c 5 _ rfl
  have H2 := Lib.hid h2; have HB := Lib.hid hb; have HD := Lib.hid hd; have HDl := Lib.hid (Nat.le_trans HLT.out.2.2 hD)
  clear hx h1 h2 nx n1 n2 hO hb hd hD hS
  gi_wp2_with (first
   | (refine ⟨trivial, ?_⟩; refine (callsIn_wide.2 (HPN.out _)).mono ?_; rintro e y1 ⟨rfl, hb⟩; replace H2 := Lib.hid (H2.out.next hb); replace HB := Lib.hid (Below.next HB.out hb); replace HD := Lib.hid ((hb.block D (Array.getElem?_eq_some_iff.1 HD.out).1).trans HD.out); clear hb x0 x1 x2 x3 x4 x5)
   | (refine ⟨trivial, ?_⟩; refine (callsIn_wide.2 (count_nil _)).mono ?_; rintro e y2 ⟨rfl, hb⟩; replace H2 := Lib.hid (H2.out.next hb); replace HB := Lib.hid (Below.next HB.out hb); replace HD := Lib.hid ((hb.block D (Array.getElem?_eq_some_iff.1 HD.out).1).trans HD.out); clear hb)
   | (refine ⟨trivial, ?_⟩; refine (callsIn_wide.2 (runs_nil _)).mono ?_; rintro e y3 ⟨rfl, hb⟩; replace H2 := Lib.hid (H2.out.next hb); replace HB := Lib.hid (Below.next HB.out hb); replace HD := Lib.hid ((hb.block D (Array.getElem?_eq_some_iff.1 HD.out).1).trans HD.out); clear hb; have c4 := H2.out.c 0 _ rfl; have f4 := H2.out.f 0 _ rfl))
  have hne : b2 ≠ D := fun e => by
   have := HD.out; rw [← e] at this
   have h4 := c4
   unfold World.cell? at h4
   rw [this] at h4; cases h4
  have HK' : Hid ((y3.setCell ⟨b2, 0, none⟩ (.bool true)).heap[D]? = some (.deferred (some []))) := (Below.heap_setCell _ _ _ _ (fun e => hne e.symm)).trans HD.out
  have HC4 := Lib.hid ((H2.out.set 0 (.bool true)).c 0 _ rfl)
  have HBS := Lib.hid (HB.out.setCell (p := ⟨b2, 0, none⟩) HLT.out.1 (.bool true))
  refine ⟨by simp, .inl ⟨D, _, rfl, run_takeDeferred HK'.out, ?_⟩⟩
  have c4'' := cell_kept HC4.out (grownBy_putObj' _ D (.deferred none)) (fun r e => by cases e; exact ⟨_, HK'.out, rfl⟩)
  exact ⟨.bool true, by simp [results, Try.results7, go_sem, c4''], rfl, HBS.out.trans (below_put _ HDl.out HBS.out.size)⟩
 case stop =>
  intro D pre X hD hS hI hd
  exact hI.elim
theorem rl_one {l : List Pr} (h : rl l = true) {p : Pr} (hp : p ∈ l) : rl [p] = true := by
 unfold rl at h ⊢
 simp only [List.all_eq_true] at h ⊢
 intro z hz
 obtain rfl : z = p := by simpa using hz
 exact h z hp
theorem take_pd {l : List Pr} {i : Nat} (h : i < l.length) : l.take i ++ [pd l i] = l.take (i + 1) := by
 rw [List.take_succ_eq_append_getElem h, pd_at h]
set_option maxHeartbeats 2000000 in
set_option maxRecDepth 100000 in
theorem filled_any (A : Option Addr) (c : Nat) (l : List Pr) (room : Nat) (w : World) (h : Prs w A l) (hr : rl l = true) (hl : l.length ≤ 100000) (hX : Tx l) (h1 : 1 ≤ room) (h2 : room ≤ 4096) :
 Calls Try.prog 12 #[.slice A l.length c, .int .i64 room] w fun e w' => ∃ b : Nat, e = .returned (.tuple #[.pointer (some ⟨b, 0, none⟩), .bool true]) ∧ (∃ q vi vl ps, SS w' w.heap.size b room l q vi vl ps) ∧ Below w.heap.size w w' := by
 have hn := new_yes room h1 h2 w
 have HN := Lib.hid h; have HR := Lib.hid hr; have HX := Lib.hid hX
 clear h hr hX
 go_enter Try.func12, Try.ntmps12
 go_wp2_with (fail)
 refine hn.mono ?_
 rintro e w1 ⟨rfl, hs, hb⟩
 have HS := Lib.hid hs; have HB := Lib.hid hb
 obtain ⟨b, hbb⟩ : ∃ b, b = w.heap.size := ⟨_, rfl⟩
 have HS' : Hid (SS w1 w.heap.size b room (l.take 0) 0 (.slice none 0 0) (.slice none 0 0) []) := by rw [hbb]; exact hs
 clear hn hs hb HS
 go_wp2_with (fail)
 rw [← hbb]
 clear hbb
 go_loopg [8] l.length (fun kx s8 wr => ∃ (i q : Nat) (vi vl : Value) (ps : List Part), i ≤ l.length ∧ l.length - i ≤ kx ∧ s8 = .int .i64 i ∧ Hid (SS wr w.heap.size b room (l.take i) q vi vl ps) ∧ Hid (Below w.heap.size w wr))
 case atStart => exact ⟨0, 0, _, _, _, Nat.zero_le _, by omega, rfl, HS', HB⟩
 case round =>
  clear HS' HB
  obtain ⟨i, q, vi, vl, ps, hi, hkx, rfl, HS, HB⟩ := hrel
  by_cases hlt : i < l.length
  · have hltz : (i : Int) < (l.length : Int) := by omega
    obtain ⟨G, O, rfl⟩ := HN.out.shape (by omega)
    have hd := HN.out.next HB.out
    have a0 := hd.cell hlt 0 _ rfl
    have a1 := hd.cell hlt 1 _ rfl
    have a2 := hd.cell hlt 2 _ rfl
    have a3 := hd.cell hlt 3 _ rfl
    have a4 := hd.cell hlt 4 _ rfl
    have a5 := hd.cell hlt 5 _ rfl
    rw [Nat.add_zero] at a0
    have hx' : Tx (l.take i ++ [pd l i]) := by rw [take_pd hlt]; exact fun z hz => HX.out z (List.mem_of_mem_take hz)
    have hput := put_yes (pd l i) wr HS.out (rl_one HR.out (pd_mem hlt)) (by rw [List.length_take]; omega) h1 h2 hx' HB.out.size
    unfold PutS at hput
    rw [take_pd hlt] at hput
    unfold pcl at hput
    have hold := Lib.hid (fun c e => (HS.out.old c e).1)
    clear hx' hd
    generalize pd l i = p at *
    go_wp2_with (fail)
    refine hput.mono ?_
    rintro e w2 ⟨rfl, q', vi', vl', ps', hs', hk', _⟩
    have HB2 := Lib.hid (HB.out.trans (hk'.below hold.out HB.out.size))
    have HS2 := Lib.hid hs'
    clear hput hs' hk' a0 a1 a2 a3 a4 a5 hold
    go_wp2_with (fail)
    go_roundg (l.length - (i + 1))
    case measure => omega
    case rel => exact ⟨i + 1, q', vi', vl', ps', by omega, Nat.le_refl _, by go_num, HS2, HB2⟩
  · obtain rfl : i = l.length := by omega
    have hltz : ¬ (l.length : Int) < (l.length : Int) := by omega
    go_wp2_with (fail)
    go_ret2
    exact ⟨b, rfl, ⟨q, vi, vl, ps, by have := HS.out; rwa [List.take_length] at this⟩, HB.out⟩
structure RF (room : Nat) (l : List Pr) (rs : List (List Pr)) : Prop where
 od : ∀ r ∈ rs, Od r
 pos : ∀ r ∈ rs, 0 < r.length ∧ r.length ≤ room
 full : ∀ i r, rs[i]? = some r → i + 1 < rs.length → r.length = room
 all : rs.flatten.length = l.length
 ky : ∀ k, ky k rs.flatten = ky k l
theorem chunks (room : Nat) (l : List Pr) : ∀ q, q * room ≤ l.length → ((List.range q).map (ch room l)).flatten.length = q * room ∧ ∀ k, ky k ((List.range q).map (ch room l)).flatten = ky k (l.take (q * room)) := by
 intro q
 induction q with
 | zero => intro _; exact ⟨by simp, fun k => by simp⟩
 | succ q ih =>
   intro h
   rw [Nat.add_mul, Nat.one_mul] at h ⊢
   obtain ⟨h1, h2⟩ := ih (by omega)
   rw [List.range_succ, List.map_append, List.flatten_append]
   simp only [List.map_cons, List.map_nil, List.flatten_cons, List.flatten_nil, List.append_nil]
   refine ⟨?_, fun k => ?_⟩
   · rw [List.length_append, h1]
     unfold ch
     rw [sr_len, List.length_take, List.length_drop]; omega
   · rw [ky_append, h2 k]
     unfold ch
     rw [sr_ky, ← ky_append]
     congr 1
     rw [List.take_add]
theorem rsE_facts {room q : Nat} {l : List Pr} (h1 : q * room ≤ l.length) (h2 : l.length < q * room + room) (hr : 1 ≤ room) : RF room l (rsE room l q) := by
 have hch : ∀ i, i < q → (ch room l i).length = room := fun i hi => by
  unfold ch
  rw [sr_len, List.length_take, List.length_drop]
  have : (i + 1) * room ≤ q * room := Nat.mul_le_mul_right _ (by omega)
  rw [Nat.add_mul] at this
  omega
 have hlast : (l.drop (q * room)).length = l.length - q * room := List.length_drop ..
 obtain ⟨c1, c2⟩ := chunks room l q h1
 unfold rsE
 by_cases e : l.length = q * room
 · rw [if_pos e, List.append_nil]
   refine ⟨fun r hr => ?_, fun r hr' => ?_, fun i r hi hl => ?_, by rw [c1, e], fun k => by rw [c2, ← e, List.take_length]⟩
   · obtain ⟨i, _, rfl⟩ := List.mem_map.1 hr; exact sr_od _
   · obtain ⟨i, hi, rfl⟩ := List.mem_map.1 hr'
     have := hch i (by simpa using hi)
     omega
   · rw [List.getElem?_map] at hi
     simp only [List.length_map, List.length_range] at hl
     rw [List.getElem?_range (by omega)] at hi
     obtain rfl : ch room l i = r := by simpa using hi
     exact hch i (by omega)
 · rw [if_neg e]
   refine ⟨fun r hr => ?_, fun r hr' => ?_, fun i r hi hl => ?_, ?_, fun k => ?_⟩
   · rcases List.mem_append.1 hr with hr | hr
     · obtain ⟨i, _, rfl⟩ := List.mem_map.1 hr; exact sr_od _
     · obtain rfl : r = sr (l.drop (q * room)) := by simpa using hr
       exact sr_od _
   · rcases List.mem_append.1 hr' with hr' | hr'
     · obtain ⟨i, hi, rfl⟩ := List.mem_map.1 hr'
       have := hch i (by simpa using hi)
       omega
     · obtain rfl : r = sr (l.drop (q * room)) := by simpa using hr'
       rw [sr_len, hlast]; omega
   · simp only [List.length_append, List.length_map, List.length_range, List.length_cons, List.length_nil] at hl
     rw [List.getElem?_append_left (by simp; omega), List.getElem?_map, List.getElem?_range (by omega)] at hi
     obtain rfl : ch room l i = r := by simpa using hi
     exact hch i (by omega)
   · rw [List.flatten_append, List.length_append, c1]
     simp only [List.flatten_cons, List.flatten_nil, List.append_nil]
     rw [sr_len, hlast]; omega
   · rw [List.flatten_append, ky_append, c2]
     simp only [List.flatten_cons, List.flatten_nil, List.append_nil]
     rw [sr_ky, ← ky_append, List.take_append_drop]
def cnt (rs : List (List Pr)) (i : Nat) : Nat := ((rs.take i).flatten).length
theorem cnt_succ {rs : List (List Pr)} {i : Nat} {r : List Pr} (h : rs[i]? = some r) : cnt rs (i + 1) = cnt rs i + r.length := by
 unfold cnt
 obtain ⟨hi, e⟩ := List.getElem?_eq_some_iff.1 h
 rw [List.take_succ_eq_append_getElem hi, List.flatten_append, List.length_append, e]
 simp
theorem cnt_le (rs : List (List Pr)) (i : Nat) : cnt rs i ≤ rs.flatten.length := by
 unfold cnt
 conv => rhs; rw [← List.take_append_drop i rs]
 rw [List.flatten_append, List.length_append]; omega
set_option maxHeartbeats 4000000 in
set_option maxRecDepth 100000 in
theorem runs_core (A : Option Addr) (c : Nat) (l : List Pr) (r : Nat) (w : World) (h : PIn w (A, c, l)) (hr : r ≤ 255) :
 Calls Try.prog 8 #[.slice A l.length c, .int .u8 r] w (Gives (.bool true) w) := by
 have HI := Lib.hid h
 clear h
 go_enter Try.func8, Try.ntmps8
 go_wp2_with (fail)
 refine (awake12_any w).mono ?_
 rintro e a1 ⟨rfl, hb⟩
 have HB1 := Lib.hid hb
 clear hb
 have hsm := small_any A c l a1 (HI.out.next HB1.out).1
 go_wp2_with (fail)
 refine hsm.mono ?_
 rintro e a2 ⟨q0, rfl, hb, hq⟩
 have HB2 := Lib.hid (Below.next HB1.out hb)
 clear hb hsm HB1
 rcases hq with rfl | ⟨rfl, hl, hx⟩
 · go_wp2_with (fail)
   refine (awake12_any a2).mono ?_
   rintro e a3 ⟨rfl, hb⟩
   have HB3 := Lib.hid (Below.next HB2.out hb)
   clear hb
   go_wp2_with (fail)
   go_ret
   exact ⟨rfl, HB3.out⟩
 have HX : Hid (Tx l) := fun p hp => by have := hx p hp; omega
 clear hx
 have hri := pright_any A c l a2 (HI.out.next HB2.out).1 (by omega)
 cases hrl : rl l with
 | false =>
   rw [hrl] at hri
   go_wp2_with (fail)
   refine hri.mono ?_
   rintro e a3 ⟨rfl, hb⟩
   have HB3 := Lib.hid (Below.next HB2.out hb)
   clear hb hri
   go_wp2_with (fail)
   refine (awake12_any a3).mono ?_
   rintro e a4 ⟨rfl, hb⟩
   have HB4 := Lib.hid (Below.next HB3.out hb)
   clear hb
   go_wp2_with (fail)
   go_ret
   exact ⟨rfl, HB4.out⟩
 | true =>
   rw [hrl] at hri
   have HRL := Lib.hid hrl
   clear hrl
   go_wp2_with (fail)
   refine hri.mono ?_
   rintro e a3 ⟨rfl, hb⟩
   have HB3 := Lib.hid (Below.next HB2.out hb)
   clear hb hri HB2
   have hfl := filled_any A c l (1 + r) a3 (HI.out.next HB3.out).1 HRL.out (by omega) HX.out (by omega) (by omega)
   have ek : ((1 + r : Nat) : Int) = 1 + (r : Int) := by omega
   rw [ek] at hfl
   go_wp2_with (fail)
   refine hfl.mono ?_
   rintro e a4 ⟨b, rfl, ⟨q, vi, vl, ps, hs⟩, hb⟩
   have HS := Lib.hid hs
   have HB4 := Lib.hid (Below.next HB3.out hb)
   have hru := runs_any a4 hs (by omega) (by omega) HX.out
   have HF := Lib.hid (rsE_facts hs.q1 hs.q2 (by omega))
   clear hfl hs hb HB3
   go_wp2_with (fail)
   refine hru.mono ?_
   rintro e a5 ⟨v, qs, rfl, hrow, hall, hrs, hb⟩
   have HB5 := Lib.hid (Below.next HB4.out hb)
   have HS5 := Lib.hid (HS.out.next hb)
   have HROW := Lib.hid hrow; have HALL := Lib.hid hall
   have HRS := Lib.hid hrs
   obtain ⟨m, hm⟩ : ∃ m, m = qs.length := ⟨_, rfl⟩
   have HM := Lib.hid hm
   obtain ⟨Av, cv, ev, _, hvn⟩ := own_slice hrow
   rw [← hm] at ev
   subst ev
   clear hru hrow hall hrs hb hm HB4
   generalize rsE (1 + r) l q = rs at *
   have hml : m ≤ 100 := by
    have h1 := HF.out.all
    have h2 : rs.length = m := by rw [← HRS.out, List.length_map]; exact HM.out.symm
    have h3 : ∀ t : List (List Pr), (∀ r ∈ t, 0 < r.length) → t.length ≤ t.flatten.length := fun t => by
     induction t with
     | nil => intro _; simp
     | cons x t ih =>
       intro h
       have := ih fun r hr => h r (List.mem_cons_of_mem _ hr)
       have := h x (List.mem_cons_self ..)
       simp only [List.length_cons, List.flatten_cons, List.length_append]; omega
    have := h3 rs fun r hr => (HF.out.pos r hr).1
    omega
   have HCN : Hid (∀ i, cnt rs i ≤ 100) := fun i => by have := cnt_le rs i; have := HF.out.all; omega
   have HRL2 : Hid (rs.length = m) := by rw [← HRS.out, List.length_map]; exact HM.out.symm
   go_wp2_with (fail)
   go_loopg [9, 10] m (fun kx s9 s10 wr => ∃ i : Nat, i ≤ m ∧ m - i ≤ kx ∧ s9 = .int .i64 (cnt rs i : Nat) ∧ s10 = .int .i64 i ∧ Hid (Below a5.heap.size a5 wr))
   case atStart => exact ⟨0, Nat.zero_le _, by omega, rfl, rfl, Below.refl _ _⟩
   case round =>
    obtain ⟨i, hi, hkx, rfl, rfl, HW⟩ := hrel
    by_cases hlt : i < m
    · have hltz : (i : Int) < (m : Int) := by omega
      have hil : i < qs.length := by rw [← HM.out]; exact hlt
      obtain ⟨g, c', e⟩ : ∃ g c', Value.slice Av m cv = .slice (some ⟨g, 0, none⟩) m c' := by
       rcases HROW.out.2 with ⟨_, e0⟩ | ⟨g, cap, cur, e, _⟩
       · rw [← HM.out] at e0; omega
       · rw [← HM.out] at e; exact ⟨g, cap, e⟩
      injection e with e1 e2 e3
      subst e1
      subst e3
      clear e2
      have hrow0 := HROW.out
      rw [← HM.out] at hrow0
      have HCE : Hid (∀ X, Below a5.heap.size a5 X → X.cell? ⟨g, i, none⟩ = some (pv (qd qs i))) := fun X hX => by
       rw [(own_keep hrow0 hX).cellAt i (by omega)]
       unfold qd
       rw [List.getElem?_map, List.getElem?_eq_getElem hil]; rfl
      have hri : rs[i]? = some (qd qs i).2.2 := by
       rw [← HRS.out, List.getElem?_map]
       unfold qd
       rw [List.getElem?_eq_getElem hil]; rfl
      have hmem := List.mem_of_getElem? hri
      have hod := HF.out.od _ hmem
      have hpos := HF.out.pos _ hmem
      have hfull := HF.out.full i _ hri
      have hpr := (HALL.out _ (qd_mem hil)).1.prs.next HW.out
      have hcs := cnt_succ hri
      have hc1 := HCN.out i
      have hc2 := HCN.out (i + 1)
      have hord := ordered_any (qd qs i).1 (qd qs i).2.1 (qd qs i).2.2 wr hpr (by omega)
      have k0 := HCE.out wr HW.out
      unfold pv at k0 HCE
      clear hrow0 hri hmem hpr
      obtain ⟨xA, hxA⟩ : ∃ x, x = (qd qs i).1 := ⟨_, rfl⟩
      obtain ⟨xc, hxc⟩ : ∃ x, x = (qd qs i).2.1 := ⟨_, rfl⟩
      obtain ⟨xn, hxn⟩ : ∃ x, x = (qd qs i).2.2.length := ⟨_, rfl⟩
      rw [← hxA, ← hxc, ← hxn] at k0 hord HCE
      rw [← hxn] at hpos hfull hcs
      rw [HRL2.out] at hfull
      clear hxA hxc hxn
      have HOD := Lib.hid hod
      have HCS := Lib.hid hcs
      obtain ⟨cn, hcn⟩ : ∃ x, x = cnt rs i := ⟨_, rfl⟩
      have HCC := Lib.hid hcn
      rw [← hcn] at hcs hc1 ⊢
      clear hod hcn
      have hn0 : ((xn : Int) == 0) = false := by simp; omega
      have hgt : decide (1 + (r : Int) < (xn : Int)) = false := decide_eq_false (by omega)
      go_wp2_with (fail)
      refine hord.mono ?_
      rintro e w2 ⟨bo, rfl, hbo, hb⟩
      obtain rfl := hbo.2 HOD.out
      have HW2 := Lib.hid (Below.next HW.out hb)
      have k1 := HCE.out w2 HW2.out
      clear hord hbo hb k0
      by_cases hlast : i + 1 < m
      · have hl1 : decide ((i : Int) < (m : Int) - 1) = true := decide_eq_true (by omega)
        have hne : ((xn : Int) != 1 + (r : Int)) = false := by have := hfull hlast; simp; omega
        clear hfull
        go_wp2_with (fail)
        go_roundg (m - (i + 1))
        case measure => omega
        case rel => exact ⟨i + 1, by omega, Nat.le_refl _, by rw [HCS.out, ← HCC.out]; go_num, by go_num, HW2⟩
      · have hl1 : decide ((i : Int) < (m : Int) - 1) = false := decide_eq_false (by omega)
        clear hfull
        go_wp2_with (fail)
        go_roundg (m - (i + 1))
        case measure => omega
        case rel => exact ⟨i + 1, by omega, Nat.le_refl _, by rw [HCS.out, ← HCC.out]; go_num, by go_num, HW2⟩
    · obtain rfl : i = m := by omega
      have hltz : ¬ (i : Int) < (i : Int) := by omega
      have hcnt : cnt rs i = l.length := by
       unfold cnt
       rw [List.take_of_length_le (by rw [HRL2.out]; exact Nat.le_refl _)]
       exact HF.out.all
      have hco := count_any wr (HS5.out.next HW.out) (by omega) (by omega)
      rw [hcnt]
      have heq : ((l.length : Int) == (l.length : Int)) = true := by simp
      have HB9 := Lib.hid (Below.next HB5.out HW.out)
      go_wp2_with (fail)
      refine hco.mono ?_
      rintro e w2 ⟨rfl, hb⟩
      have HB10 := Lib.hid (Below.next HB9.out hb)
      clear hco hb
      go_wp2_with (fail)
      go_ret
      exact ⟨rfl, HB10.out⟩
theorem lln_row {w : World} {base c n : Nat} {A : Option Addr} {qs : List Part} (h : w.ownsRow base 22 1 (.slice A n c) n (qs.map pv)) (hn : n = qs.length) (hp : ∀ x ∈ qs, PIn w x) : LlN w A qs := fun i hi => by
 rcases h.2 with ⟨_, e0⟩ | ⟨g, cap, cur, e, _⟩
 · omega
 · injection e with e1 e2 e3
   subst e1
   refine ⟨g, 0, rfl, ?_, hp _ (qd_mem hi)⟩
   rw [Nat.zero_add, h.cellAt i (by omega)]
   unfold qd
   rw [List.getElem?_map, List.getElem?_eq_getElem hi]; rfl
theorem merge_runs {base room : Nat} {v : Value} {qs : List Part} {rs : List (List Pr)} {l : List Pr} (w : World) (hrow : w.ownsRow base 22 1 v qs.length (qs.map pv))
 (hall : ∀ x ∈ qs, OwnL base w x.1 x.2.2 ∧ (x.1 = none → x.2.2 = [] ∧ x.2.1 = 0) ∧ x.2.2.length ≤ x.2.1) (hrs : qs.map (·.2.2) = rs) (hF : RF room l rs) (hX : Tx l) (hl : l.length ≤ 100000) :
 Calls Try.prog 14 #[v] w fun e w' => ∃ v', e = .returned (.tuple #[v', .int .i64 0]) ∧ w'.ownsRow w.heap.size 49 6 v' l.length (pcells (sr l)) ∧ Below w.heap.size w w' := by
 obtain ⟨A, c, rfl, hc, _⟩ := own_slice hrow
 have hlen : rs.length = qs.length := by rw [← hrs, List.length_map]
 have hsum : ∀ t : List (List Pr), (∀ r ∈ t, 0 < r.length) → t.length ≤ t.flatten.length := fun t => by
  induction t with
  | nil => intro _; simp
  | cons x t ih =>
    intro h
    have := ih fun r hr => h r (List.mem_cons_of_mem _ hr)
    have := h x (List.mem_cons_self ..)
    simp only [List.length_cons, List.flatten_cons, List.length_append]; omega
 have hk := hsum rs fun r hr => (hF.pos r hr).1
 have hmemr : ∀ r, r < qs.length → (qd qs r).2.2 ∈ rs := fun r hr => by rw [← hrs]; exact List.mem_map.2 ⟨_, qd_mem hr, rfl⟩
 have hsub : ∀ z, z ∈ rs.flatten → z ∈ l := fun z hz => by
  have e : ∀ m : List Pr, z ∈ m ↔ z ∈ ky z.1 m := fun m => by simp [ky]
  rw [e, ← hF.ky, ← e]; exact hz
 have hflat : ∀ r ∈ rs, r.length ≤ rs.flatten.length := fun r hr => by
  obtain ⟨s, t, rfl⟩ := List.append_of_mem hr
  rw [List.flatten_append, List.length_append, List.flatten_cons, List.length_append]; omega
 have hall' := hF.all
 have hRk : Rk qs c := ⟨by omega, hc, fun r hr => ⟨by have := hflat _ (hmemr r hr); omega, (hall _ (qd_mem hr)).2.2⟩, fun r hr z hz => hX z (hsub z (List.mem_flatten.2 ⟨_, hmemr r hr, hz⟩)), fun r hr => hF.od _ (hmemr r hr)⟩
 have ers : rsOf qs = rs := hrs
 have hm := merge_yes A c qs w (lln_row hrow rfl fun x hx => ⟨(hall x hx).1.prs, (hall x hx).2.1⟩) hRk (by rw [ers]; omega)
 have esr : sr rs.flatten = sr l := sr_uniq _ _ (sr_od _) fun k => by rw [sr_ky, hF.ky]
 rw [ers, esr, hF.all] at hm
 exact hm
set_option maxHeartbeats 4000000 in
set_option maxRecDepth 100000 in
theorem room_core (A : Option Addr) (c : Nat) (l : List Pr) (ra rb : Nat) (w : World) (h : PIn w (A, c, l)) (ha : ra ≤ 255) (hb' : rb ≤ 255) :
 Calls Try.prog 3 #[.slice A l.length c, .int .u8 ra, .int .u8 rb] w (Gives (.bool true) w) := by
 have HI := Lib.hid h
 clear h
 go_enter Try.func3, Try.ntmps3
 go_wp2_with (fail)
 refine (awake12_any w).mono ?_
 rintro e a1 ⟨rfl, hb⟩
 have HB1 := Lib.hid hb
 clear hb
 have hsm := small_any A c l a1 (HI.out.next HB1.out).1
 go_wp2_with (fail)
 refine hsm.mono ?_
 rintro e a2 ⟨q0, rfl, hb, hq⟩
 have HB2 := Lib.hid (Below.next HB1.out hb)
 clear hb hsm HB1
 rcases hq with rfl | ⟨rfl, hl, hx⟩
 · go_wp2_with (fail)
   refine (awake12_any a2).mono ?_
   rintro e a3 ⟨rfl, hb⟩
   have HB3 := Lib.hid (Below.next HB2.out hb)
   clear hb
   go_wp2_with (fail)
   go_ret
   exact ⟨rfl, HB3.out⟩
 have HX : Hid (Tx l) := fun p hp => by have := hx p hp; omega
 clear hx
 have hri := pright_any A c l a2 (HI.out.next HB2.out).1 (by omega)
 cases hrl : rl l with
 | false =>
   rw [hrl] at hri
   go_wp2_with (fail)
   refine hri.mono ?_
   rintro e a3 ⟨rfl, hb⟩
   have HB3 := Lib.hid (Below.next HB2.out hb)
   clear hb hri
   go_wp2_with (fail)
   refine (awake12_any a3).mono ?_
   rintro e a4 ⟨rfl, hb⟩
   have HB4 := Lib.hid (Below.next HB3.out hb)
   clear hb
   go_wp2_with (fail)
   go_ret
   exact ⟨rfl, HB4.out⟩
 | true =>
   rw [hrl] at hri
   have HRL := Lib.hid hrl
   clear hrl
   go_wp2_with (fail)
   refine hri.mono ?_
   rintro e a3 ⟨rfl, hb⟩
   have HB3 := Lib.hid (Below.next HB2.out hb)
   clear hb hri HB2
   have hfl := filled_any A c l (1 + ra) a3 (HI.out.next HB3.out).1 HRL.out (by omega) HX.out (by omega) (by omega)
   rw [show ((1 + ra : Nat) : Int) = 1 + (ra : Int) by omega] at hfl
   go_wp2_with (fail)
   refine hfl.mono ?_
   rintro e a4 ⟨b, rfl, ⟨q, vi, vl, ps, hs⟩, hb⟩
   have HS := Lib.hid hs
   have HB4 := Lib.hid (Below.next HB3.out hb)
   have HF := Lib.hid (rsE_facts hs.q1 hs.q2 (by omega))
   have hfl2 := filled_any A c l (1 + rb) a4 (HI.out.next HB4.out).1 HRL.out (by omega) HX.out (by omega) (by omega)
   rw [show ((1 + rb : Nat) : Int) = 1 + (rb : Int) by omega] at hfl2
   clear hfl hs hb HB3
   go_wp2_with (fail)
   refine hfl2.mono ?_
   rintro e a5 ⟨b', rfl, ⟨q', vi', vl', ps', hs'⟩, hb⟩
   have HT := Lib.hid hs'
   have HS5 := Lib.hid (HS.out.next hb)
   have HB5 := Lib.hid (Below.next HB4.out hb)
   have HF' := Lib.hid (rsE_facts hs'.q1 hs'.q2 (by omega))
   have hco := count_any a5 HS5.out (by omega) (by omega)
   have heq : ((l.length : Int) != (l.length : Int)) = false := by simp
   clear hfl2 hs' hb HB4 HS
   go_wp2_with (fail)
   refine hco.mono ?_
   rintro e a6 ⟨rfl, hb⟩
   have HS6 := Lib.hid (HS5.out.next hb)
   have HT6 := Lib.hid (HT.out.next hb)
   have HB6 := Lib.hid (Below.next HB5.out hb)
   have hru := runs_any a6 HS6.out (by omega) (by omega) HX.out
   clear hco hb HB5 HS5 HT
   go_wp2_with (fail)
   refine hru.mono ?_
   rintro e a7 ⟨v, qs, rfl, hrow, hall, hrs, hb⟩
   have HB7 := Lib.hid (Below.next HB6.out hb)
   have HT7 := Lib.hid (HT6.out.next hb)
   have hme := merge_runs a7 hrow hall hrs HF.out HX.out (by omega)
   clear hru hrow hall hrs hb HB6 HT6 HS6 HF
   go_wp2_with (fail)
   refine hme.mono ?_
   rintro e a8 ⟨vx, rfl, hx, hb⟩
   have HB8 := Lib.hid (Below.next HB7.out hb)
   have HT8 := Lib.hid (HT7.out.next hb)
   have HVX := Lib.hid hx
   have hru := runs_any a8 HT8.out (by omega) (by omega) HX.out
   clear hme hx hb HB7 HT7
   go_wp2_with (fail)
   refine hru.mono ?_
   rintro e a9 ⟨v2, qs2, rfl, hrow, hall, hrs, hb⟩
   have HB9 := Lib.hid (Below.next HB8.out hb)
   have HVX9 := Lib.hid (own_keep HVX.out hb)
   have hme := merge_runs a9 hrow hall hrs HF'.out HX.out (by omega)
   clear hru hrow hall hrs hb HB8 HT8 HVX HF'
   go_wp2_with (fail)
   refine hme.mono ?_
   rintro e a10 ⟨vy, rfl, hy, hb⟩
   have HB10 := Lib.hid (Below.next HB9.out hb)
   have HVX10 := Lib.hid (own_keep HVX9.out hb)
   have HVY10 := Lib.hid hy
   have hso := sort_any A c l a10 (HI.out.next HB10.out) (by omega) HX.out
   obtain ⟨Ax, cx, ex, _, _⟩ := own_slice HVX10.out
   obtain ⟨Ay, cy, ey, _, _⟩ := own_slice HVY10.out
   subst ex; subst ey
   clear hme hy hb HB9 HVX9
   go_wp2_with (fail)
   refine hso.mono ?_
   rintro e a11 ⟨As, cs, rfl, ho, _, _, hb⟩
   have HB11 := Lib.hid (Below.next HB10.out hb)
   have hpx : Prs a11 Ax (sr l) := prs_own (own_keep HVX10.out hb) (sr_len l).symm
   have hpy : Prs a11 Ay (sr l) := prs_own (own_keep HVY10.out hb) (sr_len l).symm
   have hsp := same_pairs (sr l) Ax As cx cs a11 hpx ho.prs (by rw [sr_len]; omega)
   rw [sr_len] at hsp ⊢
   have HPX := Lib.hid hpx; have HPY := Lib.hid hpy
   clear hso ho hb HB10 hpx hpy HVX10 HVY10
   go_wp2_with (fail)
   refine hsp.mono ?_
   rintro e a12 ⟨rfl, hb⟩
   have HB12 := Lib.hid (Below.next HB11.out hb)
   have hsp2 := same_pairs (sr l) Ax Ay cx cy a12 (HPX.out.next hb) (HPY.out.next hb) (by rw [sr_len]; omega)
   rw [sr_len] at hsp2
   clear hsp hb HB11 HPX HPY
   go_wp2_with (fail)
   refine hsp2.mono ?_
   rintro e a13 ⟨rfl, hb⟩
   have HB13 := Lib.hid (Below.next HB12.out hb)
   clear hsp2 hb HB12
   go_wp2_with (fail)
   go_ret
   exact ⟨rfl, HB13.out⟩
end Go.Proofs.Ytkbhnphkopgccaa.So

/-
  A text of this claim: PrOwn.
-/
import Derived.Test.YtamhfjlffacakaaQ3
import Derived.Test.YtamhfjlffacakaaQ1
import Derived.Deep.Cut
import Derived.Deep.CutRange
namespace Go.Proofs.Ytamhfjlffacakaa.Pr
open Go.ChangeShapes Go.WideShapes Go.ChangeAt Go.RowKit Go.Sort Go.Proofs Ov Va St
theorem box5 (w : World) (t : TypeId) (x0 x1 x2 x3 x4 : Value) : Blk (w.alloc (.cells #[x0, x1, x2, x3, x4] t)) w.heap.size [x0, x1, x2, x3, x4] := Blk.made w t [x0, x1, x2, x3, x4] rfl
theorem box5' (w : World) (o : Obj) (t : TypeId) (x0 x1 x2 x3 x4 : Value) : Blk ((w.alloc o).alloc (.cells #[x0, x1, x2, x3, x4] t)) (w.heap.size + 1) [x0, x1, x2, x3, x4] := Blk.made _ t [x0, x1, x2, x3, x4] (World.size_alloc _ _)
theorem box6 (w : World) (t : TypeId) (x0 x1 x2 x3 x4 x5 : Value) : Blk (w.alloc (.cells #[x0, x1, x2, x3, x4, x5] t)) w.heap.size [x0, x1, x2, x3, x4, x5] := Blk.made w t [x0, x1, x2, x3, x4, x5] rfl
theorem below_obj {w0 w : World} (h : Below w0.heap.size w0 w) (o : Obj) : Below w0.heap.size w0 (w.alloc o) := h.alloc h.size o
theorem five {w : World} {b : Nat} {x0 x1 x2 x3 x4 : Value} (h : Blk w b [x0, x1, x2, x3, x4]) : w.cell? ⟨b, 0, none⟩ = some x0 ∧ w.cell? ⟨b, 1, none⟩ = some x1 ∧ w.cell? ⟨b, 2, none⟩ = some x2 ∧ w.cell? ⟨b, 3, none⟩ = some x3 ∧ w.cell? ⟨b, 4, none⟩ = some x4 :=
 ⟨h.c 0 _ rfl, h.c 1 _ rfl, h.c 2 _ rfl, h.c 3 _ rfl, h.c 4 _ rfl⟩
theorem five_f {w : World} {b : Nat} {x0 x1 x2 x3 x4 : Value} (h : Blk w b [x0, x1, x2, x3, x4]) : w.frozen? ⟨b, 0, none⟩ = false ∧ w.frozen? ⟨b, 1, none⟩ = false ∧ w.frozen? ⟨b, 2, none⟩ = false ∧ w.frozen? ⟨b, 3, none⟩ = false ∧ w.frozen? ⟨b, 4, none⟩ = false :=
 ⟨h.f 0 _ rfl, h.f 1 _ rfl, h.f 2 _ rfl, h.f 3 _ rfl, h.f 4 _ rfl⟩
theorem fin5 {P : World → Prop} {lo : Nat} {W w : World} {b : Nat} {x0 x1 x2 x3 x4 : Value} (h : Blk w b [x0, x1, x2, x3, x4]) (hb : Below lo W w) (hlo : lo ≤ b) (a0 a1 a2 a3 a4 : Value)
 (k : ∀ w', Blk w' b [a0, a1, a2, a3, a4] → Below lo W w' → P w') : P (((((w.setCell ⟨b, 0, none⟩ a0).setCell ⟨b, 1, none⟩ a1).setCell ⟨b, 2, none⟩ a2).setCell ⟨b, 3, none⟩ a3).setCell ⟨b, 4, none⟩ a4) :=
 k _ (((((h.set 0 a0).set 1 a1).set 2 a2).set 3 a3).set 4 a4) (((((hb.setCell hlo _).setCell hlo _).setCell hlo _).setCell hlo _).setCell hlo _)
theorem setCell_self {w : World} {g o : Nat} {v : Value} (h : w.cell? ⟨g, o, none⟩ = some v) : w.setCell ⟨g, o, none⟩ v = w := by
 rw [setCell_eq]
 refine mapBlock_id _ _ _ fun c e fr hh => ?_
 have h' : c[o]? = some v := by simpa [World.cell?, hh] using h
 apply Array.ext_getElem?
 intro k
 rw [Array.getElem?_setIfInBounds]
 split
 · rename_i hk; subst hk
   split
   · exact h'.symm
   · rename_i hlt; rw [Array.getElem?_eq_none (by omega)]
 · rfl
theorem self6 {w : World} {g o : Nat} {x0 x1 x2 x3 x4 x5 : Value} (h0 : w.cell? ⟨g, o, none⟩ = some x0) (h1 : w.cell? ⟨g, o + 1, none⟩ = some x1) (h2 : w.cell? ⟨g, o + 2, none⟩ = some x2) (h3 : w.cell? ⟨g, o + 3, none⟩ = some x3) (h4 : w.cell? ⟨g, o + 4, none⟩ = some x4) (h5 : w.cell? ⟨g, o + 5, none⟩ = some x5) :
 ((((((w.setCell ⟨g, o, none⟩ x0).setCell ⟨g, o + 1, none⟩ x1).setCell ⟨g, o + 2, none⟩ x2).setCell ⟨g, o + 3, none⟩ x3).setCell ⟨g, o + 4, none⟩ x4).setCell ⟨g, o + 5, none⟩ x5) = w := by
 rw [setCell_self h0, setCell_self h1, setCell_self h2, setCell_self h3, setCell_self h4, setCell_self h5]
set_option maxHeartbeats 1000000 in
set_option maxRecDepth 100000 in
theorem ownValue_any (k n x y : Int) (s : ByteArray) (w : World) (hs : s.size ≤ 281474976710656) :
 Calls Try.prog 57 #[.agg #[.int .i64 k, .int .i64 n, .string s, .int .i64 x, .int .i64 y]] w (Gives (.agg #[.int .i64 k, .int .i64 n, .string s, .int .i64 x, .int .i64 y]) w) := by
 have H1 := Lib.hid ((box5 w 33 (.int .i64 k) (.int .i64 n) (.string s) (.int .i64 x) (.int .i64 y)).old (.cells #[.int .i64 0, .int .i64 0, .string ⟨#[]⟩, .int .i64 0, .int .i64 0] 33))
 have H2 := Lib.hid (box5' w (.cells #[.int .i64 k, .int .i64 n, .string s, .int .i64 x, .int .i64 y] 33) 33 (.int .i64 0) (.int .i64 0) (.string ⟨#[]⟩) (.int .i64 0) (.int .i64 0))
 have HB := Lib.hid (below_obj (box1 w (.cells #[.int .i64 k, .int .i64 n, .string s, .int .i64 x, .int .i64 y] 33)) (.cells #[.int .i64 0, .int .i64 0, .string ⟨#[]⟩, .int .i64 0, .int .i64 0] 33))
 go_enter Try.func57, Try.ntmps57
 go_wp2_with (fail)
 generalize (w.alloc (.cells #[.int .i64 k, .int .i64 n, .string s, .int .i64 x, .int .i64 y] 33)).alloc (.cells #[.int .i64 0, .int .i64 0, .string ⟨#[]⟩, .int .i64 0, .int .i64 0] 33) = v0 at *
 refine (clone_any s _ hs).mono ?_
 rintro e a1 ⟨rfl, hb⟩
 replace H1 := Lib.hid (H1.out.next hb)
 replace H2 := Lib.hid (H2.out.next hb)
 replace HB := Lib.hid (Below.next HB.out hb); clear hb
 obtain ⟨c0, c1, c2, c3, c4⟩ := five H1.out
 obtain ⟨f0, f1, f2, f3, f4⟩ := five_f H1.out
 obtain ⟨d0, d1, d2, d3, d4⟩ := five H2.out
 obtain ⟨g0, g1, g2, g3, g4⟩ := five_f H2.out
 have hse : a1.setCell ⟨w.heap.size, 2, none⟩ (.string s) = a1 := setCell_self c2
 have H2' := H2.out
 have HB' := HB.out
 clear H2 HB
 go_wp2_with (fail)
 refine fin5 (P := bodyPost _ _ _ _ _) H2' HB' (by omega) _ _ _ _ _ fun w4 hx hy => ?_
 obtain ⟨c0, c1, c2, c3, c4⟩ := five hx
 exact bodyPost_ret (v := .agg #[.int .i64 k, .int .i64 n, .string s, .int .i64 x, .int .i64 y]) (by simp [results, Try.results57, go_sem, c0, c1, c2, c3, c4]) rfl ⟨rfl, hy⟩
theorem ins_nil (v : Value) (hv : ∃ g cb, v = .func (.func g) #[] cb) (w : World) : Calls Try.prog 86 #[.slice none 0 0, .int .i64 0, .int .i64 0, v] w fun e w' => e = .returned (.tuple #[]) ∧ w' = w := by
 obtain ⟨g, cb, rfl⟩ := hv
 go_enter Try.func86, Try.ntmps86
 go_wp2_with (fail)
 refine wp_loop_rounds 1 ?_
 rw [rounds_succ]
 go_wp2_with (fail)
 go_end0
 exact ⟨rfl, rfl⟩
theorem stable_nil (g : Nat) (cb : Array Value) (w : World) : Calls Try.prog 75 #[.slice none 0 0, .int .i64 0, .func (.func g) #[] cb] w fun e w' => e = .returned (.tuple #[]) ∧ w' = w := by
 go_enter Try.func75, Try.ntmps75
 go_wp2_with (fail)
 refine wp_loop_rounds 1 ?_
 rw [rounds_succ]
 go_wp2_with (fail)
 refine (ins_nil _ ⟨g, cb, rfl⟩ _).mono ?_
 rintro e w1 ⟨rfl, rfl⟩
 go_wp2_with (fail)
 refine wp_loop_rounds 1 ?_
 rw [rounds_succ]
 go_wp2_with (fail)
 go_end0
 exact ⟨rfl, rfl⟩
theorem sort_nil (g : Nat) (cb : Array Value) (w : World) : Calls Try.prog 56 #[.slice none 0 0, .func (.func g) #[] cb] w fun e w' => e = .returned (.tuple #[]) ∧ w' = w := by
 go_enter Try.func56, Try.ntmps56
 go_wp2_with (fail)
 refine (stable_nil g cb _).mono ?_
 rintro e w1 ⟨rfl, rfl⟩
 go_wp2_with (fail)
 go_end0
 exact ⟨rfl, rfl⟩
def Tx (l : List Pr) : Prop := ∀ p ∈ l, p.1.length ≤ 1000000 ∧ p.2.s.length ≤ 1000000
def JoinQ (w : World) (l : List Pr) (e : Ending) (w' : World) : Prop := ∃ A c, e = .returned (.slice A l.length c) ∧ OwnL w.heap.size w' A l ∧ (A = none → l = [] ∧ c = 0) ∧ l.length ≤ c ∧ Below w.heap.size w w'
set_option maxHeartbeats 2000000 in
set_option maxRecDepth 100000 in
theorem join_any (A : Option Addr) (c : Nat) (qs : List Part) (w : World) (h : Lls w A qs) (hq : qs.length ≤ 1000) (hT : (al qs qs.length).length ≤ 1000000) (hX : Tx (al qs qs.length)) :
 Calls Try.prog 33 #[.slice A qs.length c] w (JoinQ w (sr (al qs qs.length))) := by
 have hcat := concat_any A c qs w h hq hT
 clear h hq
 have HX : Hid (Tx (sr (al qs qs.length))) := fun p hp => hX p ((sr_mem _ p).1 hp)
 have hlen : (sr (al qs qs.length)).length = (al qs qs.length).length := sr_len _
 clear hX
 generalize al qs qs.length = l at *
 go_enter Try.func33, Try.ntmps33
 go_wp2_with (fail)
 refine hcat.mono ?_
 rintro e w1 ⟨v, rfl, hown, hb⟩
 clear hcat
 rcases Nat.eq_zero_or_pos l.length with h0 | h0
 · have hl : l = [] := List.length_eq_zero_iff.1 h0
   subst hl
   obtain ⟨A1, c1, rfl, hn⟩ := slice_of hown
   rcases hown.2 with ⟨e1, _⟩ | ⟨g, cap, cur, e1, hg, _⟩
   · injection e1 with e1 e2 e3
     subst e1; subst e3
     clear hown hn hlen HX
     have HB := Lib.hid hb
     clear hb
     go_wp2_with (fail)
     refine (sort_nil _ _ _).mono ?_
     rintro e w2 ⟨rfl, rfl⟩
     go_wp2_with (fail)
     refine wp_loop_rounds 1 ?_
     rw [rounds_succ]
     go_wp2_with (fail)
     go_ret
     exact ⟨none, 0, rfl, .inl ⟨rfl, rfl⟩, fun _ => ⟨rfl, rfl⟩, Nat.zero_le _, HB.out⟩
   · injection e1 with e1 e2 e3
     subst e1; subst e3
     have ho := holds_of_own (l := []) hown rfl
     have hso := sort_own [] g c1 w1 ho.2.1 ho.2.2 (by show 0 < _; decide)
     have HB := Lib.hid hb
     clear hown hn hlen HX hb
     have HG := Lib.hid ho.1
     clear ho
     go_wp2_with (fail)
     refine hso.mono ?_
     rintro e w2 ⟨rfl, hh, hlt, hfr⟩
     have HB2 := Lib.hid (hfr _ _ HB.out HG.out)
     have HH := Lib.hid hh
     clear hh hfr hso
     go_wp2_with (fail)
     refine wp_loop_rounds 1 ?_
     rw [rounds_succ]
     go_wp2_with (fail)
     go_ret
     exact ⟨_, c1, rfl, .inr ⟨g, rfl, HG.out, hlt, HH.out⟩, (fun h => nomatch h), Nat.zero_le _, HB2.out⟩
 · obtain ⟨A1, c1, rfl, hn⟩ := slice_of hown
   rcases hown.2 with ⟨e1, e2⟩ | ⟨g, cap, cur, e1, hg, _, hcw, _⟩
   · omega
   · injection e1 with e1 e2 e3
     subst e1; subst e3
     have HCW := Lib.hid (show (sr l).length ≤ c1 by rw [hlen]; exact hcw)
     clear hcw
     have ho := holds_of_own (l := l) hown rfl
     have hso := sort_own l g c1 w1 ho.2.1 ho.2.2 (by omega)
     have HB := Lib.hid hb
     have HG := Lib.hid ho.1
     clear hown hn hb ho
     go_wp2_with (fail)
     refine hso.mono ?_
     rintro e w2 ⟨rfl, hh, hlt, hfr⟩
     have HB2 := Lib.hid (hfr _ _ HB.out HG.out)
     have HH := Lib.hid hh
     clear hh hfr hso HB
     have hT' : (sr l).length ≤ 1000000 := by omega
     rw [← hlen]
     clear hT h0 hlen
     generalize sr l = m at *
     go_wp2_with (fail)
     go_loopg [12] m.length (fun kx s12 wr => ∃ i : Nat, i ≤ m.length ∧ m.length - i ≤ kx ∧ s12 = .int .i64 i ∧ g < wr.heap.size ∧ Hid (HoldsK pcl 6 wr g 0 m.toArray) ∧ Hid (Below w.heap.size w wr))
     case atStart => exact ⟨0, Nat.zero_le _, by omega, rfl, hlt, HH, HB2⟩
     case round =>
      clear HH HB2 hlt
      obtain ⟨i, hi, hkx, rfl, hlt, HH, HB⟩ := hrel
      by_cases hlo : i < m.length
      · have hlz : (i : Int) < (m.length : Int) := by omega
        have k0 := (holds_cell HH.out hlo (j := 0) rfl).1
        have k1 := (holds_cell HH.out hlo (j := 1) rfl).1
        have k2 := (holds_cell HH.out hlo (j := 2) rfl).1
        have k3 := (holds_cell HH.out hlo (j := 3) rfl).1
        have k4 := (holds_cell HH.out hlo (j := 4) rfl).1
        have k5 := (holds_cell HH.out hlo (j := 5) rfl).1
        rw [Nat.add_zero] at k0
        have HM := Lib.hid (pd_mem hlo)
        have HP : Hid (∀ (W : World), HoldsK pcl 6 W g 0 m.toArray → ∀ j v, (pcl (pd m i))[j]? = some v → W.cell? ⟨g, i * 6 + j, none⟩ = some v ∧ W.frozen? ⟨g, i * 6 + j, none⟩ = false) := fun W h j v hv => holds_cell h hlo hv
        generalize pd m i = p at *
        obtain ⟨pk, pv⟩ := p
        obtain ⟨vk, vn, vs, vx, vy⟩ := pv
        dsimp only at k0 k1 k2 k3 k4 k5
        go_upto_region 6 with fail
        have HX6 := Lib.hid (box6 wr 35 (.string (tx pk)) (.int .i64 vk) (.int .i64 vn) (.string (tx vs)) (.int .i64 vx) (.int .i64 vy))
        have HB1 := Lib.hid (below_obj HB.out (.cells #[.string (tx pk), .int .i64 vk, .int .i64 vn, .string (tx vs), .int .i64 vx, .int .i64 vy] 35))
        have HH1 := Lib.hid (holds_next HH.out hlt (box1 wr (.cells #[.string (tx pk), .int .i64 vk, .int .i64 vn, .string (tx vs), .int .i64 vx, .int .i64 vy] 35)))
        have hlt1 : g < (wr.alloc (.cells #[.string (tx pk), .int .i64 vk, .int .i64 vn, .string (tx vs), .int .i64 vx, .int .i64 vy] 35)).heap.size := by rw [World.size_alloc]; omega
        clear k0 k1 k2 k3 k4 k5 HH HB
        have hX := HX.out _ HM.out
        have HC := Lib.hid (fun W => clone_any (tx pk) W (by rw [tx_size]; have := hX.1; dsimp only at this; omega))
        have HO := Lib.hid (fun W => ownValue_any vk vn vx vy (tx vs) W (by rw [tx_size]; have := hX.2; dsimp only at this; omega))
        clear hX
        generalize wr.alloc (.cells #[.string (tx pk), .int .i64 vk, .int .i64 vn, .string (tx vs), .int .i64 vx, .int .i64 vy] 35) = wb at *
        generalize wr.heap.size = b at *
        have d0 := fun r : Over wb => (HX6.out.over r).c 0 _ rfl
        have d1 := fun r : Over wb => (HX6.out.over r).c 1 _ rfl
        have d2 := fun r : Over wb => (HX6.out.over r).c 2 _ rfl
        have d3 := fun r : Over wb => (HX6.out.over r).c 3 _ rfl
        have d4 := fun r : Over wb => (HX6.out.over r).c 4 _ rfl
        have d5 := fun r : Over wb => (HX6.out.over r).c 5 _ rfl
        refine wp_over_tail 10 (by kernel_rfl) (by kernel_rfl) ?_
        simp only [List.take_succ_cons, List.take_zero, List.drop_succ_cons, List.drop_zero]
        repeat (go_big_quiet_step (first | fail | with_reducible exact over_make _ (HC.out _) | with_reducible exact over_gives _ (HO.out _)))
        refine wpQuiet_nil ?_
        rintro w2 ⟨⟨w2, hb⟩, rfl⟩
        have HB2 := Lib.hid (Below.next HB1.out hb)
        have HH2 := Lib.hid (holds_next HH1.out hlt1 hb)
        have hlt2 : g < w2.heap.size := Nat.lt_of_lt_of_le hlt1 hb.size
        clear hb d0 d1 d2 d3 d4 d5 HB1 HH1 hlt1 HX6 HC HO
        obtain ⟨k0, f0⟩ := HP.out w2 HH2.out 0 _ rfl
        obtain ⟨k1, f1⟩ := HP.out w2 HH2.out 1 _ rfl
        obtain ⟨k2, f2⟩ := HP.out w2 HH2.out 2 _ rfl
        obtain ⟨k3, f3⟩ := HP.out w2 HH2.out 3 _ rfl
        obtain ⟨k4, f4⟩ := HP.out w2 HH2.out 4 _ rfl
        obtain ⟨k5, f5⟩ := HP.out w2 HH2.out 5 _ rfl
        rw [Nat.add_zero] at k0 f0
        dsimp only at k0 k1 k2 k3 k4 k5
        have HSE := Lib.hid (self6 k0 k1 k2 k3 k4 k5)
        go_wp2_with (fail)
        rw [HSE.out]
        go_roundg (m.length - (i + 1))
        case measure => omega
        case rel => exact ⟨i + 1, by omega, Nat.le_refl _, by go_num, hlt2, HH2, HB2⟩
      · have hlz : ¬ (i : Int) < (m.length : Int) := by omega
        go_wp2_with (fail)
        go_ret
        exact ⟨_, c1, rfl, .inr ⟨g, rfl, HG.out, hlt, HH.out⟩, (fun h => nomatch h), HCW.out, HB.out⟩
theorem sort_any (A : Option Addr) (c : Nat) (l : List Pr) (w : World) (h : PIn w (A, c, l)) (hT : l.length ≤ 1000000) (hX : Tx l) :
 Calls Try.prog 21 #[.slice A l.length c] w (JoinQ w (sr l)) := by
 have e1 : al [((A, c, l) : Part)] 1 = l := by simp [al]
 have hL : Lls (w.alloc (.cells #[.slice A l.length c] 22)) (some ⟨w.heap.size, 0, none⟩) [((A, c, l) : Part)] := by
  refine ⟨w.heap.size, 0, rfl, fun i hi => ?_, fun i hi => ?_⟩
  · obtain rfl : i = 0 := by simpa using hi
    simp [pv]
  · obtain rfl : i = 0 := by simpa using hi
    exact h.next (box1 w _)
 have hj := join_any (some ⟨w.heap.size, 0, none⟩) 1 [((A, c, l) : Part)] (w.alloc (.cells #[.slice A l.length c] 22)) hL (by simp) (by rw [show [((A, c, l) : Part)].length = 1 from rfl, e1]; exact hT) (by rw [show [((A, c, l) : Part)].length = 1 from rfl, e1]; exact hX)
 rw [show [((A, c, l) : Part)].length = 1 from rfl, e1] at hj
 have hb := box1 w (.cells #[.slice A l.length c] 22)
 have HJ := Lib.hid hj; have HB := Lib.hid hb
 clear hj hb hL h e1 hX hT
 go_enter Try.func21, Try.ntmps21
 go_wp2_with (fail)
 refine HJ.out.mono ?_
 rintro e w1 ⟨A1, c1, rfl, ho, hn, hcp, hb⟩
 have HO := Lib.hid (ho.lower HB.out.size); have HCP := Lib.hid hcp; have HN := Lib.hid hn; have HB2 := Lib.hid (Below.next HB.out hb)
 clear ho hn hb HJ hcp
 go_wp2_with (fail)
 go_ret
 exact ⟨A1, c1, rfl, HO.out, HN.out, HCP.out, HB2.out⟩
end Go.Proofs.Ytamhfjlffacakaa.Pr

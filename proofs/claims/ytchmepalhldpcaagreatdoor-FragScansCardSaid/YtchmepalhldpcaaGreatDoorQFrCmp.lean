/-
  A text of this claim: FrCmp.
-/
import Derived.Test.YtchmepalhldpcaaGreatDoorQ2
import Derived.Test.YtchmepalhldpcaaGreatDoorQ1
import Derived.Deep.CutRange
namespace Go.Proofs.YtchmepalhldpcaaGreatDoor.Fr
open Go.ChangeShapes Go.WideShapes Go.ChangeAt Go.RowKit Go.Shelf Go.Sort Ov
theorem encI_at (y : Fd) {j : Nat} (hj : j < 4) : (encI y)[j]? = some (.int .i64 ((ns y).getD j 0)) := by
 match j, hj with
 | 0, _ => rfl
 | 1, _ => rfl
 | 2, _ => rfl
 | 3, _ => rfl
theorem drop_ns (y : Fd) {j : Nat} (hj : j < 4) : (ns y).drop j = (ns y).getD j 0 :: (ns y).drop (j + 1) := by
 match j, hj with
 | 0, _ => rfl
 | 1, _ => rfl
 | 2, _ => rfl
 | 3, _ => rfl
set_option maxRecDepth 100000 in
set_option maxHeartbeats 4000000 in
theorem compare_any (x y : Fd) (b c : Nat) (w : World) (hb : Blk w b (encI x)) (hc : Blk w c (encI y)) :
 Calls Tryz.prog 28 #[.slice (some ⟨b, 0, none⟩) 4 4, .slice (some ⟨c, 0, none⟩) 4 4] w fun e w' => e = .returned (.int .i64 (cf x y)) ∧ w' = w := by
 have HX := Lib.hid hb; have HY := Lib.hid hc
 clear hb hc
 have HC := Lib.hid (fun a b W => cmp_any a b W)
 go_enter Tryz.func28, Tryz.ntmps28
 go_wp2_with (fail)
 go_loopw [11] (fun i wr => ∃ k : Nat, k ≤ 4 ∧ i = .int .i64 (k : Int) ∧ w = wr ∧ Hid (cf x y = lx ((ns x).drop k) ((ns y).drop k))) (fun i _ => 4 - (intOf i).toNat)
 case atStart => exact ⟨0, by omega, rfl, rfl, Lib.hid rfl⟩
 case round =>
  obtain ⟨k, hk, rfl, rfl, hq⟩ := hrel
  by_cases hlt : k < 4
  · have hlt' : (k : Int) < 4 := by omega
    have cx := HX.out.c k _ (encI_at x hlt)
    have cy := HY.out.c k _ (encI_at y hlt)
    have hd := Lib.hid (hq.out.trans (by rw [drop_ns x hlt, drop_ns y hlt]))
    clear hq
    generalize (ns x).getD k 0 = m at cx hd
    generalize (ns y).getD k 0 = n at cy hd
    by_cases h1 : m < n
    · have HCm : Hid (Lib.compareInt m n = -1) := by show _ = _; unfold Lib.compareInt; rw [if_pos h1]
      have hcm := fun W => HC.out m n W
      rw [HCm.out] at hcm
      go_wp2_with (fail)
      refine (hcm _).mono ?_
      rintro e w' ⟨rfl, rfl⟩
      go_wp2_with (fail)
      go_ret
      exact ⟨by rw [hd.out, lx, if_pos (by omega)]; rfl, rfl⟩
    · by_cases h2 : n < m
      · have HCm : Hid (Lib.compareInt m n = 1) := by show _ = _; unfold Lib.compareInt; rw [if_neg h1, if_pos h2]
        have hcm := fun W => HC.out m n W
        rw [HCm.out] at hcm
        go_wp2_with (fail)
        refine (hcm _).mono ?_
        rintro e w' ⟨rfl, rfl⟩
        go_wp2_with (fail)
        go_ret
        exact ⟨by rw [hd.out, lx, if_neg (by omega), if_pos (by omega)]; rfl, rfl⟩
      · have HCm : Hid (Lib.compareInt m n = 0) := by show _ = _; unfold Lib.compareInt; rw [if_neg h1, if_neg h2]
        have hcm := fun W => HC.out m n W
        rw [HCm.out] at hcm
        go_wp2_with (fail)
        refine (hcm _).mono ?_
        rintro e w' ⟨rfl, rfl⟩
        go_wp2_with (fail)
        go_roundw
        · exact ⟨k + 1, by omega, by first | rfl | (congr 1; omega), trivial, Lib.hid (by rw [hd.out, lx, if_neg (by omega), if_neg (by omega)])⟩
        · simp [intOf]; omega
  · obtain rfl : k = 4 := by omega
    go_wp2_with (fail)
    go_ret
    exact ⟨by rw [hq.out]; rfl, rfl⟩
structure Gr (w w' : World) : Prop where
 b : Below w.heap.size w w'
 d : w.drawn ≤ w'.drawn
section
variable {w w' w'' : World}
theorem Gr.refl (w : World) : Gr w w := ⟨Below.refl _ _, Nat.le_refl _⟩
theorem Gr.trans (h : Gr w w') (k : Gr w' w'') : Gr w w'' := ⟨Below.next h.b k.b, Nat.le_trans h.d k.d⟩
theorem Gr.alloc (h : Gr w w') (o : Obj) : Gr w (w'.alloc o) := ⟨h.b.alloc h.b.size o, h.d⟩
theorem Gr.drewN (h : Gr w w') (n : Nat) : Gr w (w'.drewN n) := ⟨below_drewN h.b n, Nat.le_trans h.d (Nat.le_add_right _ _)⟩
theorem Gr.setCell (h : Gr w w') {p : Addr} (hp : w.heap.size ≤ p.block) (v : Value) : Gr w (w'.setCell p v) := ⟨h.b.setCell hp v, h.d⟩
theorem Two.gr {v : Value} {e : Ending} (h : Two v w e w') : Gr w w' := by
 obtain ⟨_, o1, o2, rfl⟩ := h
 exact ((Gr.refl w).alloc o1).alloc o2
theorem Gr.grow (h : Gr w w') : ∃ q os, w' = Sort.grow (w.drewN q) os := by
 refine ⟨w'.drawn - w.drawn, w'.heap.extract w.heap.size w'.heap.size, ?_⟩
 have hd : w.drawn + (w'.drawn - w.drawn) = w'.drawn := by have := h.d; omega
 have hh : w.heap ++ w'.heap.extract w.heap.size w'.heap.size = w'.heap := by
  refine Array.ext (by simp; have := h.b.size; omega) fun i h1 h2 => ?_
  by_cases hi : i < w.heap.size
  · have := h.b.block i hi
    rw [Array.getElem?_eq_getElem h2, Array.getElem?_eq_getElem hi] at this
    simp [hi]
    exact (Option.some.inj this).symm
  · simp [Array.getElem_append, hi]
    congr 1
    omega
 obtain ⟨heap, tape, drawn, os, output⟩ := w'
 obtain ⟨heap0, tape0, drawn0, os0, output0⟩ := w
 have e1 : os = os0 := h.b.os
 have e2 : tape = tape0 := h.b.tape
 have e3 : output = output0 := h.b.output
 subst e1; subst e2; subst e3
 simp only [Sort.grow, World.drewN] at hd hh ⊢
 rw [hd, hh]
end
theorem four_g {w w3 : World} {R : Nat} {a b c d p q r s : Value} (h : Blk w3 R [a, b, c, d]) (hb : Gr w w3) (hR : w.heap.size ≤ R) :
 Blk ((((w3.setCell ⟨R, 0, none⟩ p).setCell ⟨R, 1, none⟩ q).setCell ⟨R, 2, none⟩ r).setCell ⟨R, 3, none⟩ s) R [p, q, r, s] ∧ Gr w ((((w3.setCell ⟨R, 0, none⟩ p).setCell ⟨R, 1, none⟩ q).setCell ⟨R, 2, none⟩ r).setCell ⟨R, 3, none⟩ s) ∧
  ∀ S vs, R ≠ S → Blk w3 S vs → Blk ((((w3.setCell ⟨R, 0, none⟩ p).setCell ⟨R, 1, none⟩ q).setCell ⟨R, 2, none⟩ r).setCell ⟨R, 3, none⟩ s) S vs :=
 ⟨((((h.set 0 p).set 1 q).set 2 r).set 3 s).cast rfl, (((hb.setCell (p := ⟨R, 0, none⟩) hR _).setCell (p := ⟨R, 1, none⟩) hR _).setCell (p := ⟨R, 2, none⟩) hR _).setCell (p := ⟨R, 3, none⟩) hR _,
   fun _ _ hne k => (((k.put (c := R) hne 0 p).put (c := R) hne 1 q).put (c := R) hne 2 r).put (c := R) hne 3 s⟩
def zs : List Value := [.int .i64 0, .int .i64 0, .int .i64 0, .int .i64 0]
def InvS (x y : Fd) (w : World) (X Y : Nat) (listed : Array Bool) (a : Act) (w' : World) : Prop :=
 Gr w w' ∧ Blk w' X (encI x) ∧ Blk w' Y (encI y) ∧ ∃ v5 v6 v7 v8 v9 v10 : Value,
  a = { tmps := #[.agg #[.int .i64 x.t, .int .i64 x.a, .int .i64 x.p, .int .i64 x.f], .agg #[.int .i64 y.t, .int .i64 y.a, .int .i64 y.p, .int .i64 y.f], .pointer (some ⟨X, 0, none⟩), .pointer (some ⟨Y, 0, none⟩), .int .i64 0, v5, v6, v7, v8, v9, v10, undef, undef, undef], defers := [] } ∧
  (listed.getD 0 false = true → v7 = .agg #[.int .i64 x.t, .int .i64 x.a, .int .i64 x.p, .int .i64 x.f]) ∧ (listed.getD 1 false = true → v8 = .agg #[.int .i64 x.t, .int .i64 x.a, .int .i64 x.p, .int .i64 x.f]) ∧ (listed.getD 2 false = true → v9 = .agg #[.int .i64 y.t, .int .i64 y.a, .int .i64 y.p, .int .i64 y.f]) ∧ (listed.getD 3 false = true → v10 = .agg #[.int .i64 y.t, .int .i64 y.a, .int .i64 y.p, .int .i64 y.f]) ∧
  (listed.getD 4 false = true → ∃ b, v5 = .pointer (some ⟨b, 0, none⟩) ∧ w.heap.size ≤ b ∧ Blk w' b zs) ∧ (listed.getD 5 false = true → ∃ b, v6 = .pointer (some ⟨b, 0, none⟩) ∧ w.heap.size ≤ b ∧ Blk w' b zs) ∧
  (listed.getD 4 false = true → listed.getD 5 false = true → v5 ≠ v6)
set_option maxRecDepth 100000 in
set_option maxHeartbeats 8000000 in
theorem scan1_any (x y : Fd) (w : World) : Calls Tryz.prog 27 #[.agg #[.int .i64 x.t, .int .i64 x.a, .int .i64 x.p, .int .i64 x.f], .agg #[.int .i64 y.t, .int .i64 y.a, .int .i64 y.p, .int .i64 y.f]] w fun e w' => e = .returned (.int .i64 (cf x y)) ∧ Gr w w' := by
 have HX := Lib.hid ((Blk.made w 26 (encI x) rfl).old (.cells (encI y).toArray 26))
 have HY := Lib.hid (Blk.made (w.alloc (.cells (encI x).toArray 26)) 26 (encI y) (n := w.heap.size + 1) (by simp))
 have HG := Lib.hid (((Gr.refl w).alloc (.cells (encI x).toArray 26)).alloc (.cells (encI y).toArray 26))
 have hof := fun (u : Fd) W => of_two u W
 go_enter Tryz.func27, Tryz.ntmps27
 go_upto_region 1 with (fail)
 change Hid (Blk ((w.alloc (.cells #[.int .i64 x.t, .int .i64 x.a, .int .i64 x.p, .int .i64 x.f] 26)).alloc (.cells #[.int .i64 y.t, .int .i64 y.a, .int .i64 y.p, .int .i64 y.f] 26)) w.heap.size (encI x)) at HX
 change Hid (Blk ((w.alloc (.cells #[.int .i64 x.t, .int .i64 x.a, .int .i64 x.p, .int .i64 x.f] 26)).alloc (.cells #[.int .i64 y.t, .int .i64 y.a, .int .i64 y.p, .int .i64 y.f] 26)) (w.heap.size + 1) (encI y)) at HY
 change Hid (Gr w ((w.alloc (.cells #[.int .i64 x.t, .int .i64 x.a, .int .i64 x.p, .int .i64 x.f] 26)).alloc (.cells #[.int .i64 y.t, .int .i64 y.a, .int .i64 y.p, .int .i64 y.f] 26))) at HG
 generalize hw1 : ((w.alloc _).alloc _) = w1 at *
 clear hw1
 generalize w.heap.size + 1 = Y at *
 refine wp_inv 6 (InvS x y w w.heap.size Y) (by kernel_rfl) (by kernel_rfl) ?_ ?_ ?_
 · exact ⟨HG.out.drewN 1, HX.out.drew, HY.out.drew, _, _, _, _, _, _, rfl, fun h => (by rw [getD_replicate_false] at h; cases h), fun h => (by rw [getD_replicate_false] at h; cases h), fun h => (by rw [getD_replicate_false] at h; cases h), fun h => (by rw [getD_replicate_false] at h; cases h), fun h => (by rw [getD_replicate_false] at h; cases h), fun h => (by rw [getD_replicate_false] at h; cases h), fun h => (by rw [getD_replicate_false] at h; cases h)⟩
 · intro listed a wr i hI inv hr hi
   obtain ⟨hG, hX, hY, v5, v6, v7, v8, v9, v10, rfl, h0, h1, h2, h3, h4, h5, h6⟩ := hI
   obtain ⟨hun, o, ho, hdep⟩ := mem_ready.1 hr
   have hs : ∀ k, i ≠ k → (listed.setIfInBounds i true).getD k false = true → listed.getD k false = true := fun k hk h => by rwa [getD_set_ne false hk] at h
   clear HX HY HG hr
   obtain rfl | rfl | rfl | rfl | rfl | rfl : i = 0 ∨ i = 1 ∨ i = 2 ∨ i = 3 ∨ i = 4 ∨ i = 5 := by omega
   · have c0 := hX.c 0 _ rfl; have c1 := hX.c 1 _ rfl; have c2 := hX.c 2 _ rfl; have c3 := hX.c 3 _ rfl
     refine wpOp_step rfl (fun K hK => ?_)
     go_simp
     exact hK _ _ ⟨hG, hX, hY, _, _, _, _, _, _, rfl, fun _ => rfl, fun h => h1 (hs 1 (by decide) h), fun h => h2 (hs 2 (by decide) h), fun h => h3 (hs 3 (by decide) h), fun h => h4 (hs 4 (by decide) h), fun h => h5 (hs 5 (by decide) h), fun h h' => h6 (hs 4 (by decide) h) (hs 5 (by decide) h')⟩
   · have hv : _ := h0 (by
      simp at ho; subst ho
      exact hdep ⟨0, .data⟩ (by simp) rfl)
     subst hv
     refine wpOp_step rfl (fun K hK => ?_)
     go_simp
     refine (hof x _).mono ?_
     rintro e w2 ht
     have hg := ht.gr
     obtain ⟨rfl, _⟩ := ht
     exact hK _ _ ⟨hG.trans hg, hX.next hg.b, hY.next hg.b, _, _, _, _, _, _, rfl, fun h => h0 (hs 0 (by decide) h), fun _ => rfl, fun h => h2 (hs 2 (by decide) h), fun h => h3 (hs 3 (by decide) h), fun h => (h4 (hs 4 (by decide) h)).imp fun b hb => ⟨hb.1, hb.2.1, hb.2.2.next hg.b⟩, fun h => (h5 (hs 5 (by decide) h)).imp fun b hb => ⟨hb.1, hb.2.1, hb.2.2.next hg.b⟩, fun h h' => h6 (hs 4 (by decide) h) (hs 5 (by decide) h')⟩
   · have c0 := hY.c 0 _ rfl; have c1 := hY.c 1 _ rfl; have c2 := hY.c 2 _ rfl; have c3 := hY.c 3 _ rfl
     refine wpOp_step rfl (fun K hK => ?_)
     go_simp
     exact hK _ _ ⟨hG, hX, hY, _, _, _, _, _, _, rfl, fun h => h0 (hs 0 (by decide) h), fun h => h1 (hs 1 (by decide) h), fun _ => rfl, fun h => h3 (hs 3 (by decide) h), fun h => h4 (hs 4 (by decide) h), fun h => h5 (hs 5 (by decide) h), fun h h' => h6 (hs 4 (by decide) h) (hs 5 (by decide) h')⟩
   · have hv : _ := h2 (by
      simp at ho; subst ho
      exact hdep ⟨2, .data⟩ (by simp) rfl)
     subst hv
     refine wpOp_step rfl (fun K hK => ?_)
     go_simp
     refine (hof y _).mono ?_
     rintro e w2 ht
     have hg := ht.gr
     obtain ⟨rfl, _⟩ := ht
     exact hK _ _ ⟨hG.trans hg, hX.next hg.b, hY.next hg.b, _, _, _, _, _, _, rfl, fun h => h0 (hs 0 (by decide) h), fun h => h1 (hs 1 (by decide) h), fun h => h2 (hs 2 (by decide) h), fun _ => rfl, fun h => (h4 (hs 4 (by decide) h)).imp fun b hb => ⟨hb.1, hb.2.1, hb.2.2.next hg.b⟩, fun h => (h5 (hs 5 (by decide) h)).imp fun b hb => ⟨hb.1, hb.2.1, hb.2.2.next hg.b⟩, fun h h' => h6 (hs 4 (by decide) h) (hs 5 (by decide) h')⟩
   · refine wpOp_step rfl (fun K hK => ?_)
     go_simp
     exact hK _ _ ⟨hG.alloc _, hX.old _, hY.old _, _, _, _, _, _, _, rfl, fun h => h0 (hs 0 (by decide) h), fun h => h1 (hs 1 (by decide) h), fun h => h2 (hs 2 (by decide) h), fun h => h3 (hs 3 (by decide) h), fun _ => ⟨wr.heap.size, rfl, hG.b.size, Blk.made wr _ zs rfl⟩, fun h => (h5 (hs 5 (by decide) h)).imp fun b hb => ⟨hb.1, hb.2.1, hb.2.2.old _⟩, fun _ h e => (by obtain ⟨b, hb, _, hk⟩ := h5 (hs 5 (by decide) h); rw [hb] at e; injection e with e; injection e with e; injection e with e; have := hk.lt; omega)⟩
   · refine wpOp_step rfl (fun K hK => ?_)
     go_simp
     exact hK _ _ ⟨hG.alloc _, hX.old _, hY.old _, _, _, _, _, _, _, rfl, fun h => h0 (hs 0 (by decide) h), fun h => h1 (hs 1 (by decide) h), fun h => h2 (hs 2 (by decide) h), fun h => h3 (hs 3 (by decide) h), fun h => (h4 (hs 4 (by decide) h)).imp fun b hb => ⟨hb.1, hb.2.1, hb.2.2.old _⟩, fun _ => ⟨wr.heap.size, rfl, hG.b.size, Blk.made wr _ zs rfl⟩, fun h _ e => (by obtain ⟨b, hb, _, hk⟩ := h4 (hs 4 (by decide) h); rw [hb] at e; injection e with e; injection e with e; injection e with e; have := hk.lt; omega)⟩
 · intro listed a wr hI hall
   obtain ⟨hG, _, _, v5, v6, v7, v8, v9, v10, rfl, h0, h1, h2, h3, h4, h5, h6⟩ := hI
   obtain rfl := h0 (hall 0 (by decide)); obtain rfl := h1 (hall 1 (by decide)); obtain rfl := h2 (hall 2 (by decide)); obtain rfl := h3 (hall 3 (by decide))
   obtain ⟨b, rfl, hb, hB⟩ := h4 (hall 4 (by decide))
   obtain ⟨c, rfl, hc, hC⟩ := h5 (hall 5 (by decide))
   have hbc : b ≠ c := fun e => h6 (hall 4 (by decide)) (hall 5 (by decide)) (by rw [e])
   clear h0 h1 h2 h3 h4 h5 h6 hall HX HY HG hof
   have HG' := Lib.hid hG; have HB' := Lib.hid hB; have HC' := Lib.hid hC
   have b0 := hB.c 0 _ rfl; have b1 := hB.c 1 _ rfl; have b2 := hB.c 2 _ rfl; have b3 := hB.c 3 _ rfl
   have g0 := hB.f 0 _ rfl; have g1 := hB.f 1 _ rfl; have g2 := hB.f 2 _ rfl; have g3 := hB.f 3 _ rfl
   have c0 := hC.c 0 _ rfl; have c1 := hC.c 1 _ rfl; have c2 := hC.c 2 _ rfl; have c3 := hC.c 3 _ rfl
   have k0 := hC.f 0 _ rfl; have k1 := hC.f 1 _ rfl; have k2 := hC.f 2 _ rfl; have k3 := hC.f 3 _ rfl
   clear hG hB hC
   simp only [List.drop_succ_cons, List.drop_zero]
   go_upto_region 2 with (fail)
   obtain ⟨hB1, hG1, hK1⟩ := four_g (p := .int .i64 x.t) (q := .int .i64 x.a) (r := .int .i64 x.p) (s := .int .i64 x.f) HB'.out HG'.out hb
   have hC1 := hK1 c zs hbc HC'.out
   generalize (((World.setCell wr _ _).setCell _ _).setCell _ _).setCell _ _ = w2 at *
   obtain ⟨hC2, hG2, hK2⟩ := four_g (p := .int .i64 y.t) (q := .int .i64 y.a) (r := .int .i64 y.p) (s := .int .i64 y.f) hC1 hG1 hc
   have hB2 := hK2 b _ (Ne.symm hbc) hB1
   generalize (((World.setCell w2 _ _).setCell _ _).setCell _ _).setCell _ _ = w3 at *
   clear b0 b1 b2 b3 g0 g1 g2 g3 c0 c1 c2 c3 k0 k1 k2 k3 hK1 hK2 hC1 hG1 hB1 HG' HB' HC'
   have hcm := fun n => compare_any x y b c (w3.drewN n) (hB2.next (below_drewN (Below.refl _ _) n)) (hC2.next (below_drewN (Below.refl _ _) n))
   have HG2 := Lib.hid hG2
   clear hB2 hC2 hG2
   go_quiet (exact Calls.quiet_of_same (hcm _))
   have HG3 := Lib.hid (HG2.out.drewN nq)
   generalize World.drewN w3 nq = w4 at *
   go_wp2_with (fail)
   go_ret
   exact ⟨rfl, HG3.out⟩
theorem cmp_lays (blk off size : Nat) (w : World) : CmpLays Tryz.prog 27 #[] encI 4 cf blk off size w := fun _ _ _ _ x y =>
 (scan1_any x y _).mono fun _ _ ⟨he, hg⟩ => ⟨he, hg.grow⟩
theorem sort_ids (blk off cap : Nat) (d : Array Fd) (w : World) (hH : HoldsK encI 4 w blk off d) (hblk : blk < w.heap.size) (hsz : d.size < 4611686018427387904) :
 Calls Tryz.prog 26 #[.slice (some ⟨blk, off, none⟩) d.size cap, .func (.func 27) #[] #[]] w fun e w' =>
  e = .returned (.tuple #[]) ∧ ∃ n os, w' = sortWorldK encI 4 w blk off n (d.toList.mergeSort fun x y => !(ltOf cf) y x).toArray os :=
 AnyQ.slices_SortFunc_total srtLays 4 (fun _ => by kernel_rfl) (fun _ => by kernel_rfl) encI (fun _ => rfl) (fun x v hv => by simp [encI] at hv; rcases hv with rfl | rfl | rfl | rfl <;> rfl) cf swo_cf 27 #[] blk off cap d w
  (enters_of Tryz.func27 (by kernel_rfl) rfl) (cmp_lays blk off d.size w) hH hblk hsz cf_part
theorem sort_none (p : Option Addr) (cap : Nat) (fv : Value) (w : World) : Calls Tryz.prog 26 #[.slice p 0 cap, fv] w fun e w' => e = .returned (.tuple #[]) ∧ w' = w :=
 AnyF.slices_SortFunc_none srtLays p cap fv w
end Go.Proofs.YtchmepalhldpcaaGreatDoor.Fr

/-
  A text of this claim: JoParse.
-/
import Derived.Test.YtimllihegnokeaaGreatDoorQJoSlots
import Derived.Test.YtimllihegnokeaaGreatDoorQ8
import Derived.Deep.RegionHeld3
namespace Go.Proofs.YtimllihegnokeaaGreatDoor.Jo
open Go.ChangeShapes Go.WideShapes Go.ChangeAt Go.RowKit Ov Va Ex Ev
theorem tk_sm_te {s : List UInt8} {l : List No} (h : te s = some l) : l.length ≤ 400 := (Rt_in (wq_yes2 (te_some h)).1).1
structure Sm (j : Jb) : Prop where
 m : j.m.length ≤ 400
 b : j.b.length ≤ 400
 r : j.r.length ≤ 400
 nm : j.nm.length ≤ 4096
theorem tk_sm {T : Tk} {d : List UInt8} {j j' : Jb} (h : tk T d j = some j') (hd : d.length ≤ 4096) (hs : Sm j) : Sm j' := by
 cases T <;> obtain ⟨x, hx, rfl⟩ := omap h
 case nm => obtain ⟨rfl, -, -⟩ := tw1_some hx; exact ⟨hs.m, hs.b, hs.r, hd⟩
 case m => exact ⟨tk_sm_te hx, hs.b, hs.r, hs.nm⟩
 case b => exact ⟨hs.m, tk_sm_te hx, hs.r, hs.nm⟩
 case r => exact ⟨hs.m, hs.b, tk_sm_te hx, hs.nm⟩
 all_goals exact ⟨hs.m, hs.b, hs.r, hs.nm⟩
theorem cs_sm {x : Slt} {s : List UInt8} {j j' : Jb} {n : Nat} (h : cs x s j = (n, 0, j')) (hl : s.length ≤ 4096) (hs : Sm j) : Sm j' := by
 rcases cs_ok h with ⟨l, -, d, e, ht, -⟩ | ⟨-, -, rfl⟩
 · have h1 := congrArg List.length e
   rw [List.length_append, ln_len] at h1
   exact tk_sm ht (by omega) hs
 · exact hs
def JPQ (r : Jb × Nat × Int) (w : World) (e : Ending) (w' : World) : Prop :=
 ∃ A1 c1 A2 c2 A3 c3, e = .returned (.tuple #[.agg (jcl r.1 A1 c1 A2 c2 A3 c3).toArray, .int .i64 (r.2.1 : Int), .int .i64 r.2.2]) ∧ Below w.heap.size w w' ∧ (Nds w' A1 r.1.m ∧ Nds w' A2 r.1.b ∧ Nds w' A3 r.1.r) ∧ (r.1.m.length ≤ c1 ∧ r.1.b.length ≤ c2 ∧ r.1.r.length ≤ c3) ∧ Sm r.1
theorem jpq_zero {a : Nat} {x : Int} {w w' : World} (h : Below w.heap.size w w') : JPQ (j0, a, x) w (.returned (.tuple #[.agg #[.string ⟨#[]⟩, .int .i64 0, .int .i64 0, .int .i64 0, .int .i64 0, .int .i64 0, .slice none 0 0, .slice none 0 0, .slice none 0 0, .string ⟨#[]⟩, .bool false], .int .i64 (a : Int), .int .i64 x])) w' :=
 ⟨none, 0, none, 0, none, 0, rfl, h, ⟨Nds.nil _ _, Nds.nil _ _, Nds.nil _ _⟩, ⟨Nat.le_refl _, Nat.le_refl _, Nat.le_refl _⟩, ⟨Nat.zero_le _, Nat.zero_le _, Nat.zero_le _, Nat.zero_le _⟩⟩
theorem fin11 {P : World → Prop} {w0 w : World} {B lo : Nat} {x0 x1 x2 x3 x4 x5 x6 x7 x8 x9 x10 : Value} (h : Blk w B [x0, x1, x2, x3, x4, x5, x6, x7, x8, x9, x10]) (k : Below lo w0 w) (hB : lo ≤ B) (y0 y1 y2 y3 y4 y5 y6 y7 y8 y9 y10 : Value)
 (hP : ∀ w', Blk w' B [y0, y1, y2, y3, y4, y5, y6, y7, y8, y9, y10] → Below lo w0 w' → Tur B w w' → P w') :
 P (((((((((((w.setCell ⟨B, 0, none⟩ y0).setCell ⟨B, 1, none⟩ y1).setCell ⟨B, 2, none⟩ y2).setCell ⟨B, 3, none⟩ y3).setCell ⟨B, 4, none⟩ y4).setCell ⟨B, 5, none⟩ y5).setCell ⟨B, 6, none⟩ y6).setCell ⟨B, 7, none⟩ y7).setCell ⟨B, 8, none⟩ y8).setCell ⟨B, 9, none⟩ y9).setCell ⟨B, 10, none⟩ y10) := by
 refine hP _ ((((((((((((h.set 0 y0).set 1 y1).set 2 y2).set 3 y3).set 4 y4).set 5 y5).set 6 y6).set 7 y7).set 8 y8).set 9 y9).set 10 y10)) ?_ ?_
 · exact ((((((((((k.setCell (p := ⟨B, 0, none⟩) hB y0).setCell (p := ⟨B, 1, none⟩) hB y1).setCell (p := ⟨B, 2, none⟩) hB y2).setCell (p := ⟨B, 3, none⟩) hB y3).setCell (p := ⟨B, 4, none⟩) hB y4).setCell (p := ⟨B, 5, none⟩) hB y5).setCell (p := ⟨B, 6, none⟩) hB y6).setCell (p := ⟨B, 7, none⟩) hB y7).setCell (p := ⟨B, 8, none⟩) hB y8).setCell (p := ⟨B, 9, none⟩) hB y9).setCell (p := ⟨B, 10, none⟩) hB y10
 · exact ((((((((((Tur.refl.setCell 0 y0).setCell 1 y1).setCell 2 y2).setCell 3 y3).setCell 4 y4).setCell 5 y5).setCell 6 y6).setCell 7 y7).setCell 8 y8).setCell 9 y9).setCell 10 y10
theorem pgo_cons {x : Slt} {k : Nat} (hk : sls[k]? = some x) (s : List UInt8) (a : Nat) (j : Jb) : pgo (sls.drop k) s a j = if (cs x s j).2.1 ≠ 0 then (j0, a, (cs x s j).2.1) else pgo (sls.drop (k + 1)) (s.drop (cs x s j).1) (a + (cs x s j).1) (cs x s j).2.2 := by
 have hlt : k < sls.length := (List.getElem?_eq_some_iff.1 hk).1
 rw [List.drop_eq_getElem_cons hlt, (List.getElem?_eq_some_iff.1 hk).2]
 rfl
set_option maxHeartbeats 16000000 in
set_option maxRecDepth 100000 in
theorem jparse_any (s : ByteArray) (w : World) (hk : KM w) (ht : Tab w) (hs : s.size ≤ 281474976710656) : Calls Tryz.prog 13 #[.string s] w (JPQ (pj s.data.toList) w) := by
 have HK := Lib.hid hk; have HT := Lib.hid ht
 clear hk ht
 have hll : s.data.toList.length = s.size := by simp
 by_cases hlen : 4096 < s.size
 · have HR : Hid (pj s.data.toList = (j0, 0, 3)) := Lib.hid (by unfold pj; rw [if_pos (by omega)])
   have g1 : decide ((4096 : Int) < (s.size : Int)) = true := decide_eq_true (by omega)
   have g2 : decide (4096 < s.size) = true := decide_eq_true hlen
   rw [HR.out]
   have HB := Lib.hid (box1 w (.cells #[.string ⟨#[]⟩, .int .i64 0, .int .i64 0, .int .i64 0, .int .i64 0, .int .i64 0, .slice none 0 0, .slice none 0 0, .slice none 0 0, .string ⟨#[]⟩, .bool false] 32))
   have HJ := Lib.hid (Blk.made w 32 [.string ⟨#[]⟩, .int .i64 0, .int .i64 0, .int .i64 0, .int .i64 0, .int .i64 0, .slice none 0 0, .slice none 0 0, .slice none 0 0, .string ⟨#[]⟩, .bool false] rfl)
   clear hlen hs hll HK HT HR
   go_enter Tryz.func13, Tryz.ntmps13
   go_wp2_with (fail)
   obtain ⟨e0, e1, e2, e3, e4, e5, e6, e7, e8, e9, e10⟩ := elev HJ.out
   exact bodyPost_ret (v := .tuple #[.agg #[.string ⟨#[]⟩, .int .i64 0, .int .i64 0, .int .i64 0, .int .i64 0, .int .i64 0, .slice none 0 0, .slice none 0 0, .slice none 0 0, .string ⟨#[]⟩, .bool false], .int .i64 0, .int .i64 3]) (by simp [results, Tryz.results13, go_sem, e0, e1, e2, e3, e4, e5, e6, e7, e8, e9, e10]) rfl (jpq_zero HB.out)
 · have HR : Hid (pgo sls s.data.toList 0 j0 = pj s.data.toList) := Lib.hid (by unfold pj; rw [if_neg (by omega)])
   have g1 : decide ((4096 : Int) < (s.size : Int)) = false := decide_eq_false (by omega)
   have g2 : decide (4096 < s.size) = false := decide_eq_false hlen
   generalize pj s.data.toList = R at *
   have HLN : Hid (s.size ≤ 4096) := Lib.hid (by omega)
   obtain ⟨h1, h2, h3⟩ := two_made w 32 32 [.string ⟨#[]⟩, .int .i64 0, .int .i64 0, .int .i64 0, .int .i64 0, .int .i64 0, .slice none 0 0, .slice none 0 0, .slice none 0 0, .string ⟨#[]⟩, .bool false] [.string ⟨#[]⟩, .int .i64 0, .int .i64 0, .int .i64 0, .int .i64 0, .int .i64 0, .slice none 0 0, .slice none 0 0, .slice none 0 0, .string ⟨#[]⟩, .bool false]
   change Blk ((w.alloc (.cells #[.string ⟨#[]⟩, .int .i64 0, .int .i64 0, .int .i64 0, .int .i64 0, .int .i64 0, .slice none 0 0, .slice none 0 0, .slice none 0 0, .string ⟨#[]⟩, .bool false] 32)).alloc (.cells #[.string ⟨#[]⟩, .int .i64 0, .int .i64 0, .int .i64 0, .int .i64 0, .int .i64 0, .slice none 0 0, .slice none 0 0, .slice none 0 0, .string ⟨#[]⟩, .bool false] 32)) _ _ at h1
   change Blk ((w.alloc (.cells #[.string ⟨#[]⟩, .int .i64 0, .int .i64 0, .int .i64 0, .int .i64 0, .int .i64 0, .slice none 0 0, .slice none 0 0, .slice none 0 0, .string ⟨#[]⟩, .bool false] 32)).alloc (.cells #[.string ⟨#[]⟩, .int .i64 0, .int .i64 0, .int .i64 0, .int .i64 0, .int .i64 0, .slice none 0 0, .slice none 0 0, .slice none 0 0, .string ⟨#[]⟩, .bool false] 32)) _ _ at h2
   change Below _ _ ((w.alloc (.cells #[.string ⟨#[]⟩, .int .i64 0, .int .i64 0, .int .i64 0, .int .i64 0, .int .i64 0, .slice none 0 0, .slice none 0 0, .slice none 0 0, .string ⟨#[]⟩, .bool false] 32)).alloc (.cells #[.string ⟨#[]⟩, .int .i64 0, .int .i64 0, .int .i64 0, .int .i64 0, .int .i64 0, .slice none 0 0, .slice none 0 0, .slice none 0 0, .string ⟨#[]⟩, .bool false] 32)) at h3
   have HJ := Lib.hid h1; have HX := Lib.hid h2; have HB := Lib.hid h3
   clear h1 h2 h3 hlen hs
   go_enter Tryz.func13, Tryz.ntmps13
   go_wp2_with (fail)
   generalize (w.alloc (.cells #[.string ⟨#[]⟩, .int .i64 0, .int .i64 0, .int .i64 0, .int .i64 0, .int .i64 0, .slice none 0 0, .slice none 0 0, .slice none 0 0, .string ⟨#[]⟩, .bool false] 32)).alloc (.cells #[.string ⟨#[]⟩, .int .i64 0, .int .i64 0, .int .i64 0, .int .i64 0, .int .i64 0, .slice none 0 0, .slice none 0 0, .slice none 0 0, .string ⟨#[]⟩, .bool false] 32) = v at *
   have hJ0 : JX v (w.heap.size + 1) j0 := ⟨none, 0, none, 0, none, 0, HX.out, ⟨Nds.nil _ _, Nat.le_refl _, fun _ e => by cases e⟩, ⟨Nds.nil _ _, Nat.le_refl _, fun _ e => by cases e⟩, ⟨Nds.nil _ _, Nat.le_refl _, fun _ e => by cases e⟩⟩
   refine (slots_any (w.heap.size + 1) v HX.out.lt).mono ?_
   rintro e v1 ⟨S, rfl, hb, hsls, hSb⟩
   have HJ1 := Lib.hid (HJ.out.next hb); have HJX := Lib.hid (hJ0.next hb); have HB1 := Lib.hid (Below.next HB.out hb); have HSL := Lib.hid hsls; have HSB := Lib.hid hSb
   clear hb hsls hSb hJ0 HJ HX HB
   obtain ⟨RB, hRB⟩ : ∃ n, w.heap.size = n := ⟨_, rfl⟩
   have HRB := Lib.hid hRB
   rw [hRB] at HJ1 HJX HSL HSB
   go_wp2_with (fail)
   clear hRB
   go_loopw [6, 18] (fun A I wr => ∃ (k at_ : Nat) (j : Jb), k ≤ 9 ∧ A = .int .i64 (at_ : Int) ∧ I = .int .i64 (k : Int) ∧ at_ ≤ s.size ∧ pgo (sls.drop k) (s.data.toList.drop at_) at_ j = R ∧ JX wr (RB + 1) j ∧ Sm j ∧ Tur (RB + 1) v1 wr) (fun _ I _ => 9 - (intOf I).toNat)
   case atStart => exact ⟨0, 0, j0, by omega, rfl, rfl, Nat.zero_le _, HR.out, HJX.out, ⟨Nat.zero_le _, Nat.zero_le _, Nat.zero_le _, Nat.zero_le _⟩, Tur.refl⟩
   case round =>
    obtain ⟨k, at_, j, hk, rfl, rfl, hat, he, hjx, hsm, htu⟩ := hrel
    have HE := Lib.hid he; have HJr := Lib.hid hjx; have HSM := Lib.hid hsm; have HTU := Lib.hid htu
    clear he hjx hsm htu
    have HBr := Lib.hid (HTU.out.below (lo := w.heap.size) (by have := HRB.out; omega) HB1.out.size)
    replace HBr := Lib.hid (HB1.out.trans HBr.out)
    have HZr := Lib.hid (HJ1.out.tur HTU.out (by omega))
    by_cases hlt : k < 9
    · obtain ⟨x, hx⟩ : ∃ x, sls[k]? = some x := ⟨_, List.getElem?_eq_getElem (show k < sls.length from hlt)⟩
      obtain ⟨L, c, g3, g4, g5, g6⟩ := (HSL.out.tur HTU.out HSB.out) k x hx
      have HXK := Lib.hid hx; have HG5 := Lib.hid g5; have HG6 := Lib.hid g6
      clear hx g5 g6
      go_upto_region 8 with (fail)
      clear g3 g4
      have hbe := box1 wr (.cells #[.slice (some ⟨L, 0, none⟩) x.1.length c, .bool x.2] 86)
      have hm := Blk.made wr 86 [.slice (some ⟨L, 0, none⟩) x.1.length c, .bool x.2] rfl
      change Blk (wr.alloc (.cells #[.slice (some ⟨L, 0, none⟩) x.1.length c, .bool x.2] 86)) _ _ at hm
      have HM := Lib.hid hm; have HBE := Lib.hid hbe
      have HB4 := Lib.hid (Below.next HBr.out hbe); have HJ4 := Lib.hid (HJr.out.next hbe); have HZ4 := Lib.hid (HZr.out.next hbe); have HT4 := Lib.hid (HTU.out.trans (Below.tur hbe)); have HS4 := Lib.hid (HG5.out.tur (Below.tur hbe) HG6.out)
      have hbw : RB + 1 < wr.heap.size := by obtain ⟨A1, c1, A2, c2, A3, c3, h0, _⟩ := HJr.out; exact h0.lt
      clear hbe hm
      generalize wr.alloc (.cells #[.slice (some ⟨L, 0, none⟩) x.1.length c, .bool x.2] 86) = w4 at *
      obtain ⟨BX, hBX⟩ : ∃ n, wr.heap.size = n := ⟨_, rfl⟩
      rw [hBX] at HM hbw
      rw [hBX]
      obtain ⟨T, hT⟩ : ∃ T, s.extract at_ s.size = T := ⟨_, rfl⟩
      have hTl : T.data.toList = s.data.toList.drop at_ := by rw [← hT, ext_drop, tx_list]
      have hTs : T.size ≤ 4096 := by
       have h : T.data.toList.length ≤ 4096 := by rw [hTl, List.length_drop, hll]; have := HLN.out; omega
       simpa using h
      obtain ⟨⟨n, x0, j'⟩, hcs⟩ : ∃ q, cs x (s.data.toList.drop at_) j = q := ⟨_, rfl⟩
      have hx2 : x.1.length ≤ 2 := by
       match k, HXK.out with
       | 0, e => injection e with e; subst e; decide
       | 1, e => injection e with e; subst e; decide
       | 2, e => injection e with e; subst e; decide
       | 3, e => injection e with e; subst e; decide
       | 4, e => injection e with e; subst e; decide
       | 5, e => injection e with e; subst e; decide
       | 6, e => injection e with e; subst e; decide
       | 7, e => injection e with e; subst e; decide
       | 8, e => injection e with e; subst e; decide
      have HCS : Hid (∀ w1, Below w4.heap.size w4 w1 → Calls Tryz.prog 40 #[.string T, .agg #[.slice (some ⟨L, 0, none⟩) x.1.length c, .bool x.2]] w1 (CSQ (n, x0, j') (RB + 1) w1)) := Lib.hid fun w1 h1 => by
       have h := cutslot_any x j (RB + 1) L c T w1 (HS4.out.tur (Below.tur h1) HG6.out) HG6.out (HJ4.out.next h1) (HK.out.next (Below.next HB4.out h1)) (HT.out.next (Below.next HB4.out h1)) hTs hx2
       rw [hTl, hcs] at h; exact h
      have hnl : n ≤ s.size - at_ := by have := cs_len x (s.data.toList.drop at_) j; rw [hcs, List.length_drop, hll] at this; exact this
      have HEC : Hid ((if x0 ≠ 0 then (j0, at_, x0) else pgo (sls.drop (k + 1)) (s.data.toList.drop (at_ + n)) (at_ + n) j') = R) := Lib.hid (by
       have h := HE.out
       rw [pgo_cons HXK.out, hcs] at h
       simp only [List.drop_drop] at h
       exact h)
      have HSJ : Hid (x0 = 0 → Sm j') := Lib.hid (fun e => by
       subst e
       exact cs_sm hcs (by rw [List.length_drop, hll]; have := HLN.out; omega) HSM.out)
      have HH := Lib.hid hT; have HNL := Lib.hid hnl
      have p1 : (0 : Int) ≤ (at_ : Int) := by omega
      have p2 : (at_ : Int) ≤ (s.size : Int) := by omega
      have p3 : at_ ≤ s.size := hat
      clear hTl hTs hcs hx2 hT hnl HXK HE HJr HZr HTU HBr HS4
      have d0 := HM.out.c 0 _ rfl; have d1 := HM.out.c 1 _ rfl
      have hlo := HM.out.lt
      go_region_held3 (fun w' => w'.cell? ⟨BX, 0, none⟩ = some (.slice (some ⟨L, 0, none⟩) x.1.length c) ∧ w'.cell? ⟨BX, 1, none⟩ = some (.bool x.2)) (go_keep)
       (first
         | (go_at_call 40
            rw [HH.out]
            refine (HCS.out _ (below_drewN (Below.refl _ _) 1)).mono ?_
            rintro e u5 ⟨rfl, htu5, hj5⟩
            have HT5 := Lib.hid htu5; have HJ5 := Lib.hid hj5
            have b0 := (HT5.out.cell (p := ⟨BX, 0, none⟩) (show BX ≠ RB + 1 by omega) hlo).trans d0
            have b1 := (HT5.out.cell (p := ⟨BX, 1, none⟩) (show BX ≠ RB + 1 by omega) hlo).trans d1
            clear htu5 hj5))
      rename_i hHd
      have hx5 : Below w.heap.size w (w4.drewN 1) := Below.next HB4.out (below_drewN (Below.refl _ _) 1)
      have HB5 := Lib.hid (hx5.trans (HT5.out.below (by have := HRB.out; omega) hx5.size))
      have HZ5 := Lib.hid ((HZ4.out.next (below_drewN (Below.refl _ _) 1)).tur HT5.out (by omega))
      have HTT := Lib.hid ((HT4.out.trans (Below.tur (below_drewN (Below.refl w4.heap.size w4) 1))).trans HT5.out)
      clear hHd b0 b1 d0 d1 hlo p1 p2 hx5 hbw
      by_cases hx0 : x0 = 0
      · subst hx0
        have HE0 : Hid (pgo (sls.drop (k + 1)) (s.data.toList.drop (at_ + n)) (at_ + n) j' = R) := Lib.hid (by have h := HEC.out; rw [if_neg (by simp)] at h; exact h)
        have q1 : at_ + n ≤ 4096 := by have := HNL.out; have := HLN.out; omega
        go_wp2_with (fail)
        go_roundw
        case rel => exact ⟨k + 1, at_ + n, j', by omega, by go_num, by go_num, by have := HNL.out; omega, HE0.out, HJ5.out rfl, HSJ.out rfl, HTT.out⟩
        case measure => simp [intOf]; omega
      · have hne : (x0 == 0) = false := beq_eq_false_iff_ne.2 hx0
        have HRv : Hid (R = (j0, at_, x0)) := Lib.hid (by rw [← HEC.out, if_pos hx0])
        obtain ⟨e0, e1, e2, e3, e4, e5, e6, e7, e8, e9, e10⟩ := elev HZ5.out
        obtain ⟨f0, f1, f2, f3, f4, f5, f6, f7, f8, f9, f10⟩ := elet HZ5.out
        clear hx0
        go_wp2_with (fail)
        clear e0 e1 e2 e3 e4 e5 e6 e7 e8 e9 e10 f0 f1 f2 f3 f4 f5 f6 f7 f8 f9 f10
        refine fin11 (P := bodyPost _ _ _ _ _) HZ5.out HB5.out (Nat.le_of_eq HRB.out) _ _ _ _ _ _ _ _ _ _ _ (fun w7 hz hb _ => ?_)
        obtain ⟨e0, e1, e2, e3, e4, e5, e6, e7, e8, e9, e10⟩ := elev hz
        exact bodyPost_ret (v := .tuple #[.agg #[.string ⟨#[]⟩, .int .i64 0, .int .i64 0, .int .i64 0, .int .i64 0, .int .i64 0, .slice none 0 0, .slice none 0 0, .slice none 0 0, .string ⟨#[]⟩, .bool false], .int .i64 (at_ : Int), .int .i64 x0]) (by simp [results, Tryz.results13, go_sem, e0, e1, e2, e3, e4, e5, e6, e7, e8, e9, e10]) rfl (by rw [HRv.out]; exact jpq_zero hb)
    · obtain rfl : k = 9 := by omega
      have he : (if s.data.toList.drop at_ ≠ [] then (j0, at_, 10) else if jr j ≠ 0 then (j0, 0, jr j) else (j, 0, 0)) = R := HE.out
      by_cases hat2 : at_ < s.size
      · have hne : s.data.toList.drop at_ ≠ [] := fun e => by
         have := congrArg List.length e
         rw [List.length_drop, hll] at this
         simp at this; omega
        rw [if_pos hne] at he
        have HRv : Hid (R = (j0, at_, 10)) := Lib.hid he.symm
        have q1 : decide ((at_ : Int) < (s.size : Int)) = true := decide_eq_true (by omega)
        have q2 : decide (at_ < s.size) = true := decide_eq_true hat2
        obtain ⟨e0, e1, e2, e3, e4, e5, e6, e7, e8, e9, e10⟩ := elev HZr.out
        obtain ⟨f0, f1, f2, f3, f4, f5, f6, f7, f8, f9, f10⟩ := elet HZr.out
        clear he hne
        go_wp2_with (fail)
        clear e0 e1 e2 e3 e4 e5 e6 e7 e8 e9 e10 f0 f1 f2 f3 f4 f5 f6 f7 f8 f9 f10
        refine fin11 (P := bodyPost _ _ _ _ _) HZr.out HBr.out (Nat.le_of_eq HRB.out) _ _ _ _ _ _ _ _ _ _ _ (fun w7 hz hb _ => ?_)
        obtain ⟨e0, e1, e2, e3, e4, e5, e6, e7, e8, e9, e10⟩ := elev hz
        exact bodyPost_ret (v := .tuple #[.agg #[.string ⟨#[]⟩, .int .i64 0, .int .i64 0, .int .i64 0, .int .i64 0, .int .i64 0, .slice none 0 0, .slice none 0 0, .slice none 0 0, .string ⟨#[]⟩, .bool false], .int .i64 (at_ : Int), .int .i64 10]) (by simp [results, Tryz.results13, go_sem, e0, e1, e2, e3, e4, e5, e6, e7, e8, e9, e10]) rfl (by rw [HRv.out]; exact jpq_zero hb)
      · have heq : s.data.toList.drop at_ = [] := List.drop_of_length_le (by rw [hll]; omega)
        rw [if_neg (by simp [heq])] at he
        have q1 : decide ((at_ : Int) < (s.size : Int)) = false := decide_eq_false (by omega)
        have q2 : decide (at_ < s.size) = false := decide_eq_false hat2
        obtain ⟨A1, c1, A2, c2, A3, c3, hj0, hf1, hf2, hf3⟩ := HJr.out
        change Blk wr (RB + 1) [.string (tx j.nm), .int .i64 j.t, .int .i64 j.p, .int .i64 j.k, .int .i64 j.n, .int .i64 j.f, .slice A1 j.m.length c1, .slice A2 j.b.length c2, .slice A3 j.r.length c3, .string (tx j.fd), .bool j.cb] at hj0
        have HJ0 := Lib.hid hj0; have HF1 := Lib.hid hf1; have HF2 := Lib.hid hf2; have HF3 := Lib.hid hf3
        have HRI := Lib.hid (right_any j A1 c1 A2 c2 A3 c3 wr ⟨hf1.n, hf2.n, hf3.n, by have := HSM.out.m; omega, by have := HSM.out.b; omega, by have := HSM.out.r; omega⟩ (HK.out.next HBr.out) (by have := HSM.out.nm; omega))
        have HEE := Lib.hid he
        clear hj0 hf1 hf2 hf3 he heq
        obtain ⟨x0, hx0⟩ : ∃ x, jr j = x := ⟨_, rfl⟩
        rw [hx0] at HRI HEE
        have HX0 := Lib.hid hx0
        clear hx0
        obtain ⟨e0, e1, e2, e3, e4, e5, e6, e7, e8, e9, e10⟩ := elev HJ0.out
        go_wp2_with (fail)
        clear e0 e1 e2 e3 e4 e5 e6 e7 e8 e9 e10
        refine HRI.out.mono ?_
        rintro e w6 ⟨rfl, hb6⟩
        have HJ6 := Lib.hid (HJ0.out.next hb6); have HZ6 := Lib.hid (HZr.out.next hb6); have HB6 := Lib.hid (Below.next HBr.out hb6)
        have G1 := Lib.hid (HF1.out.next hb6); have G2 := Lib.hid (HF2.out.next hb6); have G3 := Lib.hid (HF3.out.next hb6)
        clear hb6 HJ0 HF1 HF2 HF3
        obtain ⟨e0, e1, e2, e3, e4, e5, e6, e7, e8, e9, e10⟩ := elev HZ6.out
        obtain ⟨f0, f1, f2, f3, f4, f5, f6, f7, f8, f9, f10⟩ := elet HZ6.out
        by_cases h0 : x0 = 0
        · subst h0
          have HRv : Hid (R = (j, 0, 0)) := Lib.hid (by rw [← HEE.out, if_neg (by simp)])
          obtain ⟨k0, k1, k2, k3, k4, k5, k6, k7, k8, k9, k10⟩ := elev HJ6.out
          go_wp2_with (fail)
          clear e0 e1 e2 e3 e4 e5 e6 e7 e8 e9 e10 f0 f1 f2 f3 f4 f5 f6 f7 f8 f9 f10 k0 k1 k2 k3 k4 k5 k6 k7 k8 k9 k10
          refine fin11 (P := bodyPost _ _ _ _ _) HZ6.out HB6.out (Nat.le_of_eq HRB.out) _ _ _ _ _ _ _ _ _ _ _ (fun w7 hz hb ht7 => ?_)
          obtain ⟨e0, e1, e2, e3, e4, e5, e6, e7, e8, e9, e10⟩ := elev hz
          have hne : ∀ a : Addr, RB + 1 < a.block → a.block ≠ RB := fun a h => by omega
          exact bodyPost_ret (v := .tuple #[.agg #[.string (tx j.nm), .int .i64 j.t, .int .i64 j.p, .int .i64 j.k, .int .i64 j.n, .int .i64 j.f, .slice A1 j.m.length c1, .slice A2 j.b.length c2, .slice A3 j.r.length c3, .string (tx j.fd), .bool j.cb], .int .i64 0, .int .i64 0]) (by simp [results, Tryz.results13, go_sem, e0, e1, e2, e3, e4, e5, e6, e7, e8, e9, e10]) rfl (by
           rw [HRv.out]
           exact ⟨A1, c1, A2, c2, A3, c3, rfl, hb, ⟨nds_tur G1.out.n ht7 (fun a ha => hne a (G1.out.e a ha)), nds_tur G2.out.n ht7 (fun a ha => hne a (G2.out.e a ha)), nds_tur G3.out.n ht7 (fun a ha => hne a (G3.out.e a ha))⟩, ⟨G1.out.c, G2.out.c, G3.out.c⟩, HSM.out⟩)
        · have hne : (x0 == 0) = false := beq_eq_false_iff_ne.2 h0
          have HRv : Hid (R = (j0, 0, x0)) := Lib.hid (by rw [← HEE.out, if_pos h0])
          clear h0
          go_wp2_with (fail)
          clear e0 e1 e2 e3 e4 e5 e6 e7 e8 e9 e10 f0 f1 f2 f3 f4 f5 f6 f7 f8 f9 f10
          refine fin11 (P := bodyPost _ _ _ _ _) HZ6.out HB6.out (Nat.le_of_eq HRB.out) _ _ _ _ _ _ _ _ _ _ _ (fun w7 hz hb _ => ?_)
          obtain ⟨e0, e1, e2, e3, e4, e5, e6, e7, e8, e9, e10⟩ := elev hz
          exact bodyPost_ret (v := .tuple #[.agg #[.string ⟨#[]⟩, .int .i64 0, .int .i64 0, .int .i64 0, .int .i64 0, .int .i64 0, .slice none 0 0, .slice none 0 0, .slice none 0 0, .string ⟨#[]⟩, .bool false], .int .i64 0, .int .i64 x0]) (by simp [results, Tryz.results13, go_sem, e0, e1, e2, e3, e4, e5, e6, e7, e8, e9, e10]) rfl (by rw [HRv.out]; exact jpq_zero hb)
end Go.Proofs.YtimllihegnokeaaGreatDoor.Jo

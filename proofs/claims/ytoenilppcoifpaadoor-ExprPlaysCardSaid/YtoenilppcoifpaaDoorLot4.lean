/-
  The texts of this claim, lot 4: ExPlays.
-/
import Derived.Test.YtoenilppcoifpaaDoorLot3
/-
  The law ExprPlays, walked (written by gen_explays.py).
-/
namespace Go.Proofs.YtoenilppcoifpaaDoor.Ex
open Go.ChangeShapes Go.WideShapes Go.ChangeAt Go.RowKit Go.Proofs.YtoenilppcoifpaaDoor.Ov Go.Proofs.YtoenilppcoifpaaDoor.Va

/-- What End answers, told beside the list's length. -/
theorem enx_told (l : List No) (a : Int) : ∃ (m : Int) (b : Bool), enx l.length (edx l a) = .tuple #[.int .i64 m, .bool b] ∧ (Rt l = false → b = false ∧ m = 0) ∧ (Rt l = true → b = decide (0 ≤ a ∧ a < (l.length : Int))) ∧
    (b = true → ∃ k : Nat, a = (k : Int) ∧ k < l.length ∧ onv l.length (ex 25 (l.drop k)) = .int .i64 m) := by
  rcases Bool.eq_false_or_eq_true (Rt l) with hr | hr
  · by_cases h0 : a < 0
    · refine ⟨0, false, ?_, fun h => absurd (hr.symm.trans h) (by decide), fun _ => (decide_eq_false (by omega)).symm, fun h => absurd h (by decide)⟩
      unfold edx; rw [if_pos h0]; rfl
    · obtain ⟨k, rfl⟩ : ∃ k : Nat, a = (k : Int) := ⟨a.toNat, by omega⟩
      by_cases hk : k < l.length
      · obtain ⟨r', h'⟩ := ex_each 25 l [] (Rt_in hr).2 k (by simpa using hk)
        refine ⟨((l.length - r'.length : Nat) : Int), true, ?_, fun h => absurd (hr.symm.trans h) (by decide), fun _ => (decide_eq_true (by omega)).symm, fun _ => ⟨k, rfl, hk, by rw [h']; rfl⟩⟩
        unfold edx; rw [if_neg h0, if_pos hr]
        show enx l.length (ex 25 (l.drop k)) = _
        rw [h']; rfl
      · refine ⟨0, false, ?_, fun h => absurd (hr.symm.trans h) (by decide), fun _ => (decide_eq_false (by omega)).symm, fun h => absurd h (by decide)⟩
        unfold edx; rw [if_neg h0, if_pos hr]
        show enx l.length (ex 25 (l.drop k)) = _
        rw [List.drop_of_length_le (by omega), ex_nil]; rfl
  · refine ⟨0, false, ?_, fun _ => ⟨rfl, rfl⟩, fun h => absurd (hr.symm.trans h) (by decide), fun h => absurd h (by decide)⟩
    unfold edx
    rw [if_neg (show ¬ Rt l = true by rw [hr]; decide)]
    split <;> rfl
theorem nmv_told (l : List No) : ∃ p0 p1 p2 p3 p4 : Bool, nmv l = .agg #[.bool p0, .bool p1, .bool p2, .bool p3, .bool p4] ∧ (Rt l = false → p0 = false ∧ p1 = false ∧ p2 = false ∧ p3 = false ∧ p4 = false) ∧ (Rt l = true → hasL l l.length = [.bool p0, .bool p1, .bool p2, .bool p3, .bool p4]) := by
  rcases Bool.eq_false_or_eq_true (Rt l) with hr | hr
  · exact ⟨_, _, _, _, _, by unfold nmv; rw [if_pos hr]; rfl, fun h => absurd (hr.symm.trans h) (by decide), fun _ => rfl⟩
  · exact ⟨false, false, false, false, false, by unfold nmv; rw [if_neg (by rw [hr]; decide)], fun _ => ⟨rfl, rfl, rfl, rfl, rfl⟩, fun h => absurd (hr.symm.trans h) (by decide)⟩
theorem word_told (o : Int) : ((tx (wd o)).toList == []) = !decide (2 ≤ o ∧ o ≤ 29) := by
  rw [ByteArray.toList_eq, tx_list]
  by_cases h : 2 ≤ o ∧ o ≤ 29
  · rw [decide_eq_true h, Bool.not_true, beq_eq_false_iff_ne]
    have := (kind_in h).2.1
    intro e; rw [e] at this; cases this
  · rw [decide_eq_false h, (kind_out (by omega)).1]; rfl
set_option maxRecDepth 100000 in
set_option maxHeartbeats 8000000 in
theorem plays_core (A0 : Option Addr) (c0 : Nat) (l0 : List No) (a1 a2 : Int) (w : World) (w0 : NdIn w A0 l0.length l0) (hT : Tab w) (hK : KN w) : Calls Tryd.prog 5 #[.slice A0 l0.length c0, .int .i64 a1, .int .i64 a2] w (Gives (.bool true) w) := by
  have HN0 := Lib.hid w0.2.1
  have HK := Lib.hid hK
  have HT := Lib.hid hT
  clear w0 hK hT
  go_enter Tryd.func5, Tryd.ntmps5
  go_wp2_with (fail)
  refine (eawake_any _ HK.out).mono ?_
  rintro e w1 ⟨rfl, hb⟩
  have HB1 := Lib.hid hb
  have HK1 := Lib.hid (HK.out.next hb)
  have HT1 := Lib.hid (HT.out.next hb)
  have HN1 := Lib.hid (HN0.out.next hb)
  clear hb HK HT
  go_wp2_with (fail)
  refine (few_any l0 A0 c0 _ HN1.out).mono ?_
  rintro e w' ⟨b, rfl, rfl, hf⟩
  cases b with
  | false =>
    clear hf
    go_wp2_with (fail)
    refine (eawake_any _ HK1.out).mono ?_
    rintro e w2 ⟨rfl, hb⟩
    have HB2 := Lib.hid (Below.next HB1.out hb)
    clear hb
    go_wp2_with (fail)
    go_ret
    exact ⟨rfl, HB2.out⟩
  | true =>
    have hl := (hf rfl).1
    clear hf
    obtain ⟨em, eb, he1, he2⟩ := enx_told l0 a1
    obtain ⟨p0, p1, p2, p3, p4, hp1, hp2⟩ := nmv_told l0
    have HEND : Hid (∀ P d w, Nds w P l0 → KN w → Calls Tryd.prog 16 #[.slice P l0.length d, .int .i64 a1] w (Gives (.tuple #[.int .i64 em, .bool eb]) w)) := fun P d w h1 h2 => by rw [← he1]; exact eend_any l0 P d a1 w h1 h2 (by omega)
    have HNAM : Hid (∀ P d w, Nds w P l0 → KN w → Calls Tryd.prog 17 #[.slice P l0.length d] w (Gives (.agg #[.bool p0, .bool p1, .bool p2, .bool p3, .bool p4]) w)) := fun P d w h1 h2 => by rw [← hp1]; exact names_any l0 P d w h1 h2 (by omega)
    have HWRI : Hid (∀ P d w, Nds w P l0 → KN w → Tab w → l0.length ≤ d → Calls Tryd.prog 9 #[.slice P l0.length d] w (Gives (.tuple #[.string (tx (wq l0).1), .int .i64 ((wq l0).2 : Int)]) w)) := fun P d w h1 h2 h3 h4 => ewrite_any l0 P d w h1 h2 h3 h4 (by omega)
    have HPAR : Hid (∀ w, KN w → Calls Tryd.prog 18 #[.int .i64 a2] w (Gives (.tuple #[.string (tx (wd a2)), .int .i64 ((pa a2 : Nat) : Int), .bool (decide (2 ≤ a2 ∧ a2 ≤ 29))]) w)) := fun w h => parts_any a2 w h
    have HWOR := Lib.hid (word_any a2)
    have HRPA := Lib.hid (rparts_any a2)
    have hwt := word_told a2
    have hwt2 : (tx (wd a2)).toList.isEmpty = !decide (2 ≤ a2 ∧ a2 ≤ 29) := by rw [← List.beq_nil_eq]; exact hwt
    have HRIG : Hid (∀ P d w, Nds w P l0 → KN w → Calls Tryd.prog 11 #[.slice P l0.length d] w (Gives (.bool (Rt l0)) w)) := fun P d w h1 h2 => eright_any l0 P d w h1 h2 (by omega)
    have HXR : Hid (∀ w, Nds w A0 l0 → Calls Tryd.prog 15 #[.slice A0 l0.length c0] w (Gives (.bool (Rt l0)) w)) := fun w h => xright_any l0 A0 c0 w h (by omega)
    have htw : (Rt l0 = false → tx (wq l0).1 = ⟨#[]⟩ ∧ (wq l0).2 = 1) ∧ (Rt l0 = true → (tx (wq l0).1 = ⟨#[]⟩ ∧ (wq l0).2 = 3 ∧ 4096 < (tx (wt 25 l0)).size) ∨ (tx (wq l0).1 = tx (wt 25 l0) ∧ (wq l0).2 = 0 ∧ (tx (wt 25 l0)).size ≤ 4096)) := by
      unfold wq
      rw [tx_size]
      constructor
      · intro h; rw [if_neg (by rw [h]; decide)]; exact ⟨rfl, rfl⟩
      · intro h
        rw [if_pos h]
        by_cases h4 : 4096 < (wt 25 l0).length
        · rw [if_pos h4]; exact .inl ⟨rfl, rfl, h4⟩
        · rw [if_neg h4]; exact .inr ⟨rfl, rfl, by omega⟩
    have HXW : Rt l0 = true → Hid (∀ w, Nds w A0 l0 → Calls Tryd.prog 22 #[.slice A0 l0.length c0, .int .i64 0] w (Gives (.string (tx (wt 25 l0))) w)) := fun hr w h => by
      have h2 := xwrite_any 25 l0 [] A0 c0 0 w h (by rw [List.drop_zero]; exact (Rt_in hr).2) (Nat.le_refl _) (by omega)
      rw [List.drop_zero] at h2
      exact h2
    obtain ⟨q, hq⟩ : ∃ q, Rt l0 = q := ⟨_, rfl⟩
    rw [hq] at he2 hp2 htw HRIG HXR HXW
    have HQ := Lib.hid hq
    have HTE := Lib.hid he2; have HTN := Lib.hid hp2; have HTW := Lib.hid htw
    have HXW0 := Lib.hid HXW
    clear hq he1 he2 hp1 hp2 htw HXW
    generalize tx (wq l0).1 = s0 at *
    generalize (wq l0).2 = q0 at *
    generalize tx (wt 25 l0) = t0 at *
    generalize tx (wd a2) = sw at *
    generalize decide (2 ≤ a2 ∧ a2 ≤ 29) = kb at *
    generalize pa a2 = kp at *
    go_wp2_with (fail)
    refine (HXR.out _ HN1.out).mono ?_
    rintro e w2 ⟨rfl, hb⟩
    have HB2 := Lib.hid (Below.next HB1.out hb)
    have HK2 := Lib.hid (HK1.out.next hb)
    have HT2 := Lib.hid (HT1.out.next hb)
    have HN2 := Lib.hid (HN1.out.next hb)
    clear hb HB1 HK1 HT1 HN1
    go_wp2_with (fail)
    refine (of_any l0 A0 c0 _ HN2.out (by omega)).mono ?_
    rintro e w3 ⟨Pa, da, rfl, ho, hb⟩
    have HOa3 := Lib.hid (Nds.of_own ho)
    have hcapa := (own_cap ho).1
    clear ho
    have HB3 := Lib.hid (Below.next HB2.out hb)
    have HK3 := Lib.hid (HK2.out.next hb)
    have HT3 := Lib.hid (HT2.out.next hb)
    have HN3 := Lib.hid (HN2.out.next hb)
    clear hb HB2 HK2 HT2 HN2
    go_wp2_with (fail)
    refine (HEND.out _ _ _ HOa3.out HK3.out).mono ?_
    rintro e w4 ⟨rfl, hb⟩
    have HB4 := Lib.hid (Below.next HB3.out hb)
    have HK4 := Lib.hid (HK3.out.next hb)
    have HT4 := Lib.hid (HT3.out.next hb)
    have HN4 := Lib.hid (HN3.out.next hb)
    clear hb HB3 HK3 HT3 HN3
    go_wp2_with (fail)
    refine (of_any l0 A0 c0 _ HN4.out (by omega)).mono ?_
    rintro e w5 ⟨Pb, db, rfl, ho, hb⟩
    have HOb5 := Lib.hid (Nds.of_own ho)
    have hcapb := (own_cap ho).1
    clear ho
    have HB5 := Lib.hid (Below.next HB4.out hb)
    have HK5 := Lib.hid (HK4.out.next hb)
    have HT5 := Lib.hid (HT4.out.next hb)
    have HN5 := Lib.hid (HN4.out.next hb)
    clear hb HB4 HK4 HT4 HN4
    go_wp2_with (fail)
    refine (HNAM.out _ _ _ HOb5.out HK5.out).mono ?_
    rintro e w6 ⟨rfl, hb⟩
    have HB6 := Lib.hid (Below.next HB5.out hb)
    have HK6 := Lib.hid (HK5.out.next hb)
    have HT6 := Lib.hid (HT5.out.next hb)
    have HN6 := Lib.hid (HN5.out.next hb)
    clear hb HB5 HK5 HT5 HN5

    have hb6 := box1 w6 (.cells #[.bool p0, .bool p1, .bool p2, .bool p3, .bool p4] 38)
    have D7 := Blk.made w6 38 [.bool p0, .bool p1, .bool p2, .bool p3, .bool p4] rfl
    change Blk (w6.alloc (.cells #[.bool p0, .bool p1, .bool p2, .bool p3, .bool p4] 38)) w6.heap.size _ at D7
    have HLE7 : Hid (w.heap.size ≤ w6.heap.size) := HB6.out.size
    go_wp2_with (fail)
    generalize w6.alloc (.cells #[.bool p0, .bool p1, .bool p2, .bool p3, .bool p4] 38) = w7 at *
    have HD7 := Lib.hid D7
    have HB7 := Lib.hid (Below.next HB6.out hb6)
    have HK7 := Lib.hid (HK6.out.next hb6)
    have HT7 := Lib.hid (HT6.out.next hb6)
    have HN7 := Lib.hid (HN6.out.next hb6)
    clear hb6 D7 HB6 HK6 HT6 HN6
    generalize w6.heap.size = b10 at *
    refine (of_any l0 A0 c0 _ HN7.out (by omega)).mono ?_
    rintro e w8 ⟨Pc, dc, rfl, ho, hb⟩
    have HOc8 := Lib.hid (Nds.of_own ho)
    have hcapc := (own_cap ho).1
    clear ho
    have HB8 := Lib.hid (Below.next HB7.out hb)
    have HK8 := Lib.hid (HK7.out.next hb)
    have HT8 := Lib.hid (HT7.out.next hb)
    have HN8 := Lib.hid (HN7.out.next hb)
    have HD8 := Lib.hid (HD7.out.next hb)
    clear hb HB7 HK7 HT7 HN7 HD7
    go_wp2_with (fail)
    refine (HWRI.out _ _ _ HOc8.out HK8.out HT8.out hcapc).mono ?_
    rintro e w9 ⟨rfl, hb⟩
    have HB9 := Lib.hid (Below.next HB8.out hb)
    have HK9 := Lib.hid (HK8.out.next hb)
    have HT9 := Lib.hid (HT8.out.next hb)
    have HN9 := Lib.hid (HN8.out.next hb)
    have HD9 := Lib.hid (HD8.out.next hb)
    clear hb HB8 HK8 HT8 HN8 HD8
    go_wp2_with (fail)
    refine (HPAR.out _ HK9.out).mono ?_
    rintro e w10 ⟨rfl, hb⟩
    have HB10 := Lib.hid (Below.next HB9.out hb)
    have HK10 := Lib.hid (HK9.out.next hb)
    have HT10 := Lib.hid (HT9.out.next hb)
    have HN10 := Lib.hid (HN9.out.next hb)
    have HD10 := Lib.hid (HD9.out.next hb)
    clear hb HB9 HK9 HT9 HN9 HD9
    go_wp2_with (fail)
    refine (of_any l0 A0 c0 _ HN10.out (by omega)).mono ?_
    rintro e w11 ⟨Pd, dd, rfl, ho, hb⟩
    have HOd11 := Lib.hid (Nds.of_own ho)
    have hcapd := (own_cap ho).1
    clear ho
    have HB11 := Lib.hid (Below.next HB10.out hb)
    have HK11 := Lib.hid (HK10.out.next hb)
    have HT11 := Lib.hid (HT10.out.next hb)
    have HN11 := Lib.hid (HN10.out.next hb)
    have HD11 := Lib.hid (HD10.out.next hb)
    clear hb HB10 HK10 HT10 HN10 HD10
    go_wp2_with (fail)
    refine (HRIG.out _ _ _ HOd11.out HK11.out).mono ?_
    rintro e w12 ⟨rfl, hb⟩
    have HB12 := Lib.hid (Below.next HB11.out hb)
    have HN12 := Lib.hid (HN11.out.next hb)
    have HD12 := Lib.hid (HD11.out.next hb)
    clear hb HB11 HN11 HD11
    go_wp2_with (fail)
    refine (HWOR.out _).mono ?_
    rintro e w13 ⟨rfl, hb⟩
    have HB13 := Lib.hid (Below.next HB12.out hb)
    have HN13 := Lib.hid (HN12.out.next hb)
    have HD13 := Lib.hid (HD12.out.next hb)
    clear hb HB12 HN12 HD12
    go_wp2_with (fail)
    refine (HRPA.out _).mono ?_
    rintro e w14 ⟨rfl, hb⟩
    have HB14 := Lib.hid (Below.next HB13.out hb)
    have HN14 := Lib.hid (HN13.out.next hb)
    have HD14 := Lib.hid (HD13.out.next hb)
    clear hb HB13 HN13 HD13
    cases q with
    | false =>
      obtain ⟨rfl, rfl⟩ := HTE.out.1 rfl
      obtain ⟨rfl, rfl, rfl, rfl, rfl⟩ := HTN.out.1 rfl
      obtain ⟨rfl, rfl⟩ := HTW.out.1 rfl
      have d0 := HD14.out.c 0 _ rfl; have d1 := HD14.out.c 1 _ rfl; have d2 := HD14.out.c 2 _ rfl; have d3 := HD14.out.c 3 _ rfl; have d4 := HD14.out.c 4 _ rfl
      have hE := fun w => arr_same false false false false false w
      go_wp2_with (fail)
      go_ret
      exact ⟨rfl, HB14.out⟩
    | true =>
      have HXW := HXW0.out rfl
      clear HXW0
      have HRN := Lib.hid (Rt_names HQ.out)
      have HHL := Lib.hid (HTN.out.2 rfl)
      have HWQ := Lib.hid (HTW.out.2 rfl)
      have hbk := HTE.out.2.1 rfl
      have HEX := Lib.hid HTE.out.2.2
      clear HTE HTN HTW
      by_cases hin : 0 ≤ a1 ∧ a1 < (l0.length : Int)
      · rw [decide_eq_true hin] at hbk
        subst hbk
        obtain ⟨k, rfl, hk, hov⟩ := HEX.out rfl
        have HXE : Hid (∀ w, Nds w A0 l0 → Calls Tryd.prog 21 #[.slice A0 l0.length c0, .int .i64 (k : Int)] w (Gives (.int .i64 em) w)) := fun w h => by rw [← hov]; exact xend_any l0 A0 c0 k w h (by omega)
        have g0 : (0 : Int) ≤ (k : Int) := by omega
        have g1 : (k : Int) < (l0.length : Int) := by omega
        clear hov HEX hin
        go_wp2_with (fail)
        refine (HXE.out _ HN14.out).mono ?_
        rintro e w16 ⟨rfl, hb⟩
        have HB16 := Lib.hid (Below.next HB14.out hb)
        have HN16 := Lib.hid (HN14.out.next hb)
        have HD16 := Lib.hid (HD14.out.next hb)
        clear hb HB14 HN14 HD14
        go_wp2_with (fail)
        have hb15 := box1 w16 (.cells #[.bool false, .bool false, .bool false, .bool false, .bool false] 38)
        have D15 : Blk (w16.alloc (.cells #[.bool false, .bool false, .bool false, .bool false, .bool false] 38)) w16.heap.size (hasL l0 0) := Blk.made w16 38 (hasL l0 0) rfl
        have HLE15 : Hid (w.heap.size ≤ w16.heap.size ∧ b10 < w16.heap.size) := ⟨HB16.out.size, HD16.out.lt⟩
        generalize w16.alloc (.cells #[.bool false, .bool false, .bool false, .bool false, .bool false] 38) = w15 at *
        have HZ15 := Lib.hid D15
        have HB15 := Lib.hid (Below.next HB16.out hb15)
        have HN15 := Lib.hid (HN16.out.next hb15)
        have HD15 := Lib.hid (HD16.out.next hb15)
        clear hb15 D15 HB16 HN16 HD16
        generalize w16.heap.size = b16 at *
        go_loopw [17] (fun i wr => ∃ k : Nat, k ≤ l0.length ∧ i = .int .i64 (k : Int) ∧ Below w.heap.size w wr ∧ Nds wr A0 l0 ∧ Blk wr b10 [.bool p0, .bool p1, .bool p2, .bool p3, .bool p4] ∧ Blk wr b16 (hasL l0 k)) (fun i _ => l0.length - (intOf i).toNat)
        case atStart => exact ⟨0, Nat.zero_le _, rfl, HB15.out, HN15.out, HD15.out, HZ15.out⟩
        case round =>
          obtain ⟨k, hk, rfl, hb, hn, hd, hz⟩ := hrel
          have HB := Lib.hid hb; have HN := Lib.hid hn; have HD := Lib.hid hd; have HZ := Lib.hid hz
          clear hb hn hd hz HB15 HN15 HD15 HZ15
          by_cases hlt : k < l0.length
          · obtain ⟨G, O, rfl⟩ := HN.out.shape (by omega)
            have e0 := HN.out.cell hlt 0 _ rfl
            have e2 := HN.out.cell hlt 2 _ rfl
            rw [Nat.add_zero] at e0
            have hG := HN0.out.lt (by omega)
            have hle := HLE15.out
            by_cases ho : (nd l0 k).o = 1
            · obtain ⟨j, hj, hj5⟩ := name_in (HRN.out k hlt) ho
              have HL := Lib.hid (hasL_name hlt ho hj hj5)
              rw [ho] at e0
              rw [hj] at e2
              clear ho hj
              have z3 := HZ.out.c j _ (hasL_get l0 k hj5)
              have f3 := HZ.out.f j _ (hasL_get l0 k hj5)
              go_wp2_with (fail)
              go_roundw
              case rel => exact ⟨k + 1, by omega, by go_num, HB.out.setCell (p := ⟨b16, j, none⟩) hle.1 _, HN0.out.below (fun a e => by rw [← Option.some.inj e]; exact hG) (HB.out.setCell (p := ⟨b16, j, none⟩) hle.1 _), HD.out.put (c := b16) (by omega) j (.bool true), (HZ.out.set j (.bool true)).cast HL.out.symm⟩
              case measure => simp [intOf]; omega
            · have HL := Lib.hid (hasL_other hlt ho)
              have g1 : ((nd l0 k).o == 1) = false := beq_eq_false_iff_ne.2 ho
              clear ho
              generalize (nd l0 k).o = oo at *
              go_wp2_with (fail)
              go_roundw
              case rel => exact ⟨k + 1, by omega, by go_num, HB.out, HN.out, HD.out, HZ.out.cast HL.out.symm⟩
              case measure => simp [intOf]; omega
          · obtain rfl : k = l0.length := by omega
            have HW2 := Lib.hid (HZ.out.cast HHL.out)
            clear HZ
            go_wp2_with (fail)
            refine (HXW.out _ HN.out).mono ?_
            rintro e w20 ⟨rfl, hb⟩
            have HB20 := Lib.hid (Below.next HB.out hb)
            have HD20 := Lib.hid (HD.out.next hb)
            have HZ20 := Lib.hid (HW2.out.next hb)
            clear hb HB HN HD HW2
            have d0 := HD20.out.c 0 _ rfl; have d1 := HD20.out.c 1 _ rfl; have d2 := HD20.out.c 2 _ rfl; have d3 := HD20.out.c 3 _ rfl; have d4 := HD20.out.c 4 _ rfl
            have z0 := HZ20.out.c 0 _ rfl; have z1 := HZ20.out.c 1 _ rfl; have z2 := HZ20.out.c 2 _ rfl; have z3 := HZ20.out.c 3 _ rfl; have z4 := HZ20.out.c 4 _ rfl
            have hE := fun w => arr_same p0 p1 p2 p3 p4 w
            rcases HWQ.out with ⟨rfl, rfl, h4⟩ | ⟨rfl, rfl, h4⟩
            · have h5 : (4096 : Int) < (t0.size : Int) := by omega
              clear h4
              go_wp2_with (fail)
              go_ret
              exact ⟨rfl, HB20.out⟩
            · have h5 : (s0.size : Int) ≤ 4096 := by omega
              have h6 : ¬ (4096 : Int) < (s0.size : Int) := by omega
              clear h4
              go_wp2_with (fail)
              go_ret
              exact ⟨rfl, HB20.out⟩
      · rw [decide_eq_false hin] at hbk
        subst hbk
        by_cases g0 : 0 ≤ a1
        · have g1 : decide (a1 < (l0.length : Int)) = false := decide_eq_false (by omega)
          clear HEX hin
          go_wp2_with (fail)
          have hb15 := box1 w14 (.cells #[.bool false, .bool false, .bool false, .bool false, .bool false] 38)
          have D15 : Blk (w14.alloc (.cells #[.bool false, .bool false, .bool false, .bool false, .bool false] 38)) w14.heap.size (hasL l0 0) := Blk.made w14 38 (hasL l0 0) rfl
          have HLE15 : Hid (w.heap.size ≤ w14.heap.size ∧ b10 < w14.heap.size) := ⟨HB14.out.size, HD14.out.lt⟩
          generalize w14.alloc (.cells #[.bool false, .bool false, .bool false, .bool false, .bool false] 38) = w15 at *
          have HZ15 := Lib.hid D15
          have HB15 := Lib.hid (Below.next HB14.out hb15)
          have HN15 := Lib.hid (HN14.out.next hb15)
          have HD15 := Lib.hid (HD14.out.next hb15)
          clear hb15 D15 HB14 HN14 HD14
          generalize w14.heap.size = b16 at *
          go_loopw [17] (fun i wr => ∃ k : Nat, k ≤ l0.length ∧ i = .int .i64 (k : Int) ∧ Below w.heap.size w wr ∧ Nds wr A0 l0 ∧ Blk wr b10 [.bool p0, .bool p1, .bool p2, .bool p3, .bool p4] ∧ Blk wr b16 (hasL l0 k)) (fun i _ => l0.length - (intOf i).toNat)
          case atStart => exact ⟨0, Nat.zero_le _, rfl, HB15.out, HN15.out, HD15.out, HZ15.out⟩
          case round =>
            obtain ⟨k, hk, rfl, hb, hn, hd, hz⟩ := hrel
            have HB := Lib.hid hb; have HN := Lib.hid hn; have HD := Lib.hid hd; have HZ := Lib.hid hz
            clear hb hn hd hz HB15 HN15 HD15 HZ15
            by_cases hlt : k < l0.length
            · obtain ⟨G, O, rfl⟩ := HN.out.shape (by omega)
              have e0 := HN.out.cell hlt 0 _ rfl
              have e2 := HN.out.cell hlt 2 _ rfl
              rw [Nat.add_zero] at e0
              have hG := HN0.out.lt (by omega)
              have hle := HLE15.out
              by_cases ho : (nd l0 k).o = 1
              · obtain ⟨j, hj, hj5⟩ := name_in (HRN.out k hlt) ho
                have HL := Lib.hid (hasL_name hlt ho hj hj5)
                rw [ho] at e0
                rw [hj] at e2
                clear ho hj
                have z3 := HZ.out.c j _ (hasL_get l0 k hj5)
                have f3 := HZ.out.f j _ (hasL_get l0 k hj5)
                go_wp2_with (fail)
                go_roundw
                case rel => exact ⟨k + 1, by omega, by go_num, HB.out.setCell (p := ⟨b16, j, none⟩) hle.1 _, HN0.out.below (fun a e => by rw [← Option.some.inj e]; exact hG) (HB.out.setCell (p := ⟨b16, j, none⟩) hle.1 _), HD.out.put (c := b16) (by omega) j (.bool true), (HZ.out.set j (.bool true)).cast HL.out.symm⟩
                case measure => simp [intOf]; omega
              · have HL := Lib.hid (hasL_other hlt ho)
                have g1 : ((nd l0 k).o == 1) = false := beq_eq_false_iff_ne.2 ho
                clear ho
                generalize (nd l0 k).o = oo at *
                go_wp2_with (fail)
                go_roundw
                case rel => exact ⟨k + 1, by omega, by go_num, HB.out, HN.out, HD.out, HZ.out.cast HL.out.symm⟩
                case measure => simp [intOf]; omega
            · obtain rfl : k = l0.length := by omega
              have HW2 := Lib.hid (HZ.out.cast HHL.out)
              clear HZ
              go_wp2_with (fail)
              refine (HXW.out _ HN.out).mono ?_
              rintro e w20 ⟨rfl, hb⟩
              have HB20 := Lib.hid (Below.next HB.out hb)
              have HD20 := Lib.hid (HD.out.next hb)
              have HZ20 := Lib.hid (HW2.out.next hb)
              clear hb HB HN HD HW2
              have d0 := HD20.out.c 0 _ rfl; have d1 := HD20.out.c 1 _ rfl; have d2 := HD20.out.c 2 _ rfl; have d3 := HD20.out.c 3 _ rfl; have d4 := HD20.out.c 4 _ rfl
              have z0 := HZ20.out.c 0 _ rfl; have z1 := HZ20.out.c 1 _ rfl; have z2 := HZ20.out.c 2 _ rfl; have z3 := HZ20.out.c 3 _ rfl; have z4 := HZ20.out.c 4 _ rfl
              have hE := fun w => arr_same p0 p1 p2 p3 p4 w
              rcases HWQ.out with ⟨rfl, rfl, h4⟩ | ⟨rfl, rfl, h4⟩
              · have h5 : (4096 : Int) < (t0.size : Int) := by omega
                clear h4
                go_wp2_with (fail)
                go_ret
                exact ⟨rfl, HB20.out⟩
              · have h5 : (s0.size : Int) ≤ 4096 := by omega
                have h6 : ¬ (4096 : Int) < (s0.size : Int) := by omega
                clear h4
                go_wp2_with (fail)
                go_ret
                exact ⟨rfl, HB20.out⟩
        · have g1 : decide (0 ≤ a1) = false := decide_eq_false g0
          clear HEX hin
          go_wp2_with (fail)
          have hb15 := box1 w14 (.cells #[.bool false, .bool false, .bool false, .bool false, .bool false] 38)
          have D15 : Blk (w14.alloc (.cells #[.bool false, .bool false, .bool false, .bool false, .bool false] 38)) w14.heap.size (hasL l0 0) := Blk.made w14 38 (hasL l0 0) rfl
          have HLE15 : Hid (w.heap.size ≤ w14.heap.size ∧ b10 < w14.heap.size) := ⟨HB14.out.size, HD14.out.lt⟩
          generalize w14.alloc (.cells #[.bool false, .bool false, .bool false, .bool false, .bool false] 38) = w15 at *
          have HZ15 := Lib.hid D15
          have HB15 := Lib.hid (Below.next HB14.out hb15)
          have HN15 := Lib.hid (HN14.out.next hb15)
          have HD15 := Lib.hid (HD14.out.next hb15)
          clear hb15 D15 HB14 HN14 HD14
          generalize w14.heap.size = b16 at *
          go_loopw [17] (fun i wr => ∃ k : Nat, k ≤ l0.length ∧ i = .int .i64 (k : Int) ∧ Below w.heap.size w wr ∧ Nds wr A0 l0 ∧ Blk wr b10 [.bool p0, .bool p1, .bool p2, .bool p3, .bool p4] ∧ Blk wr b16 (hasL l0 k)) (fun i _ => l0.length - (intOf i).toNat)
          case atStart => exact ⟨0, Nat.zero_le _, rfl, HB15.out, HN15.out, HD15.out, HZ15.out⟩
          case round =>
            obtain ⟨k, hk, rfl, hb, hn, hd, hz⟩ := hrel
            have HB := Lib.hid hb; have HN := Lib.hid hn; have HD := Lib.hid hd; have HZ := Lib.hid hz
            clear hb hn hd hz HB15 HN15 HD15 HZ15
            by_cases hlt : k < l0.length
            · obtain ⟨G, O, rfl⟩ := HN.out.shape (by omega)
              have e0 := HN.out.cell hlt 0 _ rfl
              have e2 := HN.out.cell hlt 2 _ rfl
              rw [Nat.add_zero] at e0
              have hG := HN0.out.lt (by omega)
              have hle := HLE15.out
              by_cases ho : (nd l0 k).o = 1
              · obtain ⟨j, hj, hj5⟩ := name_in (HRN.out k hlt) ho
                have HL := Lib.hid (hasL_name hlt ho hj hj5)
                rw [ho] at e0
                rw [hj] at e2
                clear ho hj
                have z3 := HZ.out.c j _ (hasL_get l0 k hj5)
                have f3 := HZ.out.f j _ (hasL_get l0 k hj5)
                go_wp2_with (fail)
                go_roundw
                case rel => exact ⟨k + 1, by omega, by go_num, HB.out.setCell (p := ⟨b16, j, none⟩) hle.1 _, HN0.out.below (fun a e => by rw [← Option.some.inj e]; exact hG) (HB.out.setCell (p := ⟨b16, j, none⟩) hle.1 _), HD.out.put (c := b16) (by omega) j (.bool true), (HZ.out.set j (.bool true)).cast HL.out.symm⟩
                case measure => simp [intOf]; omega
              · have HL := Lib.hid (hasL_other hlt ho)
                have g1 : ((nd l0 k).o == 1) = false := beq_eq_false_iff_ne.2 ho
                clear ho
                generalize (nd l0 k).o = oo at *
                go_wp2_with (fail)
                go_roundw
                case rel => exact ⟨k + 1, by omega, by go_num, HB.out, HN.out, HD.out, HZ.out.cast HL.out.symm⟩
                case measure => simp [intOf]; omega
            · obtain rfl : k = l0.length := by omega
              have HW2 := Lib.hid (HZ.out.cast HHL.out)
              clear HZ
              go_wp2_with (fail)
              refine (HXW.out _ HN.out).mono ?_
              rintro e w20 ⟨rfl, hb⟩
              have HB20 := Lib.hid (Below.next HB.out hb)
              have HD20 := Lib.hid (HD.out.next hb)
              have HZ20 := Lib.hid (HW2.out.next hb)
              clear hb HB HN HD HW2
              have d0 := HD20.out.c 0 _ rfl; have d1 := HD20.out.c 1 _ rfl; have d2 := HD20.out.c 2 _ rfl; have d3 := HD20.out.c 3 _ rfl; have d4 := HD20.out.c 4 _ rfl
              have z0 := HZ20.out.c 0 _ rfl; have z1 := HZ20.out.c 1 _ rfl; have z2 := HZ20.out.c 2 _ rfl; have z3 := HZ20.out.c 3 _ rfl; have z4 := HZ20.out.c 4 _ rfl
              have hE := fun w => arr_same p0 p1 p2 p3 p4 w
              rcases HWQ.out with ⟨rfl, rfl, h4⟩ | ⟨rfl, rfl, h4⟩
              · have h5 : (4096 : Int) < (t0.size : Int) := by omega
                clear h4
                go_wp2_with (fail)
                go_ret
                exact ⟨rfl, HB20.out⟩
              · have h5 : (s0.size : Int) ≤ 4096 := by omega
                have h6 : ¬ (4096 : Int) < (s0.size : Int) := by omega
                clear h4
                go_wp2_with (fail)
                go_ret
                exact ⟨rfl, HB20.out⟩
end Go.Proofs.YtoenilppcoifpaaDoor.Ex

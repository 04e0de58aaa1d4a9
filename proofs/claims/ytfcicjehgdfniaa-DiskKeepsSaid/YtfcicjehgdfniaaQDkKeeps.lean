/-
  A text of this claim: DkKeeps.
-/
import Derived.Test.YtfcicjehgdfniaaQ2
namespace Go.Proofs.Ytfcicjehgdfniaa.Dk
open Go.ChangeShapes Go.WideShapes Go.ChangeAt Go.RowKit Go.ChangeMaps Go.Maps Go.MapKept Ov
def Mine (w : World) (d sz : Nat) (L : Ls) (wr : World) : Prop := ∃ O, IsD wr O d sz L ∧ (∀ b, O b → w.heap.size ≤ b) ∧ Below w.heap.size w wr
theorem Mine.of {w wr w2 : World} {O : Nat → Prop} {d sz : Nat} {L : Ls} (hO : ∀ b, O b → w.heap.size ≤ b) (hb : Below w.heap.size w wr) (ht : TurnsTo O d sz L wr w2) : Mine w d sz L w2 := by
 have h := ht.below hb hO
 obtain ⟨O', h1, h2, h3⟩ := ht
 exact ⟨O', h1, fun b hb' => (h3 b hb').elim (hO b) fun h => Nat.le_trans hb.size h, h⟩
theorem Mine.next {w wr w2 : World} {d sz : Nat} {L : Ls} (h : Mine w d sz L wr) (k : Below wr.heap.size wr w2) : Mine w d sz L w2 := by
 obtain ⟨O, h1, h2, h3⟩ := h
 exact ⟨O, h1.next k, h2, Below.next h3 k⟩
theorem Mine.bel {w wr : World} {d sz : Nat} {L : Ls} (h : Mine w d sz L wr) : Below w.heap.size w wr := by
 obtain ⟨O, h1, h2, h3⟩ := h; exact h3
theorem IsD.srt {w : World} {O : Nat → Prop} {d sz : Nat} {L : Ls} (h : IsD w O d sz L) : Srt L := by
 obtain ⟨m, E, h, rfl⟩ := h; exact h.sL
theorem Acs.old {w wr : World} {A : Option Addr} {l : List Ac} (h : Acs w A l) (k : Below w.heap.size w wr) : Acs wr A l := h.kp (Below.kp (fun _ => False) k) fun _ _ h => h.elim
theorem gt_set (n m s' : List UInt8) (hne : m ≠ n) : ∀ L : Ls, gt m (L.map fun x => (x.1, if x.1 = n then s' else x.2)) = gt m L
 | [] => rfl
 | y :: r => by
   have ih := gt_set n m s' hne r
   unfold gt at ih ⊢
   rw [List.map_cons, List.find?_cons, List.find?_cons]
   by_cases e : y.1 = m
   · have h1 : (y.1 == m) = true := by rw [e]; exact beq_self_eq_true m
     have h2 : ¬ y.1 = n := fun q => hne (e.symm.trans q)
     dsimp only
     rw [h1, if_neg h2]
   · have h1 : (y.1 == m) = false := beq_eq_false_iff_ne.2 e
     dsimp only
     rw [h1]
     exact ih
theorem keep_stp {sz : Nat} {L : Ls} {x : Ac} {n : List UInt8} (hs : Srt L) (hne : n ≠ x.n.data.toList) (h7 : x.o.toNat % 8 ≠ 7) : gt n (stp sz L x).1 = gt n L := by
 unfold stp
 split
 · rfl
 split
 · rw [gt_rm _ _ _ hs, if_neg hne]
 split
 · show gt n ((spo x.n.data.toList x.i x.b L).getD L) = _
   unfold spo
   split
   · split
     · rfl
     · exact gt_set _ _ _ hne L
   · rfl
 · show gt n (wrt sz x.n.data.toList x.s.data.toList L).2 = _
   unfold wrt
   split
   · rfl
   split
   · rfl
   · show gt n (pt _ _ L) = _
     rw [gt_pt _ _ _ _ hs, if_neg hne]
theorem lose_stp {sz : Nat} {L : Ls} {x : Ac} (h7 : x.o.toNat % 8 = 7) : (stp sz L x).1 = [] := by
 unfold stp
 rw [if_neg (by omega), if_neg (by omega), if_neg (by omega), if_pos h7]
theorem wrt_cases (sz : Nat) (n s : List UInt8) : (∃ c : Nat, c ≠ 0 ∧ c ≤ 9 ∧ wrt sz n s [] = (c, [])) ∨ wrt sz n s [] = (0, [(n, s)]) := by
 unfold wrt
 split
 · exact .inl ⟨1, by decide, by decide, rfl⟩
 split
 · exact .inl ⟨9, by decide, by decide, rfl⟩
 · exact .inr rfl
theorem tol_eq {a b : ByteArray} : (a.toList == b.toList) = decide (a.data.toList = b.data.toList) := by
 rw [ByteArray.toList_eq, ByteArray.toList_eq]
 by_cases h : a.data.toList = b.data.toList
 · rw [decide_eq_true h, beq_iff_eq.2 h]
 · rw [decide_eq_false h, beq_eq_false_iff_ne.2 h]
set_option maxHeartbeats 8000000 in
set_option maxRecDepth 100000 in
theorem keeps_core (size : Int) (A : Option Addr) (c : Nat) (l : List Ac) (name s : ByteArray) (w : World) (hA : Acs w A l) (hn : name.size ≤ maxLen) (hs : s.size ≤ 140737488355328) :
 Calls Try.prog 3 #[.int .i64 size, .slice A l.length c, .string name, .string s] w (Gives (.bool true) w) := by
 have HA := Lib.hid hA
 have HAW := Lib.hid (awake_any w)
 clear hA
 go_enter Try.func3, Try.ntmps3
 go_wp2_with (fail)
 refine HAW.out.mono ?_
 rintro e w1 ⟨rfl, hb1⟩
 have HB1 := Lib.hid hb1
 have HF := Lib.hid (few_any A c l w1 (HA.out.old hb1))
 clear hb1 HAW
 go_wp2_with (fail)
 refine HF.out.mono ?_
 rintro e w2 ⟨q, rfl, hb2, hq⟩
 have HB2 := Lib.hid (Below.next HB1.out hb2)
 have HQ := Lib.hid hq
 clear hb2 hq HF HB1
 cases q with
 | false =>
   go_wp2_with (fail)
   refine (awake_any w2).mono ?_
   rintro e w3 ⟨rfl, hb⟩
   have HB3 := Lib.hid (Below.next HB2.out hb)
   clear hb
   go_wp2_with (fail)
   go_ret
   exact ⟨rfl, HB3.out⟩
 | true =>
   have HL := Lib.hid (HQ.out rfl)
   clear HQ
   by_cases hsz : 0 ≤ size ∧ size ≤ 4194304
   · obtain ⟨sz, rfl⟩ : ∃ sz : Nat, size = (sz : Int) := ⟨size.toNat, by omega⟩
     have hz : sz ≤ 4194304 := by omega
     have hnw := new_yes sz hz w2
     clear hsz
     go_wp2_with (fail)
     refine hnw.mono ?_
     rintro e w3 ⟨rfl, h3, hb3⟩
     obtain ⟨D, hD⟩ : ∃ D, w2.heap.size + 1 = D := ⟨_, rfl⟩
     rw [hD] at h3 ⊢
     have hM3 : Mine w D sz [] w3 := ⟨_, h3, fun b hb => Nat.le_trans HB2.out.size (nO_lo hb), Below.next HB2.out hb3⟩
     obtain ⟨O3, h3', hO3, hb3'⟩ := hM3
     have hwr := write_any name s (by omega) w3 h3'
     have HW := Lib.hid hwr
     have HO3 := Lib.hid hO3; have HB3 := Lib.hid hb3'
     clear hnw h3 hb3 h3' hO3 hb3' hwr hD
     go_wp2_with (fail)
     refine HW.out.mono ?_
     rintro e w4 ⟨rfl, ht⟩
     have hM4 := Mine.of HO3.out HB3.out ht
     clear ht HW
     rcases wrt_cases sz name.data.toList s.data.toList with ⟨k, hk0, hk9, hk⟩ | hk
     · rw [hk] at hM4 ⊢
       dsimp only at hM4 ⊢
       have t0 : ((k : Int) == 0) = false := beq_eq_false_iff_ne.2 (by omega)
       have HM4 := Lib.hid hM4
       obtain ⟨O4, h4, _, _⟩ := hM4
       have hr := read_any name hn w4 h4
       change Calls _ _ _ w4 (Gives (.tuple #[.string ⟨#[]⟩, .int .i64 8]) w4) at hr
       have HR := Lib.hid hr
       clear h4 hr hk hk0 hk9
       go_wp2_with (fail)
       refine HR.out.mono ?_
       rintro e w5 ⟨rfl, hb⟩
       have HB5 := Lib.hid (HM4.out.next hb).bel
       clear hb
       go_wp2_with (fail)
       go_ret
       exact ⟨rfl, HB5.out⟩
     · rw [hk] at hM4 ⊢
       dsimp only at hM4 ⊢
       have HM4 := Lib.hid hM4
       clear hM4 hk
       go_wp2_with (fail)
       go_loopg [13] l.length (fun kx s13 wr => ∃ (i : Nat) (L : Ls), i ≤ l.length ∧ l.length - i ≤ kx ∧ s13 = .int .i64 (i : Int) ∧ Hid (Mine w D sz L wr) ∧ Hid (gt name.data.toList L = some s.data.toList))
       case atStart => exact ⟨0, _, by omega, by omega, rfl, HM4, Lib.hid (by simp [gt])⟩
       case round =>
        clear HM4
        obtain ⟨i, L, hi, hkx, rfl, HM0, HG0⟩ := hrel
        have hM := HM0.out
        have hl100 := HL.out.1
        by_cases hlt : i < l.length
        · have hltz : (i : Int) < (l.length : Int) := by omega
          have hAr := HA.out.old hM.bel
          obtain ⟨G, Q, rfl⟩ := hAr.shape (by omega)
          have k0 := hAr.cell hlt 0 _ rfl; have k1 := hAr.cell hlt 1 _ rfl; have k2 := hAr.cell hlt 2 _ rfl; have k3 := hAr.cell hlt 3 _ rfl; have k4 := hAr.cell hlt 4 _ rfl
          rw [Nat.add_zero] at k0
          have hmx := HL.out.2 _ (ad_mem hlt)
          clear hAr hM
          obtain ⟨x, hx⟩ : ∃ x, ad l i = x := ⟨_, rfl⟩
          rw [hx] at k0 k1 k2 k3 k4 hmx
          have HX := Lib.hid hx
          clear hx
          have hx8 := rem_u8 x.o
          have hr8 : x.o.toNat % 8 < 8 := Nat.mod_lt _ (by omega)
          have hst := fun (OO : Nat → Prop) (h : IsD wr OO D sz L) => done_any x (Nat.le_trans hmx.1 (by unfold maxLen; omega)) (Nat.le_trans hmx.2 (by omega)) wr h
          have hkeep := fun (h : Srt L) (h1 : name.data.toList ≠ x.n.data.toList) (h7 : x.o.toNat % 8 ≠ 7) => keep_stp (sz := sz) h h1 h7
          have hlose := fun (h7 : x.o.toNat % 8 = 7) => lose_stp (sz := sz) (L := L) h7
          have HST := Lib.hid hst; have HKP := Lib.hid hkeep; have HLS := Lib.hid hlose
          clear hst hkeep hlose
          obtain ⟨L2, hL2⟩ : ∃ L2, (stp sz L x).1 = L2 := ⟨_, rfl⟩
          rw [hL2] at HKP HLS
          have HL2 := Lib.hid hL2
          clear hL2
          obtain ⟨r, hrr⟩ : ∃ r, x.o.toNat % 8 = r := ⟨_, rfl⟩
          rw [hrr] at hx8 hr8 HKP HLS
          by_cases hxn : x.n.data.toList = name.data.toList
          · have t1 : (x.n.toList == name.toList) = true := by rw [tol_eq]; exact decide_eq_true hxn
            have hM2 := HM0.out; have hg2 := HG0.out
            clear hmx hxn hrr HST HKP HLS HL2 HM0 HG0
            by_cases e7 : r = 7
            · have t7 : ((r : Int) == 7) = true := by rw [e7]; rfl
              clear e7 hr8
              have HG := Lib.hid hg2
              have HM := Lib.hid hM2
              obtain ⟨OO, hI, _, _⟩ := hM2
              have hr := read_any name hn _ hI
              rw [hg2] at hr
              change Calls _ _ _ _ (Gives (.tuple #[.string (tx s.data.toList), .int .i64 0]) _) at hr
              rw [tx_of] at hr
              have HR := Lib.hid hr
              clear hI hr hg2
              go_wp2_with (fail)
              refine HR.out.mono ?_
              rintro e w6 ⟨rfl, hb6⟩
              have hM6 := HM.out.next hb6
              have HM6 := Lib.hid hM6
              obtain ⟨OO6, hI6, _, _⟩ := hM6
              have HRM := Lib.hid (room_any w6 hI6)
              obtain ⟨rm6, hrm6⟩ : ∃ k : Nat, sz - us L = k := ⟨_, rfl⟩
              rw [hrm6] at HRM
              have tr : decide ((rm6 : Int) < 0) = false := decide_eq_false (by omega)
              have tss : (s.toList == s.toList) = true := beq_self_eq_true _
              clear hb6 hI6 HR HM hrm6
              go_wp2_with (fail)
              refine HRM.out.mono ?_
              rintro e w7 ⟨rfl, hb7⟩
              have HM7 := Lib.hid (HM6.out.next hb7)
              clear hb7 HRM HM6
              go_wp2_with (fail)
              go_roundg (l.length - (i + 1))
              case measure => omega
              case rel => exact ⟨i + 1, _, by omega, Nat.le_refl _, by go_num, HM7, HG⟩
            · have t7 : ((r : Int) == 7) = false := beq_eq_false_iff_ne.2 (by omega)
              clear e7 hr8
              have HG := Lib.hid hg2
              have HM := Lib.hid hM2
              obtain ⟨OO, hI, _, _⟩ := hM2
              have hr := read_any name hn _ hI
              rw [hg2] at hr
              change Calls _ _ _ _ (Gives (.tuple #[.string (tx s.data.toList), .int .i64 0]) _) at hr
              rw [tx_of] at hr
              have HR := Lib.hid hr
              clear hI hr hg2
              go_wp2_with (fail)
              refine HR.out.mono ?_
              rintro e w6 ⟨rfl, hb6⟩
              have hM6 := HM.out.next hb6
              have HM6 := Lib.hid hM6
              obtain ⟨OO6, hI6, _, _⟩ := hM6
              have HRM := Lib.hid (room_any w6 hI6)
              obtain ⟨rm6, hrm6⟩ : ∃ k : Nat, sz - us L = k := ⟨_, rfl⟩
              rw [hrm6] at HRM
              have tr : decide ((rm6 : Int) < 0) = false := decide_eq_false (by omega)
              have tss : (s.toList == s.toList) = true := beq_self_eq_true _
              clear hb6 hI6 HR HM hrm6
              go_wp2_with (fail)
              refine HRM.out.mono ?_
              rintro e w7 ⟨rfl, hb7⟩
              have HM7 := Lib.hid (HM6.out.next hb7)
              clear hb7 HRM HM6
              go_wp2_with (fail)
              go_roundg (l.length - (i + 1))
              case measure => omega
              case rel => exact ⟨i + 1, _, by omega, Nat.le_refl _, by go_num, HM7, HG⟩
          · have t1 : (x.n.toList == name.toList) = false := by rw [tol_eq]; exact decide_eq_false hxn
            obtain ⟨OA, hIA, hOA, hBA⟩ := HM0.out
            have hd := HST.out OA hIA
            have hsrt := hIA.srt
            have hxn2 : name.data.toList ≠ x.n.data.toList := fun e => hxn e.symm
            unfold DoneQ at hd
            rw [HL2.out] at hd
            change Calls _ _ #[_, .agg #[.int .u8 (x.o.toNat : Int), .string x.n, .string x.s, .int .i64 x.i, .int .u8 (x.b.toNat : Int)]] _ _ at hd
            have HD := Lib.hid hd; have HOA := Lib.hid hOA; have HBA := Lib.hid hBA
            have HAA := HA
            generalize (stp sz L x).2.1 = ans at HD
            generalize (stp sz L x).2.2 = cod at HD
            by_cases e7 : r = 7
            · have t7 : ((r : Int) == 7) = true := by rw [e7]; rfl
              have hE : L2 = [] := HLS.out e7
              subst hE
              clear hd hIA hOA hBA hsrt hxn hxn2 e7 hr8 hrr hmx HST HKP HLS HM0 HG0 HL2
              go_wp2_with (fail)
              refine HD.out.mono ?_
              rintro e w5 ⟨rfl, ht⟩
              have hM5 := Mine.of HOA.out HBA.out ht
              have hA5 := HA.out.old hM5.bel
              have HM5 := Lib.hid hM5
              obtain ⟨OO5, hI5, _, _⟩ := hM5
              have hr5 := read_any name hn w5 hI5
              change Calls _ _ _ w5 (Gives (.tuple #[.string ⟨#[]⟩, .int .i64 8]) w5) at hr5
              have HR5 := Lib.hid hr5
              have j0 := hA5.cell hlt 0 _ rfl; have j1 := hA5.cell hlt 1 _ rfl
              rw [Nat.add_zero, HX.out] at j0
              rw [HX.out] at j1
              clear ht hr5 hI5 hA5 k0 k1 k2 k3 k4
              go_wp2_with (fail)
              refine HR5.out.mono ?_
              rintro e w6 ⟨rfl, hb6⟩
              have HB6 := Lib.hid (HM5.out.next hb6).bel
              clear hb6
              go_wp2_with (fail)
              go_ret
              exact ⟨rfl, HB6.out⟩
            · have t7 : ((r : Int) == 7) = false := beq_eq_false_iff_ne.2 (by omega)
              have hg2 : gt name.data.toList L2 = some s.data.toList := (HKP.out hsrt hxn2 e7).trans HG0.out
              have HG2 := Lib.hid hg2
              clear hd hIA hOA hBA hsrt hxn hxn2 e7 hr8 hrr hmx HST HKP HLS HM0 HG0 HL2 hg2
              go_wp2_with (fail)
              refine HD.out.mono ?_
              rintro e w5 ⟨rfl, ht⟩
              have hM2 := Mine.of HOA.out HBA.out ht
              have hA5 := HA.out.old hM2.bel
              have hg2 := HG2.out
              have j0 := hA5.cell hlt 0 _ rfl; have j1 := hA5.cell hlt 1 _ rfl
              rw [Nat.add_zero, HX.out] at j0
              rw [HX.out] at j1
              clear ht hA5 k0 k1 k2 k3 k4 HG2
              have HG := Lib.hid hg2
              have HM := Lib.hid hM2
              obtain ⟨OO, hI, _, _⟩ := hM2
              have hr := read_any name hn _ hI
              rw [hg2] at hr
              change Calls _ _ _ _ (Gives (.tuple #[.string (tx s.data.toList), .int .i64 0]) _) at hr
              rw [tx_of] at hr
              have HR := Lib.hid hr
              clear hI hr hg2
              go_wp2_with (fail)
              refine HR.out.mono ?_
              rintro e w6 ⟨rfl, hb6⟩
              have hM6 := HM.out.next hb6
              have HM6 := Lib.hid hM6
              obtain ⟨OO6, hI6, _, _⟩ := hM6
              have HRM := Lib.hid (room_any w6 hI6)
              obtain ⟨rm6, hrm6⟩ : ∃ k : Nat, sz - us L2 = k := ⟨_, rfl⟩
              rw [hrm6] at HRM
              have tr : decide ((rm6 : Int) < 0) = false := decide_eq_false (by omega)
              have tss : (s.toList == s.toList) = true := beq_self_eq_true _
              clear hb6 hI6 HR HM hrm6
              go_wp2_with (fail)
              refine HRM.out.mono ?_
              rintro e w7 ⟨rfl, hb7⟩
              have HM7 := Lib.hid (HM6.out.next hb7)
              clear hb7 HRM HM6
              go_wp2_with (fail)
              go_roundg (l.length - (i + 1))
              case measure => omega
              case rel => exact ⟨i + 1, _, by omega, Nat.le_refl _, by go_num, HM7, HG⟩
        · have hltz : ¬ (i : Int) < (l.length : Int) := by omega
          have HB := Lib.hid hM.bel
          clear hM
          go_wp2_with (fail)
          go_ret
          exact ⟨rfl, HB.out⟩
   · have hnw := new_no size hsz w2
     have HSZ := Lib.hid hsz
     clear hsz
     go_wp2_with (fail)
     refine hnw.mono ?_
     rintro e w3 ⟨rfl, hb⟩
     have HB3 := Lib.hid (Below.next HB2.out hb)
     clear hb hnw
     go_wp2_with (fail)
     go_ret
     exact ⟨rfl, HB3.out⟩
end Go.Proofs.Ytfcicjehgdfniaa.Dk

/-
  Small texts of this claim, together: ErStepsW.
-/
import Derived.Test.YtcdjincaedpodaaGreatDoorQErRunY
import Derived.Test.YtcdjincaedpodaaGreatDoorQ11
import Derived.Test.YtcdjincaedpodaaGreatDoorQ8
import Derived.Test.YtcdjincaedpodaaGreatDoorQ7
import Derived.Test.YtcdjincaedpodaaGreatDoorQEvDeed1
import Derived.Deep.RegionHeld3
import Derived.Deep.CutRange
import Derived.Deep.Cut
namespace Go.Proofs.YtcdjincaedpodaaGreatDoor.Ev
open Go.ChangeShapes Go.WideShapes Go.ChangeAt Go.RowKit Ov Va Ga Ex
set_option maxRecDepth 100000 in
set_option maxHeartbeats 8000000 in
theorem steps_core (A : Option Addr) (c : Nat) (l : List No) (k : List UInt8) (v a : Va) (w : World) (hn : Nds w A l) (hT : Tab w) (hK : KN w) : Calls Tryz.prog 6 #[.slice A l.length c, .agg #[.string (tx k), .int .i64 v.k, .int .i64 v.n, .string (tx v.s), .int .i64 v.x, .int .i64 v.y, .int .i64 a.k, .int .i64 a.n, .string (tx a.s), .int .i64 a.x, .int .i64 a.y]] w (Gives (.bool true) w) := by
 have HAW := Lib.hid (fun w1 (h : Below w.heap.size w w1) => awake9_any w1 (hK.next h) (hT.next h))
 have HNl := Lib.hid hn
 have HB0 : Hid (Below w.heap.size w w) := Below.refl _ _
 have HOF := Lib.hid (fun w1 (h : Below w.heap.size w w1) (h1 : l.length ≤ 1000) => of_any l A c w1 (hn.next h) h1)
 have HRF := Lib.hid (fun (n : Int) w1 (h : Below w.heap.size w w1) (h1 : l.length ≤ 1000) => mrun_any l A c k v a n w1 (hn.next h) (hK.next h) (hT.next h) (by omega))
 have HST := Lib.hid (fun w1 (h : Below w.heap.size w w1) (Ap : Option Addr) (cp : Nat) (hp : Nds w1 Ap l) (h1 : l.length ≤ 1000) => steps_any l Ap cp k v a w1 hp (hK.next h) (hT.next h) (by omega))
 clear hn hT hK
 go_enter Tryz.func6, Tryz.ntmps6
 go_wp2_with (fail)
 have HB1 := Lib.hid (Below.next HB0.out (box1 w (.cells #[.string (tx k), .int .i64 v.k, .int .i64 v.n, .string (tx v.s), .int .i64 v.x, .int .i64 v.y, .int .i64 a.k, .int .i64 a.n, .string (tx a.s), .int .i64 a.x, .int .i64 a.y] 28)))
 have HE1 : Hid (Blk (w.alloc (.cells #[.string (tx k), .int .i64 v.k, .int .i64 v.n, .string (tx v.s), .int .i64 v.x, .int .i64 v.y, .int .i64 a.k, .int .i64 a.n, .string (tx a.s), .int .i64 a.x, .int .i64 a.y] 28)) w.heap.size [.string (tx k), .int .i64 v.k, .int .i64 v.n, .string (tx v.s), .int .i64 v.x, .int .i64 v.y, .int .i64 a.k, .int .i64 a.n, .string (tx a.s), .int .i64 a.x, .int .i64 a.y]) := Blk.made w 28 [.string (tx k), .int .i64 v.k, .int .i64 v.n, .string (tx v.s), .int .i64 v.x, .int .i64 v.y, .int .i64 a.k, .int .i64 a.n, .string (tx a.s), .int .i64 a.x, .int .i64 a.y] rfl
 obtain ⟨w1, hw1⟩ : ∃ w1, w.alloc (.cells #[.string (tx k), .int .i64 v.k, .int .i64 v.n, .string (tx v.s), .int .i64 v.x, .int .i64 v.y, .int .i64 a.k, .int .i64 a.n, .string (tx a.s), .int .i64 a.x, .int .i64 a.y] 28) = w1 := ⟨_, rfl⟩
 rw [hw1] at HB1 HE1
 rw [hw1]
 skip
 clear HB0   hw1 
 have hltE := HE1.out.lt
 go_wp2_with (fail)
 refine (HAW.out _ HB1.out).mono ?_
 rintro e w2 ⟨rfl, hb⟩
 have HB2 := Lib.hid (Below.next HB1.out hb)
 have HE2 := Lib.hid (HE1.out.next hb)
 clear HB1 HE1  hb
 have hltE_ := HE2.out.lt
 obtain ⟨qE0, qE1, qE2, qE3, qE4, qE5, qE6, qE7, qE8, qE9, qE10⟩ := ck11 HE2.out
 go_wp2_with (fail)
 refine (few9_any l A c k v a _ (HNl.out.next HB2.out)).mono ?_
 rintro e w3 ⟨fb, rfl, hb, h01⟩
 have HB3 := Lib.hid (Below.next HB2.out hb)
 have HE3 := Lib.hid (HE2.out.next hb)
 clear HB2 HE2 hltE_ qE0 qE1 qE2 qE3 qE4 qE5 qE6 qE7 qE8 qE9 qE10 hb
 rcases h01 with rfl | ⟨rfl, hlen⟩
 · skip
   go_wp2_with (fail)
   refine (HAW.out _ HB3.out).mono ?_
   rintro e w4 ⟨rfl, hb⟩
   have HB4 := Lib.hid (Below.next HB3.out hb)
   have HE4 := Lib.hid (HE3.out.next hb)
   clear HB3 HE3  hb
   go_wp2_with (fail)
   go_ret
   exact ⟨rfl, HB4.out⟩
 have hltE_ := HE3.out.lt
 obtain ⟨qE0, qE1, qE2, qE3, qE4, qE5, qE6, qE7, qE8, qE9, qE10⟩ := ck11 HE3.out
 go_wp2_with (fail)
 refine (HRF.out 3000 _ HB3.out (by omega)).mono ?_
 rintro e w4 ⟨hb, hq1⟩
 have HB4 := Lib.hid (Below.next HB3.out hb)
 have HE4 := Lib.hid (HE3.out.next hb)
 clear HB3 HE3 hltE_ qE0 qE1 qE2 qE3 qE4 qE5 qE6 qE7 qE8 qE9 qE10 hb
 obtain ⟨X, hX⟩ : ∃ X, rnX l k v a 3000 = X := ⟨_, rfl⟩
 have HX := Lib.hid hX
 rw [hX] at hq1
 clear hX
 cases X with
 | er x =>
   obtain ⟨hx0, rfl⟩ := hq1
   by_cases h15 : x = 15
   · subst h15
     go_wp2_with (fail)
     go_ret
     exact ⟨rfl, Below.next HB4.out (box1 _ _)⟩
   · have hx15 : (x == 15) = false := by simpa using h15
     have hx1 : (x != 0) = true := by simpa using hx0
     have hmore := rnX_er_more (n := 3000) (j := 97000) HX.out (by omega) h15 (by omega)
     have HST2 : Hid (stv (rnX l k v a 100000) = .tuple #[.int .i64 0, .int .i64 x]) := by
      show _ = _
      rw [show (100000 : Int) = ((3000 + 97000 : Nat) : Int) from rfl, hmore]; rfl
     rw [HST2.out] at HST
     clear hmore h15 hx0
     go_upto_region 4 with fail
     have HB5 := Lib.hid (Below.next HB4.out (box1 w4 (.cells zz 26)))
     have HE5 := Lib.hid (HE4.out.next (box1 w4 (.cells zz 26)))
     have HV5 : Hid (Blk (w4.alloc (.cells zz 26)) w4.heap.size zz) := Blk.made w4 26 zz rfl
     obtain ⟨w5, hw5⟩ : ∃ w5, w4.alloc (.cells zz 26) = w5 := ⟨_, rfl⟩
     rw [hw5] at HB5 HE5 HV5
     rw [hw5]
     obtain ⟨bV, hbV⟩ : ∃ b, w4.heap.size = b := ⟨_, rfl⟩
     rw [hbV] at HV5
     simp only [hbV]
     clear HB4 HE4  hw5 hbV
     go_upto_region 6 with fail
     go_cut [9, 10] from 35 to 41 (fun sn se wx => sn = .int .i64 0 ∧ se = .int .i64 x ∧ Below w.heap.size w wx)
     case first =>
      have hltE_ := HE5.out.lt
      obtain ⟨qE0, qE1, qE2, qE3, qE4, qE5, qE6, qE7, qE8, qE9, qE10⟩ := ck11 HE5.out
      go_region_held3 (fun w' => w'.cell? ⟨w.heap.size, 0, none⟩ = some (.string (tx k)) ∧ w'.cell? ⟨w.heap.size, 1, none⟩ = some (.int .i64 v.k) ∧ w'.cell? ⟨w.heap.size, 2, none⟩ = some (.int .i64 v.n) ∧ w'.cell? ⟨w.heap.size, 3, none⟩ = some (.string (tx v.s)) ∧ w'.cell? ⟨w.heap.size, 4, none⟩ = some (.int .i64 v.x) ∧ w'.cell? ⟨w.heap.size, 5, none⟩ = some (.int .i64 v.y) ∧ w'.cell? ⟨w.heap.size, 6, none⟩ = some (.int .i64 a.k) ∧ w'.cell? ⟨w.heap.size, 7, none⟩ = some (.int .i64 a.n) ∧ w'.cell? ⟨w.heap.size, 8, none⟩ = some (.string (tx a.s)) ∧ w'.cell? ⟨w.heap.size, 9, none⟩ = some (.int .i64 a.x) ∧ w'.cell? ⟨w.heap.size, 10, none⟩ = some (.int .i64 a.y)) (go_keep)
       (first
       | (go_at_call 10
          refine (HOF.out _ (below_drewN HB5.out 1) (by omega)).mono ?_
          rintro eo w6 ⟨Ap, cp, rfl, hop, hb⟩
          have hW : Below w5.heap.size w5 _ := below_drewN (Below.refl _ _) 1
          have HB6 := Lib.hid (Below.next (below_drewN HB5.out 1) hb)
          have HE6 := Lib.hid ((HE5.out.next hW).next hb)
          have HP6 : Hid (Nds w6 Ap l) := Nds.of_own hop
          obtain ⟨mE0, mE1, mE2, mE3, mE4, mE5, mE6, mE7, mE8, mE9, mE10⟩ := ck11 HE6.out; have hltEm := HE6.out.lt
          clear hop hb hW)
       | (go_at_call 12
          refine (HST.out _ HB6.out Ap cp HP6.out (by omega)).mono ?_
          rintro eo w7 ⟨rfl, hb⟩
          have HB7 := Lib.hid (Below.next HB6.out hb)
          have HE7 := Lib.hid (HE6.out.next hb)
          obtain ⟨nE0, nE1, nE2, nE3, nE4, nE5, nE6, nE7, nE8, nE9, nE10⟩ := ck11 HE7.out; have hltEn := HE7.out.lt
          clear hb))
      all_goals (rename_i hHd; clear hHd)
      all_goals go_wp2_with fail
      all_goals go_meet
      exact ⟨rfl, rfl, HB7.out⟩
     case rest =>
     obtain ⟨rfl, rfl, hB⟩ := hcut
     have HB6 := Lib.hid hB
     clear hB HB5 HE5 HV5
     generalize wc = w6 at *
     go_wp2_with (fail)
     go_ret
     exact ⟨by simp, HB6.out⟩
 | ok u S m =>
   obtain ⟨A2, c2, _, rfl⟩ := hq1
   obtain ⟨N, hNm, hN0, hall, hlast⟩ := rnX_ok_all (n := 3000) HX.out
   have HALL := Lib.hid hall
   clear hall hlast
   have HST2 : Hid (stv (rnX l k v a 100000) = .tuple #[.int .i64 (N : Int), .int .i64 0]) := by
    show _ = _
    have h := HALL.out (100000 - N) (by omega)
    rw [show ((N + (100000 - N) : Nat) : Int) = 100000 by omega] at h
    rw [h]
    show Value.tuple #[.int .i64 (100000 - ((100000 - N : Nat) : Int)), .int .i64 0] = _
    rw [show (100000 - ((100000 - N : Nat) : Int)) = (N : Int) by omega]
   rw [HST2.out] at HST
   have hmm : (m : Int) ≤ 3000 := by omega
   have hNm2 : ((N : Int) == 3000 - (m : Int)) = true := by rw [beq_iff_eq]; omega
   go_upto_region 4 with fail
   have HB5 := Lib.hid (Below.next HB4.out (box1 w4 (.cells u 26)))
   have HE5 := Lib.hid (HE4.out.next (box1 w4 (.cells u 26)))
   have HV5 : Hid (Blk (w4.alloc (.cells u 26)) w4.heap.size u) := Blk.made w4 26 u rfl
   obtain ⟨w5, hw5⟩ : ∃ w5, w4.alloc (.cells u 26) = w5 := ⟨_, rfl⟩
   rw [hw5] at HB5 HE5 HV5
   rw [hw5]
   obtain ⟨bV, hbV⟩ : ∃ b, w4.heap.size = b := ⟨_, rfl⟩
   rw [hbV] at HV5
   simp only [hbV]
   clear HB4 HE4  hw5 hbV
   go_upto_region 6 with fail
   go_cut [9, 10] from 35 to 41 (fun sn se wx => sn = .int .i64 (N : Int) ∧ se = .int .i64 0 ∧ Below w.heap.size w wx)
   case first =>
    have hltE_ := HE5.out.lt
    obtain ⟨qE0, qE1, qE2, qE3, qE4, qE5, qE6, qE7, qE8, qE9, qE10⟩ := ck11 HE5.out
    go_region_held3 (fun w' => w'.cell? ⟨w.heap.size, 0, none⟩ = some (.string (tx k)) ∧ w'.cell? ⟨w.heap.size, 1, none⟩ = some (.int .i64 v.k) ∧ w'.cell? ⟨w.heap.size, 2, none⟩ = some (.int .i64 v.n) ∧ w'.cell? ⟨w.heap.size, 3, none⟩ = some (.string (tx v.s)) ∧ w'.cell? ⟨w.heap.size, 4, none⟩ = some (.int .i64 v.x) ∧ w'.cell? ⟨w.heap.size, 5, none⟩ = some (.int .i64 v.y) ∧ w'.cell? ⟨w.heap.size, 6, none⟩ = some (.int .i64 a.k) ∧ w'.cell? ⟨w.heap.size, 7, none⟩ = some (.int .i64 a.n) ∧ w'.cell? ⟨w.heap.size, 8, none⟩ = some (.string (tx a.s)) ∧ w'.cell? ⟨w.heap.size, 9, none⟩ = some (.int .i64 a.x) ∧ w'.cell? ⟨w.heap.size, 10, none⟩ = some (.int .i64 a.y)) (go_keep)
     (first
     | (go_at_call 10
        refine (HOF.out _ (below_drewN HB5.out 1) (by omega)).mono ?_
        rintro eo w6 ⟨Ap, cp, rfl, hop, hb⟩
        have hW : Below w5.heap.size w5 _ := below_drewN (Below.refl _ _) 1
        have HB6 := Lib.hid (Below.next (below_drewN HB5.out 1) hb)
        have HE6 := Lib.hid ((HE5.out.next hW).next hb)
        have HP6 : Hid (Nds w6 Ap l) := Nds.of_own hop
        obtain ⟨mE0, mE1, mE2, mE3, mE4, mE5, mE6, mE7, mE8, mE9, mE10⟩ := ck11 HE6.out; have hltEm := HE6.out.lt
        clear hop hb hW)
     | (go_at_call 12
        refine (HST.out _ HB6.out Ap cp HP6.out (by omega)).mono ?_
        rintro eo w7 ⟨rfl, hb⟩
        have HB7 := Lib.hid (Below.next HB6.out hb)
        have HE7 := Lib.hid (HE6.out.next hb)
        obtain ⟨nE0, nE1, nE2, nE3, nE4, nE5, nE6, nE7, nE8, nE9, nE10⟩ := ck11 HE7.out; have hltEn := HE7.out.lt
        clear hb))
    all_goals (rename_i hHd; clear hHd)
    all_goals go_wp2_with fail
    all_goals go_meet
    exact ⟨rfl, rfl, HB7.out⟩
   case rest =>
   obtain ⟨rfl, rfl, hB⟩ := hcut
   have HB6 := Lib.hid hB
   clear hB HB5 HE5 HV5
   generalize wc = w6 at *
   go_wp2_with (fail)
   go_ret
   exact ⟨by simp, HB6.out⟩
end Go.Proofs.YtcdjincaedpodaaGreatDoor.Ev

/-
  A text of this claim: ErPlaysW.
-/
import Derived.Test.YtcdjincaedpodaaGreatDoorQErRunY
import Derived.Test.YtcdjincaedpodaaGreatDoorQ11
import Derived.Test.YtcdjincaedpodaaGreatDoorQ8
import Derived.Test.YtcdjincaedpodaaGreatDoorQ7
import Derived.Test.YtcdjincaedpodaaGreatDoorQEvDeed1
import Derived.Deep.RegionHeld3
import Derived.Deep.CutRange
import Derived.Deep.Cut
namespace Go.Proofs.YtcdjincaedpodaaGreatDoor.Ev
open Go.ChangeShapes Go.WideShapes Go.ChangeAt Go.RowKit Ov Va Ga Ex
set_option maxRecDepth 100000 in
set_option maxHeartbeats 8000000 in
theorem plays_core (A : Option Addr) (c : Nat) (l : List No) (k : List UInt8) (v a : Va) (n : Int) (w : World) (hn : Nds w A l) (hT : Tab w) (hK : KN w) : Calls Tryz.prog 5 #[.slice A l.length c, .agg #[.string (tx k), .int .i64 v.k, .int .i64 v.n, .string (tx v.s), .int .i64 v.x, .int .i64 v.y, .int .i64 a.k, .int .i64 a.n, .string (tx a.s), .int .i64 a.x, .int .i64 a.y], .int .i64 n] w (Gives (.bool true) w) := by
 have HAW := Lib.hid (fun w1 (h : Below w.heap.size w w1) => awake9_any w1 (hK.next h) (hT.next h))
 have HNl := Lib.hid hn
 have HB0 : Hid (Below w.heap.size w w) := Below.refl _ _
 have HOF := Lib.hid (fun w1 (h : Below w.heap.size w w1) (h1 : l.length ≤ 1000) => of_any l A c w1 (hn.next h) h1)
 have HRF := Lib.hid (fun (n : Int) w1 (h : Below w.heap.size w w1) (h1 : l.length ≤ 1000) => mrun_any l A c k v a n w1 (hn.next h) (hK.next h) (hT.next h) (by omega))
 have HRU := Lib.hid (fun (l2 : List No) (n : Int) w1 (h : Below w.heap.size w w1) (Ap : Option Addr) (cp : Nat) (hp : Nds w1 Ap l2) (h1 : l2.length ≤ 1000) => run_any l2 Ap cp k v a n w1 hp (hK.next h) (hT.next h) (by omega))
 clear hn hT hK
 go_enter Tryz.func5, Tryz.ntmps5
 go_wp2_with (fail)
 have HB1 := Lib.hid (Below.next HB0.out (box1 w (.cells #[.string (tx k), .int .i64 v.k, .int .i64 v.n, .string (tx v.s), .int .i64 v.x, .int .i64 v.y, .int .i64 a.k, .int .i64 a.n, .string (tx a.s), .int .i64 a.x, .int .i64 a.y] 28)))
 have HE1 : Hid (Blk (w.alloc (.cells #[.string (tx k), .int .i64 v.k, .int .i64 v.n, .string (tx v.s), .int .i64 v.x, .int .i64 v.y, .int .i64 a.k, .int .i64 a.n, .string (tx a.s), .int .i64 a.x, .int .i64 a.y] 28)) w.heap.size [.string (tx k), .int .i64 v.k, .int .i64 v.n, .string (tx v.s), .int .i64 v.x, .int .i64 v.y, .int .i64 a.k, .int .i64 a.n, .string (tx a.s), .int .i64 a.x, .int .i64 a.y]) := Blk.made w 28 [.string (tx k), .int .i64 v.k, .int .i64 v.n, .string (tx v.s), .int .i64 v.x, .int .i64 v.y, .int .i64 a.k, .int .i64 a.n, .string (tx a.s), .int .i64 a.x, .int .i64 a.y] rfl
 obtain ⟨w1, hw1⟩ : ∃ w1, w.alloc (.cells #[.string (tx k), .int .i64 v.k, .int .i64 v.n, .string (tx v.s), .int .i64 v.x, .int .i64 v.y, .int .i64 a.k, .int .i64 a.n, .string (tx a.s), .int .i64 a.x, .int .i64 a.y] 28) = w1 := ⟨_, rfl⟩
 rw [hw1] at HB1 HE1
 rw [hw1]
 skip
 clear HB0   hw1 
 have hltE := HE1.out.lt
 go_wp2_with (fail)
 refine (HAW.out _ HB1.out).mono ?_
 rintro e w2 ⟨rfl, hb⟩
 have HB2 := Lib.hid (Below.next HB1.out hb)
 have HE2 := Lib.hid (HE1.out.next hb)
 clear HB1 HE1  hb
 have hltE_ := HE2.out.lt
 obtain ⟨qE0, qE1, qE2, qE3, qE4, qE5, qE6, qE7, qE8, qE9, qE10⟩ := ck11 HE2.out
 go_wp2_with (fail)
 refine (few9_any l A c k v a _ (HNl.out.next HB2.out)).mono ?_
 rintro e w3 ⟨fb, rfl, hb, h01⟩
 have HB3 := Lib.hid (Below.next HB2.out hb)
 have HE3 := Lib.hid (HE2.out.next hb)
 clear HB2 HE2 hltE_ qE0 qE1 qE2 qE3 qE4 qE5 qE6 qE7 qE8 qE9 qE10 hb
 rcases h01 with rfl | ⟨rfl, hlen⟩
 · skip
   go_wp2_with (fail)
   refine (HAW.out _ HB3.out).mono ?_
   rintro e w4 ⟨rfl, hb⟩
   have HB4 := Lib.hid (Below.next HB3.out hb)
   have HE4 := Lib.hid (HE3.out.next hb)
   clear HB3 HE3  hb
   go_wp2_with (fail)
   go_ret
   exact ⟨rfl, HB4.out⟩
 by_cases hfu : 3000 < n ∧ n ≤ 100000
 · obtain ⟨hf1, hf2⟩ := hfu
   go_wp2_with (fail)
   refine (HAW.out _ HB3.out).mono ?_
   rintro e w4 ⟨rfl, hb⟩
   have HB4 := Lib.hid (Below.next HB3.out hb)
   have HE4 := Lib.hid (HE3.out.next hb)
   clear HB3 HE3  hb
   go_wp2_with (fail)
   go_ret
   exact ⟨rfl, HB4.out⟩
 · have hcs : ¬ 3000 < n ∨ (3000 < n ∧ ¬ n ≤ 100000) := by omega
   clear hfu
   obtain ⟨X, hX⟩ : ∃ X, rnX l k v a n = X := ⟨_, rfl⟩
   rcases hcs with hf1 | ⟨hf1, hf2⟩
   all_goals
    cases X with
    | er x =>
      go_upto_region 3 with fail
      go_cut [7, 8] from 30 to 37 (fun sr se wx => ∃ (b1 : Nat), sr = .pointer (some ⟨b1, 0, none⟩) ∧ se = .int .i64 x ∧ Below w.heap.size w wx ∧ Blk wx w.heap.size [.string (tx k), .int .i64 v.k, .int .i64 v.n, .string (tx v.s), .int .i64 v.x, .int .i64 v.y, .int .i64 a.k, .int .i64 a.n, .string (tx a.s), .int .i64 a.x, .int .i64 a.y] ∧ Blk wx b1 [.int .i64 0, .int .i64 0, .string ⟨#[]⟩, .int .i64 0, .int .i64 0, .slice none 0 0, .int .i64 0] ∧ x ≠ 0)
      case first =>
       have hltE_ := HE3.out.lt
       obtain ⟨qE0, qE1, qE2, qE3, qE4, qE5, qE6, qE7, qE8, qE9, qE10⟩ := ck11 HE3.out
       go_region_held3 (fun w' => w'.cell? ⟨w.heap.size, 0, none⟩ = some (.string (tx k)) ∧ w'.cell? ⟨w.heap.size, 1, none⟩ = some (.int .i64 v.k) ∧ w'.cell? ⟨w.heap.size, 2, none⟩ = some (.int .i64 v.n) ∧ w'.cell? ⟨w.heap.size, 3, none⟩ = some (.string (tx v.s)) ∧ w'.cell? ⟨w.heap.size, 4, none⟩ = some (.int .i64 v.x) ∧ w'.cell? ⟨w.heap.size, 5, none⟩ = some (.int .i64 v.y) ∧ w'.cell? ⟨w.heap.size, 6, none⟩ = some (.int .i64 a.k) ∧ w'.cell? ⟨w.heap.size, 7, none⟩ = some (.int .i64 a.n) ∧ w'.cell? ⟨w.heap.size, 8, none⟩ = some (.string (tx a.s)) ∧ w'.cell? ⟨w.heap.size, 9, none⟩ = some (.int .i64 a.x) ∧ w'.cell? ⟨w.heap.size, 10, none⟩ = some (.int .i64 a.y)) (go_keep)
        (first
        | (go_at_call 10
           refine (HOF.out _ (below_drewN HB3.out 1) (by omega)).mono ?_
           rintro eo w4 ⟨Ap, cp, rfl, hop, hb⟩
           have hW : Below w3.heap.size w3 _ := below_drewN (Below.refl _ _) 1
           have HB4 := Lib.hid (Below.next (below_drewN HB3.out 1) hb)
           have HE4 := Lib.hid ((HE3.out.next hW).next hb)
           have HP4 : Hid (Nds w4 Ap l) := Nds.of_own hop
           have hszm : w3.heap.size ≤ w4.heap.size := Nat.le_trans hW.size hb.size
           have hneE1 : w3.heap.size ≠ w.heap.size := by have := HE3.out.lt; omega
           have hneE2 : w4.heap.size ≠ w.heap.size := by have := HE4.out.lt; omega
           obtain ⟨mE0, mE1, mE2, mE3, mE4, mE5, mE6, mE7, mE8, mE9, mE10⟩ := ck11 HE4.out; have hltEm := HE4.out.lt
           clear hop hb hW)
        | (go_at_call 10
           refine (HOF.out _ ((below_drewN HB3.out 1).alloc HB3.out.size (.cells #[.int .i64 0, .int .i64 0, .string ⟨#[]⟩, .int .i64 0, .int .i64 0, .slice none 0 0, .int .i64 0] 36)) (by omega)).mono ?_
           rintro eo w4 ⟨Ap, cp, rfl, hop, hb⟩
           have hW : Below w3.heap.size w3 _ := (below_drewN (Below.refl _ _) 1).alloc (Nat.le_refl _) (.cells #[.int .i64 0, .int .i64 0, .string ⟨#[]⟩, .int .i64 0, .int .i64 0, .slice none 0 0, .int .i64 0] 36)
           have HB4 := Lib.hid (Below.next ((below_drewN HB3.out 1).alloc HB3.out.size (.cells #[.int .i64 0, .int .i64 0, .string ⟨#[]⟩, .int .i64 0, .int .i64 0, .slice none 0 0, .int .i64 0] 36)) hb)
           have HE4 := Lib.hid ((HE3.out.next hW).next hb)
           have HP4 : Hid (Nds w4 Ap l) := Nds.of_own hop
           have hszm : w3.heap.size ≤ w4.heap.size := Nat.le_trans hW.size hb.size
           have hneE1 : w3.heap.size ≠ w.heap.size := by have := HE3.out.lt; omega
           have hneE2 : w4.heap.size ≠ w.heap.size := by have := HE4.out.lt; omega
           have HZ4 : Hid (Blk w4 w3.heap.size rz7) := (Blk.made (w3.drewN 1) 36 rz7 rfl).next hb
           have hzlt := HZ4.out.lt
           obtain ⟨mE0, mE1, mE2, mE3, mE4, mE5, mE6, mE7, mE8, mE9, mE10⟩ := ck11 HE4.out; have hltEm := HE4.out.lt
           clear hop hb hW)
        | (go_at_call 11
           refine (HRU.out l (n) _ HB4.out Ap cp HP4.out (by omega)).mono ?_
           rintro eo w5 ⟨hb, hq⟩
           rw [hX] at hq
           have hW : Below w4.heap.size w4 _ := Below.refl _ _
           obtain ⟨hx0, rfl⟩ := hq
           have HX0 := Lib.hid hx0
           clear hx0
           have HB5 := Lib.hid (Below.next HB4.out hb)
           have HE5 := Lib.hid ((HE4.out.next hW).next hb)
           try have HZ5 := Lib.hid (HZ4.out.next hb)
           try (have zc0 := HZ5.out.c 0 _ rfl; have zf0 := HZ5.out.f 0 _ rfl; have zc1 := HZ5.out.c 1 _ rfl; have zf1 := HZ5.out.f 1 _ rfl; have zc2 := HZ5.out.c 2 _ rfl; have zf2 := HZ5.out.f 2 _ rfl; have zc3 := HZ5.out.c 3 _ rfl; have zf3 := HZ5.out.f 3 _ rfl; have zc4 := HZ5.out.c 4 _ rfl; have zf4 := HZ5.out.f 4 _ rfl; have zc5 := HZ5.out.c 5 _ rfl; have zf5 := HZ5.out.f 5 _ rfl; have zc6 := HZ5.out.c 6 _ rfl; have zf6 := HZ5.out.f 6 _ rfl)
           try (have hltz := HZ5.out.lt)
           have hszn : w4.heap.size ≤ w5.heap.size := Nat.le_trans hW.size hb.size
           obtain ⟨nE0, nE1, nE2, nE3, nE4, nE5, nE6, nE7, nE8, nE9, nE10⟩ := ck11 HE5.out; have hltEn := HE5.out.lt
           clear hb hW)
        | (go_at_call 11
           refine (HRU.out l (n) _ (Below.next HB4.out (box1 w4 (.cells #[.int .i64 0, .int .i64 0, .string ⟨#[]⟩, .int .i64 0, .int .i64 0, .slice none 0 0, .int .i64 0] 36))) Ap cp (HP4.out.next (box1 w4 (.cells #[.int .i64 0, .int .i64 0, .string ⟨#[]⟩, .int .i64 0, .int .i64 0, .slice none 0 0, .int .i64 0] 36))) (by omega)).mono ?_
           rintro eo w5 ⟨hb, hq⟩
           rw [hX] at hq
           have hW : Below w4.heap.size w4 _ := box1 w4 (.cells #[.int .i64 0, .int .i64 0, .string ⟨#[]⟩, .int .i64 0, .int .i64 0, .slice none 0 0, .int .i64 0] 36)
           obtain ⟨hx0, rfl⟩ := hq
           have HX0 := Lib.hid hx0
           clear hx0
           have HB5 := Lib.hid (Below.next (Below.next HB4.out (box1 w4 (.cells #[.int .i64 0, .int .i64 0, .string ⟨#[]⟩, .int .i64 0, .int .i64 0, .slice none 0 0, .int .i64 0] 36))) hb)
           have HE5 := Lib.hid ((HE4.out.next hW).next hb)
           have HZ5 : Hid (Blk w5 w4.heap.size rz7) := (Blk.made w4 36 rz7 rfl).next hb
           try (have zc0 := HZ5.out.c 0 _ rfl; have zf0 := HZ5.out.f 0 _ rfl; have zc1 := HZ5.out.c 1 _ rfl; have zf1 := HZ5.out.f 1 _ rfl; have zc2 := HZ5.out.c 2 _ rfl; have zf2 := HZ5.out.f 2 _ rfl; have zc3 := HZ5.out.c 3 _ rfl; have zf3 := HZ5.out.f 3 _ rfl; have zc4 := HZ5.out.c 4 _ rfl; have zf4 := HZ5.out.f 4 _ rfl; have zc5 := HZ5.out.c 5 _ rfl; have zf5 := HZ5.out.f 5 _ rfl; have zc6 := HZ5.out.c 6 _ rfl; have zf6 := HZ5.out.f 6 _ rfl)
           try (have hltz := HZ5.out.lt)
           have hszn : w4.heap.size ≤ w5.heap.size := Nat.le_trans hW.size hb.size
           obtain ⟨nE0, nE1, nE2, nE3, nE4, nE5, nE6, nE7, nE8, nE9, nE10⟩ := ck11 HE5.out; have hltEn := HE5.out.lt
           clear hb hW))
       all_goals (rename_i hHd; clear hHd)
       all_goals go_wp2_with fail
       all_goals go_meet
       · exact ⟨w5.heap.size, rfl, rfl, Below.next HB5.out (box1 w5 _), HE5.out.next (box1 w5 _), Blk.made w5 36 [.int .i64 0, .int .i64 0, .string ⟨#[]⟩, .int .i64 0, .int .i64 0, .slice none 0 0, .int .i64 0] rfl, HX0.out⟩
       · have hp : (((((((w5.setCell ⟨w4.heap.size, 0, none⟩ (.int .i64 0)).setCell ⟨w4.heap.size, 1, none⟩ (.int .i64 0)).setCell ⟨w4.heap.size, 2, none⟩ (.string ⟨#[]⟩)).setCell ⟨w4.heap.size, 3, none⟩ (.int .i64 0)).setCell ⟨w4.heap.size, 4, none⟩ (.int .i64 0)).setCell ⟨w4.heap.size, 5, none⟩ (.slice none 0 0)).setCell ⟨w4.heap.size, 6, none⟩ (.int .i64 0)) = putL w5 w4.heap.size 0 [.int .i64 0, .int .i64 0, .string ⟨#[]⟩, .int .i64 0, .int .i64 0, .slice none 0 0, .int .i64 0] := rfl
         rw [hp]
         clear hp
         have hzle : w3.heap.size ≤ w4.heap.size := by omega
         have k1 := below_puts (B := w4.heap.size) [.int .i64 0, .int .i64 0, .string ⟨#[]⟩, .int .i64 0, .int .i64 0, .slice none 0 0, .int .i64 0] 0 HB5.out (by have := HB3.out.size; omega)
         have kE := blk_puts_other (C := w4.heap.size) (by omega) [.int .i64 0, .int .i64 0, .string ⟨#[]⟩, .int .i64 0, .int .i64 0, .slice none 0 0, .int .i64 0] 0 HE5.out
         have kz : Blk (putL w5 w4.heap.size 0 [.int .i64 0, .int .i64 0, .string ⟨#[]⟩, .int .i64 0, .int .i64 0, .slice none 0 0, .int .i64 0]) w4.heap.size [.int .i64 0, .int .i64 0, .string ⟨#[]⟩, .int .i64 0, .int .i64 0, .slice none 0 0, .int .i64 0] := blk_puts [.int .i64 0, .int .i64 0, .string ⟨#[]⟩, .int .i64 0, .int .i64 0, .slice none 0 0, .int .i64 0] 0 HZ5.out (Nat.le_refl 7)
         generalize putL w5 w4.heap.size 0 [.int .i64 0, .int .i64 0, .string ⟨#[]⟩, .int .i64 0, .int .i64 0, .slice none 0 0, .int .i64 0] = wq at *
         exact ⟨w4.heap.size, rfl, rfl, k1, kE, kz, HX0.out⟩
       · have hp : (((((((w5.setCell ⟨w3.heap.size, 0, none⟩ (.int .i64 0)).setCell ⟨w3.heap.size, 1, none⟩ (.int .i64 0)).setCell ⟨w3.heap.size, 2, none⟩ (.string ⟨#[]⟩)).setCell ⟨w3.heap.size, 3, none⟩ (.int .i64 0)).setCell ⟨w3.heap.size, 4, none⟩ (.int .i64 0)).setCell ⟨w3.heap.size, 5, none⟩ (.slice none 0 0)).setCell ⟨w3.heap.size, 6, none⟩ (.int .i64 0)) = putL w5 w3.heap.size 0 [.int .i64 0, .int .i64 0, .string ⟨#[]⟩, .int .i64 0, .int .i64 0, .slice none 0 0, .int .i64 0] := rfl
         rw [hp]
         clear hp
         have hzle : w3.heap.size ≤ w3.heap.size := by omega
         have k1 := below_puts (B := w3.heap.size) [.int .i64 0, .int .i64 0, .string ⟨#[]⟩, .int .i64 0, .int .i64 0, .slice none 0 0, .int .i64 0] 0 HB5.out (by have := HB3.out.size; omega)
         have kE := blk_puts_other (C := w3.heap.size) (by omega) [.int .i64 0, .int .i64 0, .string ⟨#[]⟩, .int .i64 0, .int .i64 0, .slice none 0 0, .int .i64 0] 0 HE5.out
         have kz : Blk (putL w5 w3.heap.size 0 [.int .i64 0, .int .i64 0, .string ⟨#[]⟩, .int .i64 0, .int .i64 0, .slice none 0 0, .int .i64 0]) w3.heap.size [.int .i64 0, .int .i64 0, .string ⟨#[]⟩, .int .i64 0, .int .i64 0, .slice none 0 0, .int .i64 0] := blk_puts [.int .i64 0, .int .i64 0, .string ⟨#[]⟩, .int .i64 0, .int .i64 0, .slice none 0 0, .int .i64 0] 0 HZ5.out (Nat.le_refl 7)
         generalize putL w5 w3.heap.size 0 [.int .i64 0, .int .i64 0, .string ⟨#[]⟩, .int .i64 0, .int .i64 0, .slice none 0 0, .int .i64 0] = wq at *
         exact ⟨w3.heap.size, rfl, rfl, k1, kE, kz, HX0.out⟩
      case rest =>
      obtain ⟨b1, rfl, rfl, hB, hE, hbx, hx0⟩ := hcut
      have HB4 := Lib.hid hB; have HE4 := Lib.hid hE; have HRb14 := Lib.hid hbx
      have hx1 : (x == 0) = false := by simpa using hx0
      have hx2 : (x != 0) = true := by simpa using hx0
      clear hB hE hbx  HB3 HE3
      generalize wc = w4 at *
      have hltE_ := HE4.out.lt
      obtain ⟨qE0, qE1, qE2, qE3, qE4, qE5, qE6, qE7, qE8, qE9, qE10⟩ := ck11 HE4.out
      have hltRb1_ := HRb14.out.lt
      obtain ⟨qRb10, qRb11, qRb12, qRb13, qRb14, qRb15, qRb16⟩ := ck7 HRb14.out
      go_wp2_with (fail)
      refine (HRF.out n _ HB4.out (by omega)).mono ?_
      rintro e w5 ⟨hb, hq1⟩
      rw [hX] at hq1
      have HB5 := Lib.hid (Below.next HB4.out hb)
      have HE5 := Lib.hid (HE4.out.next hb)
      have HRb15 := Lib.hid (HRb14.out.next hb)
      clear HB4 HE4 HRb14 hltE_ qE0 qE1 qE2 qE3 qE4 qE5 qE6 qE7 qE8 qE9 qE10 hltRb1_ qRb10 qRb11 qRb12 qRb13 qRb14 qRb15 qRb16 hb
      obtain ⟨_, rfl⟩ := hq1
      clear hX
      have hltRb1_ := HRb15.out.lt
      obtain ⟨qRb10, qRb11, qRb12, qRb13, qRb14, qRb15, qRb16⟩ := ck7 HRb15.out
      have hEV : ∀ W, (binOp .eql 26 (.agg vz) (.agg vz)).run Tryz.prog W = .ok (.bool true) W := fun W => eql_va vz vz W
      change ∀ W, (binOp .eql 26 (.agg zz) (.agg zz)).run Tryz.prog W = .ok (.bool true) W at hEV
      go_wp2_with (fail)
      have HB6 := Lib.hid (Below.next HB5.out (box1 w5 (.cells zz 26)))
      have HE6 := Lib.hid (HE5.out.next (box1 w5 (.cells zz 26)))
      have HRb16 := Lib.hid (HRb15.out.next (box1 w5 (.cells zz 26)))
      have HV6 : Hid (Blk (w5.alloc (.cells zz 26)) w5.heap.size zz) := Blk.made w5 26 zz rfl
      obtain ⟨w6, hw6⟩ : ∃ w6, w5.alloc (.cells zz 26) = w6 := ⟨_, rfl⟩
      rw [hw6] at HB6 HE6 HRb16 HV6
      rw [hw6]
      obtain ⟨bV, hbV⟩ : ∃ b, w5.heap.size = b := ⟨_, rfl⟩
      rw [hbV] at HV6
      simp only [hbV]
      clear HB5 HE5 HRb15 hltRb1_ qRb10 qRb11 qRb12 qRb13 qRb14 qRb15 qRb16 hw6 hbV
      refine (same_pairs [] none none 0 0 _ (fun h => absurd h (by decide)) (fun h => absurd h (by decide)) (by decide)).mono ?_
      rintro e w7 ⟨rfl, hb⟩
      have HB7 := Lib.hid (Below.next HB6.out hb)
      have HE7 := Lib.hid (HE6.out.next hb)
      have HRb17 := Lib.hid (HRb16.out.next hb)
      have HV7 := Lib.hid (HV6.out.next hb)
      clear HB6 HE6 HRb16 HV6  hb
      go_wp2_with (fail)
      go_ret
      exact ⟨by simp, HB7.out⟩
    | ok u S m =>
      have hSo := (rnX_left hX).2.2.1
      go_upto_region 3 with fail
      go_cut [7, 8] from 30 to 37 (fun sr se wx => ∃ (b1 : Nat) (Ao : Option Addr) (co : Nat), sr = .pointer (some ⟨b1, 0, none⟩) ∧ se = .int .i64 0 ∧ Below w.heap.size w wx ∧ Blk wx w.heap.size [.string (tx k), .int .i64 v.k, .int .i64 v.n, .string (tx v.s), .int .i64 v.x, .int .i64 v.y, .int .i64 a.k, .int .i64 a.n, .string (tx a.s), .int .i64 a.x, .int .i64 a.y] ∧ Blk wx b1 [.int .i64 u.k, .int .i64 u.n, .string (tx u.s), .int .i64 u.x, .int .i64 u.y, .slice Ao S.out.length co, .int .i64 (m : Int)] ∧ Prs wx Ao S.out)
      case first =>
       have hltE_ := HE3.out.lt
       obtain ⟨qE0, qE1, qE2, qE3, qE4, qE5, qE6, qE7, qE8, qE9, qE10⟩ := ck11 HE3.out
       go_region_held3 (fun w' => w'.cell? ⟨w.heap.size, 0, none⟩ = some (.string (tx k)) ∧ w'.cell? ⟨w.heap.size, 1, none⟩ = some (.int .i64 v.k) ∧ w'.cell? ⟨w.heap.size, 2, none⟩ = some (.int .i64 v.n) ∧ w'.cell? ⟨w.heap.size, 3, none⟩ = some (.string (tx v.s)) ∧ w'.cell? ⟨w.heap.size, 4, none⟩ = some (.int .i64 v.x) ∧ w'.cell? ⟨w.heap.size, 5, none⟩ = some (.int .i64 v.y) ∧ w'.cell? ⟨w.heap.size, 6, none⟩ = some (.int .i64 a.k) ∧ w'.cell? ⟨w.heap.size, 7, none⟩ = some (.int .i64 a.n) ∧ w'.cell? ⟨w.heap.size, 8, none⟩ = some (.string (tx a.s)) ∧ w'.cell? ⟨w.heap.size, 9, none⟩ = some (.int .i64 a.x) ∧ w'.cell? ⟨w.heap.size, 10, none⟩ = some (.int .i64 a.y)) (go_keep)
        (first
        | (go_at_call 10
           refine (HOF.out _ (below_drewN HB3.out 1) (by omega)).mono ?_
           rintro eo w4 ⟨Ap, cp, rfl, hop, hb⟩
           have hW : Below w3.heap.size w3 _ := below_drewN (Below.refl _ _) 1
           have HB4 := Lib.hid (Below.next (below_drewN HB3.out 1) hb)
           have HE4 := Lib.hid ((HE3.out.next hW).next hb)
           have HP4 : Hid (Nds w4 Ap l) := Nds.of_own hop
           have hszm : w3.heap.size ≤ w4.heap.size := Nat.le_trans hW.size hb.size
           have hneE1 : w3.heap.size ≠ w.heap.size := by have := HE3.out.lt; omega
           have hneE2 : w4.heap.size ≠ w.heap.size := by have := HE4.out.lt; omega
           obtain ⟨mE0, mE1, mE2, mE3, mE4, mE5, mE6, mE7, mE8, mE9, mE10⟩ := ck11 HE4.out; have hltEm := HE4.out.lt
           clear hop hb hW)
        | (go_at_call 10
           refine (HOF.out _ ((below_drewN HB3.out 1).alloc HB3.out.size (.cells #[.int .i64 0, .int .i64 0, .string ⟨#[]⟩, .int .i64 0, .int .i64 0, .slice none 0 0, .int .i64 0] 36)) (by omega)).mono ?_
           rintro eo w4 ⟨Ap, cp, rfl, hop, hb⟩
           have hW : Below w3.heap.size w3 _ := (below_drewN (Below.refl _ _) 1).alloc (Nat.le_refl _) (.cells #[.int .i64 0, .int .i64 0, .string ⟨#[]⟩, .int .i64 0, .int .i64 0, .slice none 0 0, .int .i64 0] 36)
           have HB4 := Lib.hid (Below.next ((below_drewN HB3.out 1).alloc HB3.out.size (.cells #[.int .i64 0, .int .i64 0, .string ⟨#[]⟩, .int .i64 0, .int .i64 0, .slice none 0 0, .int .i64 0] 36)) hb)
           have HE4 := Lib.hid ((HE3.out.next hW).next hb)
           have HP4 : Hid (Nds w4 Ap l) := Nds.of_own hop
           have hszm : w3.heap.size ≤ w4.heap.size := Nat.le_trans hW.size hb.size
           have hneE1 : w3.heap.size ≠ w.heap.size := by have := HE3.out.lt; omega
           have hneE2 : w4.heap.size ≠ w.heap.size := by have := HE4.out.lt; omega
           have HZ4 : Hid (Blk w4 w3.heap.size rz7) := (Blk.made (w3.drewN 1) 36 rz7 rfl).next hb
           have hzlt := HZ4.out.lt
           obtain ⟨mE0, mE1, mE2, mE3, mE4, mE5, mE6, mE7, mE8, mE9, mE10⟩ := ck11 HE4.out; have hltEm := HE4.out.lt
           clear hop hb hW)
        | (go_at_call 11
           refine (HRU.out l (n) _ HB4.out Ap cp HP4.out (by omega)).mono ?_
           rintro eo w5 ⟨hb, hq⟩
           rw [hX] at hq
           have hW : Below w4.heap.size w4 _ := Below.refl _ _
           obtain ⟨Ao, co, ho, rfl⟩ := hq
           have HN5 : Hid (Prs w5 Ao S.out) := Prs.of_own ho
           try have HF := Lib.hid (own_far (lo := w3.heap.size) ho hzlt)
           clear ho
           have HB5 := Lib.hid (Below.next HB4.out hb)
           have HE5 := Lib.hid ((HE4.out.next hW).next hb)
           try have HZ5 := Lib.hid (HZ4.out.next hb)
           try (have zc0 := HZ5.out.c 0 _ rfl; have zf0 := HZ5.out.f 0 _ rfl; have zc1 := HZ5.out.c 1 _ rfl; have zf1 := HZ5.out.f 1 _ rfl; have zc2 := HZ5.out.c 2 _ rfl; have zf2 := HZ5.out.f 2 _ rfl; have zc3 := HZ5.out.c 3 _ rfl; have zf3 := HZ5.out.f 3 _ rfl; have zc4 := HZ5.out.c 4 _ rfl; have zf4 := HZ5.out.f 4 _ rfl; have zc5 := HZ5.out.c 5 _ rfl; have zf5 := HZ5.out.f 5 _ rfl; have zc6 := HZ5.out.c 6 _ rfl; have zf6 := HZ5.out.f 6 _ rfl)
           try (have hltz := HZ5.out.lt)
           have hszn : w4.heap.size ≤ w5.heap.size := Nat.le_trans hW.size hb.size
           obtain ⟨nE0, nE1, nE2, nE3, nE4, nE5, nE6, nE7, nE8, nE9, nE10⟩ := ck11 HE5.out; have hltEn := HE5.out.lt
           clear hb hW)
        | (go_at_call 11
           refine (HRU.out l (n) _ (Below.next HB4.out (box1 w4 (.cells #[.int .i64 0, .int .i64 0, .string ⟨#[]⟩, .int .i64 0, .int .i64 0, .slice none 0 0, .int .i64 0] 36))) Ap cp (HP4.out.next (box1 w4 (.cells #[.int .i64 0, .int .i64 0, .string ⟨#[]⟩, .int .i64 0, .int .i64 0, .slice none 0 0, .int .i64 0] 36))) (by omega)).mono ?_
           rintro eo w5 ⟨hb, hq⟩
           rw [hX] at hq
           have hW : Below w4.heap.size w4 _ := box1 w4 (.cells #[.int .i64 0, .int .i64 0, .string ⟨#[]⟩, .int .i64 0, .int .i64 0, .slice none 0 0, .int .i64 0] 36)
           obtain ⟨Ao, co, ho, rfl⟩ := hq
           have HN5 : Hid (Prs w5 Ao S.out) := Prs.of_own ho
           have HF := Lib.hid (own_far (lo := w4.heap.size) ho (by rw [World.size_alloc]; omega))
           clear ho
           have HB5 := Lib.hid (Below.next (Below.next HB4.out (box1 w4 (.cells #[.int .i64 0, .int .i64 0, .string ⟨#[]⟩, .int .i64 0, .int .i64 0, .slice none 0 0, .int .i64 0] 36))) hb)
           have HE5 := Lib.hid ((HE4.out.next hW).next hb)
           have HZ5 : Hid (Blk w5 w4.heap.size rz7) := (Blk.made w4 36 rz7 rfl).next hb
           try (have zc0 := HZ5.out.c 0 _ rfl; have zf0 := HZ5.out.f 0 _ rfl; have zc1 := HZ5.out.c 1 _ rfl; have zf1 := HZ5.out.f 1 _ rfl; have zc2 := HZ5.out.c 2 _ rfl; have zf2 := HZ5.out.f 2 _ rfl; have zc3 := HZ5.out.c 3 _ rfl; have zf3 := HZ5.out.f 3 _ rfl; have zc4 := HZ5.out.c 4 _ rfl; have zf4 := HZ5.out.f 4 _ rfl; have zc5 := HZ5.out.c 5 _ rfl; have zf5 := HZ5.out.f 5 _ rfl; have zc6 := HZ5.out.c 6 _ rfl; have zf6 := HZ5.out.f 6 _ rfl)
           try (have hltz := HZ5.out.lt)
           have hszn : w4.heap.size ≤ w5.heap.size := Nat.le_trans hW.size hb.size
           obtain ⟨nE0, nE1, nE2, nE3, nE4, nE5, nE6, nE7, nE8, nE9, nE10⟩ := ck11 HE5.out; have hltEn := HE5.out.lt
           clear hb hW))
       all_goals (rename_i hHd; clear hHd)
       all_goals go_wp2_with fail
       all_goals go_meet
       · exact ⟨w5.heap.size, Ao, co, rfl, rfl, Below.next HB5.out (box1 w5 _), HE5.out.next (box1 w5 _), Blk.made w5 36 [.int .i64 u.k, .int .i64 u.n, .string (tx u.s), .int .i64 u.x, .int .i64 u.y, .slice Ao S.out.length co, .int .i64 (m : Int)] rfl, HN5.out.next (box1 w5 _)⟩
       · have hp : (((((((w5.setCell ⟨w4.heap.size, 0, none⟩ (.int .i64 u.k)).setCell ⟨w4.heap.size, 1, none⟩ (.int .i64 u.n)).setCell ⟨w4.heap.size, 2, none⟩ (.string (tx u.s))).setCell ⟨w4.heap.size, 3, none⟩ (.int .i64 u.x)).setCell ⟨w4.heap.size, 4, none⟩ (.int .i64 u.y)).setCell ⟨w4.heap.size, 5, none⟩ (.slice Ao S.out.length co)).setCell ⟨w4.heap.size, 6, none⟩ (.int .i64 (m : Int))) = putL w5 w4.heap.size 0 [.int .i64 u.k, .int .i64 u.n, .string (tx u.s), .int .i64 u.x, .int .i64 u.y, .slice Ao S.out.length co, .int .i64 (m : Int)] := rfl
         rw [hp]
         clear hp
         have hzle : w3.heap.size ≤ w4.heap.size := by omega
         have k1 := below_puts (B := w4.heap.size) [.int .i64 u.k, .int .i64 u.n, .string (tx u.s), .int .i64 u.x, .int .i64 u.y, .slice Ao S.out.length co, .int .i64 (m : Int)] 0 HB5.out (by have := HB3.out.size; omega)
         have kE := blk_puts_other (C := w4.heap.size) (by omega) [.int .i64 u.k, .int .i64 u.n, .string (tx u.s), .int .i64 u.x, .int .i64 u.y, .slice Ao S.out.length co, .int .i64 (m : Int)] 0 HE5.out
         have kz : Blk (putL w5 w4.heap.size 0 [.int .i64 u.k, .int .i64 u.n, .string (tx u.s), .int .i64 u.x, .int .i64 u.y, .slice Ao S.out.length co, .int .i64 (m : Int)]) w4.heap.size [.int .i64 u.k, .int .i64 u.n, .string (tx u.s), .int .i64 u.x, .int .i64 u.y, .slice Ao S.out.length co, .int .i64 (m : Int)] := blk_puts [.int .i64 u.k, .int .i64 u.n, .string (tx u.s), .int .i64 u.x, .int .i64 u.y, .slice Ao S.out.length co, .int .i64 (m : Int)] 0 HZ5.out (Nat.le_refl 7)
         have kn := prs_puts (z := w4.heap.size) [.int .i64 u.k, .int .i64 u.n, .string (tx u.s), .int .i64 u.x, .int .i64 u.y, .slice Ao S.out.length co, .int .i64 (m : Int)] 0 HN5.out HF.out
         generalize putL w5 w4.heap.size 0 [.int .i64 u.k, .int .i64 u.n, .string (tx u.s), .int .i64 u.x, .int .i64 u.y, .slice Ao S.out.length co, .int .i64 (m : Int)] = wq at *
         exact ⟨w4.heap.size, Ao, co, rfl, rfl, k1, kE, kz, kn⟩
       · have hp : (((((((w5.setCell ⟨w3.heap.size, 0, none⟩ (.int .i64 u.k)).setCell ⟨w3.heap.size, 1, none⟩ (.int .i64 u.n)).setCell ⟨w3.heap.size, 2, none⟩ (.string (tx u.s))).setCell ⟨w3.heap.size, 3, none⟩ (.int .i64 u.x)).setCell ⟨w3.heap.size, 4, none⟩ (.int .i64 u.y)).setCell ⟨w3.heap.size, 5, none⟩ (.slice Ao S.out.length co)).setCell ⟨w3.heap.size, 6, none⟩ (.int .i64 (m : Int))) = putL w5 w3.heap.size 0 [.int .i64 u.k, .int .i64 u.n, .string (tx u.s), .int .i64 u.x, .int .i64 u.y, .slice Ao S.out.length co, .int .i64 (m : Int)] := rfl
         rw [hp]
         clear hp
         have hzle : w3.heap.size ≤ w3.heap.size := by omega
         have k1 := below_puts (B := w3.heap.size) [.int .i64 u.k, .int .i64 u.n, .string (tx u.s), .int .i64 u.x, .int .i64 u.y, .slice Ao S.out.length co, .int .i64 (m : Int)] 0 HB5.out (by have := HB3.out.size; omega)
         have kE := blk_puts_other (C := w3.heap.size) (by omega) [.int .i64 u.k, .int .i64 u.n, .string (tx u.s), .int .i64 u.x, .int .i64 u.y, .slice Ao S.out.length co, .int .i64 (m : Int)] 0 HE5.out
         have kz : Blk (putL w5 w3.heap.size 0 [.int .i64 u.k, .int .i64 u.n, .string (tx u.s), .int .i64 u.x, .int .i64 u.y, .slice Ao S.out.length co, .int .i64 (m : Int)]) w3.heap.size [.int .i64 u.k, .int .i64 u.n, .string (tx u.s), .int .i64 u.x, .int .i64 u.y, .slice Ao S.out.length co, .int .i64 (m : Int)] := blk_puts [.int .i64 u.k, .int .i64 u.n, .string (tx u.s), .int .i64 u.x, .int .i64 u.y, .slice Ao S.out.length co, .int .i64 (m : Int)] 0 HZ5.out (Nat.le_refl 7)
         have kn := prs_puts (z := w3.heap.size) [.int .i64 u.k, .int .i64 u.n, .string (tx u.s), .int .i64 u.x, .int .i64 u.y, .slice Ao S.out.length co, .int .i64 (m : Int)] 0 HN5.out HF.out
         generalize putL w5 w3.heap.size 0 [.int .i64 u.k, .int .i64 u.n, .string (tx u.s), .int .i64 u.x, .int .i64 u.y, .slice Ao S.out.length co, .int .i64 (m : Int)] = wq at *
         exact ⟨w3.heap.size, Ao, co, rfl, rfl, k1, kE, kz, kn⟩
      case rest =>
      obtain ⟨b1, Ao, co, rfl, rfl, hB, hE, hbx, hN⟩ := hcut
      have HB4 := Lib.hid hB; have HE4 := Lib.hid hE; have HRb14 := Lib.hid hbx; have HS4 := Lib.hid hN
      clear hB hE hbx hN HB3 HE3
      generalize wc = w4 at *
      have hltE_ := HE4.out.lt
      obtain ⟨qE0, qE1, qE2, qE3, qE4, qE5, qE6, qE7, qE8, qE9, qE10⟩ := ck11 HE4.out
      have hltRb1_ := HRb14.out.lt
      obtain ⟨qRb10, qRb11, qRb12, qRb13, qRb14, qRb15, qRb16⟩ := ck7 HRb14.out
      go_wp2_with (fail)
      refine (HRF.out n _ HB4.out (by omega)).mono ?_
      rintro e w5 ⟨hb, hq1⟩
      rw [hX] at hq1
      have HB5 := Lib.hid (Below.next HB4.out hb)
      have HE5 := Lib.hid (HE4.out.next hb)
      have HRb15 := Lib.hid (HRb14.out.next hb)
      have HS5 := Lib.hid (HS4.out.next hb)
      clear HB4 HE4 HRb14 HS4 hltE_ qE0 qE1 qE2 qE3 qE4 qE5 qE6 qE7 qE8 qE9 qE10 hltRb1_ qRb10 qRb11 qRb12 qRb13 qRb14 qRb15 qRb16 hb
      obtain ⟨A2, c2, ho, rfl⟩ := hq1
      have HT5 : Hid (Prs w5 A2 S.out) := Prs.of_own ho
      clear ho hX
      have hltRb1_ := HRb15.out.lt
      obtain ⟨qRb10, qRb11, qRb12, qRb13, qRb14, qRb15, qRb16⟩ := ck7 HRb15.out
      have hEV : ∀ W, (binOp .eql 26 (.agg u) (.agg u)).run Tryz.prog W = .ok (.bool true) W := fun W => by
       have h := eql_va u u W
       rwa [show decide (u = u) = true from decide_eq_true rfl] at h
      go_wp2_with (fail)
      have HB6 := Lib.hid (Below.next HB5.out (box1 w5 (.cells u 26)))
      have HE6 := Lib.hid (HE5.out.next (box1 w5 (.cells u 26)))
      have HRb16 := Lib.hid (HRb15.out.next (box1 w5 (.cells u 26)))
      have HS6 := Lib.hid (HS5.out.next (box1 w5 (.cells u 26)))
      have HT6 := Lib.hid (HT5.out.next (box1 w5 (.cells u 26)))
      have HV6 : Hid (Blk (w5.alloc (.cells u 26)) w5.heap.size u) := Blk.made w5 26 u rfl
      obtain ⟨w6, hw6⟩ : ∃ w6, w5.alloc (.cells u 26) = w6 := ⟨_, rfl⟩
      rw [hw6] at HB6 HE6 HRb16 HS6 HT6 HV6
      rw [hw6]
      obtain ⟨bV, hbV⟩ : ∃ b, w5.heap.size = b := ⟨_, rfl⟩
      rw [hbV] at HV6
      simp only [hbV]
      clear HB5 HE5 HRb15 HS5 HT5 hltRb1_ qRb10 qRb11 qRb12 qRb13 qRb14 qRb15 qRb16 hw6 hbV
      refine (same_pairs S.out Ao A2 co c2 _ HS6.out HT6.out (by omega)).mono ?_
      rintro e w7 ⟨rfl, hb⟩
      have HB7 := Lib.hid (Below.next HB6.out hb)
      have HE7 := Lib.hid (HE6.out.next hb)
      have HRb17 := Lib.hid (HRb16.out.next hb)
      have HS7 := Lib.hid (HS6.out.next hb)
      have HT7 := Lib.hid (HT6.out.next hb)
      have HV7 := Lib.hid (HV6.out.next hb)
      clear HB6 HE6 HRb16 HS6 HT6 HV6  hb
      go_wp2_with (fail)
      go_ret
      exact ⟨by simp, HB7.out⟩
end Go.Proofs.YtcdjincaedpodaaGreatDoor.Ev

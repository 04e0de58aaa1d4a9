/-
  The texts of this claim, EvalChoice alone, 2: EvChoiceW.
-/
import Derived.Test.YtcdjincaedpodaaGreatDoorEvalChoiceO1
import Derived.Deep.RegionHeld3
import Derived.Deep.CutRange
import Derived.Deep.Cut
/-
  EvalChoice, walked (written by gen_evlaw.py).
-/
namespace Go.Proofs.YtcdjincaedpodaaGreatDoor.Ev
open Go.ChangeShapes Go.WideShapes Go.ChangeAt Go.RowKit Go.Proofs.YtcdjincaedpodaaGreatDoor.Ov Go.Proofs.YtcdjincaedpodaaGreatDoor.Va Go.Proofs.YtcdjincaedpodaaGreatDoor.Ga Go.Proofs.YtcdjincaedpodaaGreatDoor.Ex

set_option maxRecDepth 100000 in
set_option maxHeartbeats 16000000 in
theorem choice_core (A : Option Addr) (ca : Nat) (a : List No) (B : Option Addr) (cb : Nat) (b : List No) (C : Option Addr) (cc : Nat) (c : List No) (k : List UInt8) (v e : Va) (w : World) (hna : Nds w A a) (hnb : Nds w B b) (hnc : Nds w C c) (hT : Tab w) (hK : KN w) : Calls Tryz.prog 4 #[.slice A a.length ca, .slice B b.length cb, .slice C c.length cc, .agg #[.string (tx k), .int .i64 v.k, .int .i64 v.n, .string (tx v.s), .int .i64 v.x, .int .i64 v.y, .int .i64 e.k, .int .i64 e.n, .string (tx e.s), .int .i64 e.x, .int .i64 e.y]] w (Gives (.bool true) w) := by
  have HAW := Lib.hid (fun w1 (h : Below w.heap.size w w1) => awake9_any w1 (hK.next h) (hT.next h))
  have HNa := Lib.hid hna; have HNb := Lib.hid hnb; have HNc := Lib.hid hnc
  have HB0 : Hid (Below w.heap.size w w) := Below.refl _ _
  have HOFa := Lib.hid (fun w1 (h : Below w.heap.size w w1) (h1 : a.length ≤ 1000) => of_any a A ca w1 (hna.next h) h1)
  have HOFb := Lib.hid (fun w1 (h : Below w.heap.size w w1) (h1 : b.length ≤ 1000) => of_any b B cb w1 (hnb.next h) h1)
  have HOFc := Lib.hid (fun w1 (h : Below w.heap.size w w1) (h1 : c.length ≤ 1000) => of_any c C cc w1 (hnc.next h) h1)
  have HRU := Lib.hid (fun (l : List No) (n : Int) w1 (h : Below w.heap.size w w1) (Ap : Option Addr) (cp : Nat) (hp : Nds w1 Ap l) (h1 : l.length ≤ 1000) => run_any l Ap cp k v e n w1 hp (hK.next h) (hT.next h) (by omega))
  have HRI := Lib.hid (fun (l : List No) w1 (h : Below w.heap.size w w1) (Ap : Option Addr) (cp : Nat) (hp : Nds w1 Ap l) (h1 : l.length ≤ 1000) => eright_any l Ap cp w1 hp (hK.next h) (by omega))
  obtain ⟨i0, hi0, hi1, hi2, hi3⟩ := info_parts infoR
  have HI0 := Lib.hid hi0; have HI1 := Lib.hid hi1; have HI2 := Lib.hid hi2; have HI3 := Lib.hid hi3
  clear hna hnb hnc hT hK hi0 hi1 hi2 hi3
  go_enter Tryz.func4, Tryz.ntmps4
  go_wp2_with (fail)
  have HB1 := Lib.hid (Below.next HB0.out (box1 w (.cells #[.string (tx k), .int .i64 v.k, .int .i64 v.n, .string (tx v.s), .int .i64 v.x, .int .i64 v.y, .int .i64 e.k, .int .i64 e.n, .string (tx e.s), .int .i64 e.x, .int .i64 e.y] 28)))
  have HE1 : Hid (Blk (w.alloc (.cells #[.string (tx k), .int .i64 v.k, .int .i64 v.n, .string (tx v.s), .int .i64 v.x, .int .i64 v.y, .int .i64 e.k, .int .i64 e.n, .string (tx e.s), .int .i64 e.x, .int .i64 e.y] 28)) w.heap.size [.string (tx k), .int .i64 v.k, .int .i64 v.n, .string (tx v.s), .int .i64 v.x, .int .i64 v.y, .int .i64 e.k, .int .i64 e.n, .string (tx e.s), .int .i64 e.x, .int .i64 e.y]) := Blk.made w 28 [.string (tx k), .int .i64 v.k, .int .i64 v.n, .string (tx v.s), .int .i64 v.x, .int .i64 v.y, .int .i64 e.k, .int .i64 e.n, .string (tx e.s), .int .i64 e.x, .int .i64 e.y] rfl
  obtain ⟨w1, hw1⟩ : ∃ w1, w.alloc (.cells #[.string (tx k), .int .i64 v.k, .int .i64 v.n, .string (tx v.s), .int .i64 v.x, .int .i64 v.y, .int .i64 e.k, .int .i64 e.n, .string (tx e.s), .int .i64 e.x, .int .i64 e.y] 28) = w1 := ⟨_, rfl⟩
  rw [hw1] at HB1 HE1
  rw [hw1]
  skip
  clear HB0   hw1 
  go_wp2_with (fail)
  refine (HAW.out _ HB1.out).mono ?_
  rintro e w2 ⟨rfl, hb⟩
  have HB2 := Lib.hid (Below.next HB1.out hb)
  have HE2 := Lib.hid (HE1.out.next hb)
  clear HB1 HE1  hb
  have hltE_ := HE2.out.lt
  have qE0 := HE2.out.c 0 _ rfl
  have qE1 := HE2.out.c 1 _ rfl
  have qE2 := HE2.out.c 2 _ rfl
  have qE3 := HE2.out.c 3 _ rfl
  have qE4 := HE2.out.c 4 _ rfl
  have qE5 := HE2.out.c 5 _ rfl
  have qE6 := HE2.out.c 6 _ rfl
  have qE7 := HE2.out.c 7 _ rfl
  have qE8 := HE2.out.c 8 _ rfl
  have qE9 := HE2.out.c 9 _ rfl
  have qE10 := HE2.out.c 10 _ rfl
  go_wp2_with (fail)
  refine (few9_any a A ca k v e _ (HNa.out.next HB2.out)).mono ?_
  rintro ea w3 ⟨fb, rfl, hb, h01⟩
  have HB3 := Lib.hid (Below.next HB2.out hb)
  have HE3 := Lib.hid (HE2.out.next hb)
  clear HB2 HE2 hltE_ qE0 qE1 qE2 qE3 qE4 qE5 qE6 qE7 qE8 qE9 qE10 hb
  rcases h01 with rfl | ⟨rfl, hlena⟩
  · skip
    go_wp2_with (fail)
    refine (HAW.out _ HB3.out).mono ?_
    rintro e w4 ⟨rfl, hb⟩
    have HB4 := Lib.hid (Below.next HB3.out hb)
    have HE4 := Lib.hid (HE3.out.next hb)
    clear HB3 HE3  hb
    go_wp2_with (fail)
    go_ret
    exact ⟨rfl, HB4.out⟩
  have hltE_ := HE3.out.lt
  have qE0 := HE3.out.c 0 _ rfl
  have qE1 := HE3.out.c 1 _ rfl
  have qE2 := HE3.out.c 2 _ rfl
  have qE3 := HE3.out.c 3 _ rfl
  have qE4 := HE3.out.c 4 _ rfl
  have qE5 := HE3.out.c 5 _ rfl
  have qE6 := HE3.out.c 6 _ rfl
  have qE7 := HE3.out.c 7 _ rfl
  have qE8 := HE3.out.c 8 _ rfl
  have qE9 := HE3.out.c 9 _ rfl
  have qE10 := HE3.out.c 10 _ rfl
  go_wp2_with (fail)
  refine (few9_any b B cb k v e _ (HNb.out.next HB3.out)).mono ?_
  rintro eb w4 ⟨fb, rfl, hb, h01⟩
  have HB4 := Lib.hid (Below.next HB3.out hb)
  have HE4 := Lib.hid (HE3.out.next hb)
  clear HB3 HE3 hltE_ qE0 qE1 qE2 qE3 qE4 qE5 qE6 qE7 qE8 qE9 qE10 hb
  rcases h01 with rfl | ⟨rfl, hlenb⟩
  · skip
    go_wp2_with (fail)
    refine (HAW.out _ HB4.out).mono ?_
    rintro e w5 ⟨rfl, hb⟩
    have HB5 := Lib.hid (Below.next HB4.out hb)
    have HE5 := Lib.hid (HE4.out.next hb)
    clear HB4 HE4  hb
    go_wp2_with (fail)
    go_ret
    exact ⟨rfl, HB5.out⟩
  have hltE_ := HE4.out.lt
  have qE0 := HE4.out.c 0 _ rfl
  have qE1 := HE4.out.c 1 _ rfl
  have qE2 := HE4.out.c 2 _ rfl
  have qE3 := HE4.out.c 3 _ rfl
  have qE4 := HE4.out.c 4 _ rfl
  have qE5 := HE4.out.c 5 _ rfl
  have qE6 := HE4.out.c 6 _ rfl
  have qE7 := HE4.out.c 7 _ rfl
  have qE8 := HE4.out.c 8 _ rfl
  have qE9 := HE4.out.c 9 _ rfl
  have qE10 := HE4.out.c 10 _ rfl
  go_wp2_with (fail)
  refine (few9_any c C cc k v e _ (HNc.out.next HB4.out)).mono ?_
  rintro ec w5 ⟨fb, rfl, hb, h01⟩
  have HB5 := Lib.hid (Below.next HB4.out hb)
  have HE5 := Lib.hid (HE4.out.next hb)
  clear HB4 HE4 hltE_ qE0 qE1 qE2 qE3 qE4 qE5 qE6 qE7 qE8 qE9 qE10 hb
  rcases h01 with rfl | ⟨rfl, hlenc⟩
  · skip
    go_wp2_with (fail)
    refine (HAW.out _ HB5.out).mono ?_
    rintro e w6 ⟨rfl, hb⟩
    have HB6 := Lib.hid (Below.next HB5.out hb)
    have HE6 := Lib.hid (HE5.out.next hb)
    clear HB5 HE5  hb
    go_wp2_with (fail)
    go_ret
    exact ⟨rfl, HB6.out⟩
  have HW0 : Hid (Below w5.heap.size w5 (w5.alloc (.cells #[.int .i64 11, .int .i64 0, .int .i64 0, .string ⟨#[]⟩, .int .i64 0, .int .i64 0] 45))) := box1 w5 _
  have HO0 : Hid ((w5.alloc (.cells #[.int .i64 11, .int .i64 0, .int .i64 0, .string ⟨#[]⟩, .int .i64 0, .int .i64 0] 45)).ownsRow w5.heap.size 45 6 (.slice none 0 0) 0 []) := World.ownsRow_nil _ _ _ _
  go_wp2_with (first
    | (refine wpList_app _ rfl (.tmp 39) (.tmp 41) 22 rfl w5.heap.size 45 i0 (nov nz) 6 56 Tryz.underlying22 HI0.out HI1.out HI2.out HI3.out rfl (by decide) (.slice none 0 0) (0) ([]) (by simp [Act.eval]) HO0.out (some ⟨w5.heap.size, 0, none⟩) 1 1 (ncl ⟨11, vz⟩) (by simp [Act.eval]) rfl (fun _ => ⟨_, rfl, six_at w5 ⟨11, vz⟩ _ _ rfl⟩) (ncl_one _) (by unfold maxLen; omega) (by omega) HW0.out.size ?_
       intro v1 y1 ho hg
       have HW1 := Lib.hid (HW0.out.grown hg HW0.out.size (fun q hq => (HO0.out.lt q hq).1)); have HO1 := Lib.hid ho
       clear ho hg)
    | (refine wpList_app _ rfl (.tmp 42) (.tmp 43) 22 rfl w5.heap.size 45 i0 (nov nz) 6 56 Tryz.underlying22 HI0.out HI1.out HI2.out HI3.out rfl (by decide) v1 (0 + 1) ([] ++ ncl ⟨11, vz⟩) (by simp [Act.eval]) HO1.out A a.length ca (cells a) (by simp [Act.eval]) (by rw [cells_len]) (nds_news ((HNa.out.next HB5.out).next HW1.out)) (cells_one _) (by unfold maxLen; omega) (by omega) HW1.out.size ?_
       intro v2 y2 ho hg
       have HW2 := Lib.hid (HW1.out.grown hg HW1.out.size (fun q hq => (HO1.out.lt q hq).1)); have HO2 := Lib.hid ho
       clear ho hg)
    | (refine wpList_app _ rfl (.tmp 44) (.tmp 45) 22 rfl w5.heap.size 45 i0 (nov nz) 6 56 Tryz.underlying22 HI0.out HI1.out HI2.out HI3.out rfl (by decide) v2 (0 + 1 + a.length) ([] ++ ncl ⟨11, vz⟩ ++ cells a) (by simp [Act.eval]) HO2.out B b.length cb (cells b) (by simp [Act.eval]) (by rw [cells_len]) (nds_news ((HNb.out.next HB5.out).next HW2.out)) (cells_one _) (by unfold maxLen; omega) (by omega) HW2.out.size ?_
       intro v3 y3 ho hg
       have HW3 := Lib.hid (HW2.out.grown hg HW2.out.size (fun q hq => (HO2.out.lt q hq).1)); have HO3 := Lib.hid ho
       clear ho hg)
    | (refine wpList_app _ rfl (.tmp 46) (.tmp 47) 22 rfl w5.heap.size 45 i0 (nov nz) 6 56 Tryz.underlying22 HI0.out HI1.out HI2.out HI3.out rfl (by decide) v3 (0 + 1 + a.length + b.length) ([] ++ ncl ⟨11, vz⟩ ++ cells a ++ cells b) (by simp [Act.eval]) HO3.out C c.length cc (cells c) (by simp [Act.eval]) (by rw [cells_len]) (nds_news ((HNc.out.next HB5.out).next HW3.out)) (cells_one _) (by unfold maxLen; omega) (by omega) HW3.out.size ?_
       intro v4 y4 ho hg
       have HW4 := Lib.hid (HW3.out.grown hg HW3.out.size (fun q hq => (HO3.out.lt q hq).1)); have HO4 := Lib.hid ho
       clear ho hg))
  obtain ⟨Al, cl, hv4⟩ := own_slice HO4.out
  have hlen : 0 + 1 + a.length + b.length + c.length = (ifL a b c).length := by show _ = (⟨11, vz⟩ :: (a ++ (b ++ c)) : List No).length; simp; omega
  have hcl : [] ++ ncl ⟨11, vz⟩ ++ cells a ++ cells b ++ cells c = cells (ifL a b c) := by
    show _ = cells (⟨11, vz⟩ :: (a ++ (b ++ c)))
    unfold cells
    simp
  have HL : Hid (Nds y4 Al (ifL a b c)) := by
    have h := HO4.out
    rw [hlen, hcl, hv4, hlen] at h
    exact Nds.of_own h
  subst hv4
  have hll : (ifL a b c).length ≤ 1000 := by omega
  rw [hlen]
  have hb := HW4.out
  clear HW0 HW1 HW2 HW3 HW4 HO0 HO1 HO2 HO3 HO4 HI0 HI1 HI2 HI3 hcl
  generalize y4 = w6 at *
  have HB6 := Lib.hid (Below.next HB5.out hb)
  have HE6 := Lib.hid (HE5.out.next hb)
  clear HB5 HE5  hb
  have HL6 := HL
  clear HL
  go_wp2_with (fail)
  refine (HOFa.out _ HB6.out (by omega)).mono ?_
  rintro eo w7 ⟨Ap, cp, rfl, hop, hb⟩
  have HP7 : Hid (Nds w7 Ap a) := Nds.of_own hop
  clear hop
  have HB7 := Lib.hid (Below.next HB6.out hb)
  have HE7 := Lib.hid (HE6.out.next hb)
  have HL7 := Lib.hid (HL6.out.next hb)
  clear HB6 HE6 HL6  hb
  go_wp2_with (fail)
  refine (HRI.out a _ HB7.out Ap cp HP7.out (by omega)).mono ?_
  rintro e w8 ⟨rfl, hb⟩
  have HB8 := Lib.hid (Below.next HB7.out hb)
  have HE8 := Lib.hid (HE7.out.next hb)
  have HL8 := Lib.hid (HL7.out.next hb)
  have HP8 := Lib.hid (HP7.out.next hb)
  clear HB7 HE7 HL7 HP7  hb
  clear HP8
  rcases Bool.eq_false_or_eq_true (Rt a) with hra | hra
  rotate_left
  · rw [hra]
    go_wp2_with (fail)
    go_ret
    exact ⟨rfl, HB8.out⟩
  rw [hra]
  have HRa := Lib.hid hra
  clear hra
  go_wp2_with (fail)
  refine (HOFb.out _ HB8.out (by omega)).mono ?_
  rintro eo w9 ⟨Ap, cp, rfl, hop, hb⟩
  have HP9 : Hid (Nds w9 Ap b) := Nds.of_own hop
  clear hop
  have HB9 := Lib.hid (Below.next HB8.out hb)
  have HE9 := Lib.hid (HE8.out.next hb)
  have HL9 := Lib.hid (HL8.out.next hb)
  clear HB8 HE8 HL8  hb
  go_wp2_with (fail)
  refine (HRI.out b _ HB9.out Ap cp HP9.out (by omega)).mono ?_
  rintro e w10 ⟨rfl, hb⟩
  have HB10 := Lib.hid (Below.next HB9.out hb)
  have HE10 := Lib.hid (HE9.out.next hb)
  have HL10 := Lib.hid (HL9.out.next hb)
  have HP10 := Lib.hid (HP9.out.next hb)
  clear HB9 HE9 HL9 HP9  hb
  clear HP10
  rcases Bool.eq_false_or_eq_true (Rt b) with hrb | hrb
  rotate_left
  · rw [hrb]
    go_wp2_with (fail)
    go_ret
    exact ⟨rfl, HB10.out⟩
  rw [hrb]
  have HRb := Lib.hid hrb
  clear hrb
  go_wp2_with (fail)
  refine (HOFc.out _ HB10.out (by omega)).mono ?_
  rintro eo w11 ⟨Ap, cp, rfl, hop, hb⟩
  have HP11 : Hid (Nds w11 Ap c) := Nds.of_own hop
  clear hop
  have HB11 := Lib.hid (Below.next HB10.out hb)
  have HE11 := Lib.hid (HE10.out.next hb)
  have HL11 := Lib.hid (HL10.out.next hb)
  clear HB10 HE10 HL10  hb
  go_wp2_with (fail)
  refine (HRI.out c _ HB11.out Ap cp HP11.out (by omega)).mono ?_
  rintro e w12 ⟨rfl, hb⟩
  have HB12 := Lib.hid (Below.next HB11.out hb)
  have HE12 := Lib.hid (HE11.out.next hb)
  have HL12 := Lib.hid (HL11.out.next hb)
  have HP12 := Lib.hid (HP11.out.next hb)
  clear HB11 HE11 HL11 HP11  hb
  clear HP12
  rcases Bool.eq_false_or_eq_true (Rt c) with hrc | hrc
  rotate_left
  · rw [hrc]
    go_wp2_with (fail)
    go_ret
    exact ⟨rfl, HB12.out⟩
  rw [hrc]
  have HRc := Lib.hid hrc
  clear hrc
  go_wp2_with (fail)
  refine (of_any (ifL a b c) Al cl _ HL12.out hll).mono ?_
  rintro eo w13 ⟨Ap, cp, rfl, hop, hb⟩
  have HP13 : Hid (Nds w13 Ap (ifL a b c)) := Nds.of_own hop
  clear hop
  have HB13 := Lib.hid (Below.next HB12.out hb)
  have HE13 := Lib.hid (HE12.out.next hb)
  have HL13 := Lib.hid (HL12.out.next hb)
  clear HB12 HE12 HL12  hb
  go_wp2_with (fail)
  refine (HRI.out (ifL a b c) _ HB13.out Ap cp HP13.out (by omega)).mono ?_
  rintro e w14 ⟨rfl, hb⟩
  have HB14 := Lib.hid (Below.next HB13.out hb)
  have HE14 := Lib.hid (HE13.out.next hb)
  have HL14 := Lib.hid (HL13.out.next hb)
  have HP14 := Lib.hid (HP13.out.next hb)
  clear HB13 HE13 HL13 HP13  hb
  clear HP14
  rcases Bool.eq_false_or_eq_true (Rt (ifL a b c)) with hrl | hrl
  rotate_left
  · rw [hrl]
    go_wp2_with (fail)
    go_ret
    exact ⟨rfl, HB14.out⟩
  rw [hrl]
  have HRl := Lib.hid hrl
  clear hrl
  obtain ⟨X, hX⟩ : ∃ X, rnX a k v e 3000 = X := ⟨_, rfl⟩
  cases X with
  | er x =>
    go_upto_region 7 with fail
    go_cut [10, 11] from 71 to 77 (fun sr se wx => ∃ (b1 : Nat), sr = .pointer (some ⟨b1, 0, none⟩) ∧ se = .int .i64 x ∧ Below w.heap.size w wx ∧ Blk wx w.heap.size [.string (tx k), .int .i64 v.k, .int .i64 v.n, .string (tx v.s), .int .i64 v.x, .int .i64 v.y, .int .i64 e.k, .int .i64 e.n, .string (tx e.s), .int .i64 e.x, .int .i64 e.y] ∧ Nds wx Al (ifL a b c) ∧ Blk wx b1 [.int .i64 0, .int .i64 0, .string ⟨#[]⟩, .int .i64 0, .int .i64 0, .slice none 0 0, .int .i64 0] ∧ x ≠ 0)
    case first =>
      have hltE_ := HE14.out.lt
      have qE0 := HE14.out.c 0 _ rfl
      have qE1 := HE14.out.c 1 _ rfl
      have qE2 := HE14.out.c 2 _ rfl
      have qE3 := HE14.out.c 3 _ rfl
      have qE4 := HE14.out.c 4 _ rfl
      have qE5 := HE14.out.c 5 _ rfl
      have qE6 := HE14.out.c 6 _ rfl
      have qE7 := HE14.out.c 7 _ rfl
      have qE8 := HE14.out.c 8 _ rfl
      have qE9 := HE14.out.c 9 _ rfl
      have qE10 := HE14.out.c 10 _ rfl
      go_region_held3 (fun w' => w'.cell? ⟨w.heap.size, 0, none⟩ = some (.string (tx k)) ∧ w'.cell? ⟨w.heap.size, 1, none⟩ = some (.int .i64 v.k) ∧ w'.cell? ⟨w.heap.size, 2, none⟩ = some (.int .i64 v.n) ∧ w'.cell? ⟨w.heap.size, 3, none⟩ = some (.string (tx v.s)) ∧ w'.cell? ⟨w.heap.size, 4, none⟩ = some (.int .i64 v.x) ∧ w'.cell? ⟨w.heap.size, 5, none⟩ = some (.int .i64 v.y) ∧ w'.cell? ⟨w.heap.size, 6, none⟩ = some (.int .i64 e.k) ∧ w'.cell? ⟨w.heap.size, 7, none⟩ = some (.int .i64 e.n) ∧ w'.cell? ⟨w.heap.size, 8, none⟩ = some (.string (tx e.s)) ∧ w'.cell? ⟨w.heap.size, 9, none⟩ = some (.int .i64 e.x) ∧ w'.cell? ⟨w.heap.size, 10, none⟩ = some (.int .i64 e.y)) (go_keep)
        (first
        | (go_at_call 10
           refine (HOFa.out _ (below_drewN HB14.out 1) (by omega)).mono ?_
           rintro eo w15 ⟨Ap, cp, rfl, hop, hb⟩
           have hW : Below w14.heap.size w14 _ := below_drewN (Below.refl _ _) 1
           have HB15 := Lib.hid (Below.next (below_drewN HB14.out 1) hb)
           have HE15 := Lib.hid ((HE14.out.next hW).next hb)
           have HL15 := Lib.hid ((HL14.out.next hW).next hb)
           have HP15 : Hid (Nds w15 Ap a) := Nds.of_own hop
           have hszm : w14.heap.size ≤ w15.heap.size := Nat.le_trans hW.size hb.size
           have hneE1 : w14.heap.size ≠ w.heap.size := by have := HE14.out.lt; omega
           have hneE2 : w15.heap.size ≠ w.heap.size := by have := HE15.out.lt; omega
           have mE0 := HE15.out.c 0 _ rfl; have mE1 := HE15.out.c 1 _ rfl; have mE2 := HE15.out.c 2 _ rfl; have mE3 := HE15.out.c 3 _ rfl; have mE4 := HE15.out.c 4 _ rfl; have mE5 := HE15.out.c 5 _ rfl; have mE6 := HE15.out.c 6 _ rfl; have mE7 := HE15.out.c 7 _ rfl; have mE8 := HE15.out.c 8 _ rfl; have mE9 := HE15.out.c 9 _ rfl; have mE10 := HE15.out.c 10 _ rfl; have hltEm := HE15.out.lt
           clear hop hb hW)
        | (go_at_call 10
           refine (HOFa.out _ ((below_drewN HB14.out 1).alloc HB14.out.size (.cells #[.int .i64 0, .int .i64 0, .string ⟨#[]⟩, .int .i64 0, .int .i64 0, .slice none 0 0, .int .i64 0] 36)) (by omega)).mono ?_
           rintro eo w15 ⟨Ap, cp, rfl, hop, hb⟩
           have hW : Below w14.heap.size w14 _ := (below_drewN (Below.refl _ _) 1).alloc (Nat.le_refl _) (.cells #[.int .i64 0, .int .i64 0, .string ⟨#[]⟩, .int .i64 0, .int .i64 0, .slice none 0 0, .int .i64 0] 36)
           have HB15 := Lib.hid (Below.next ((below_drewN HB14.out 1).alloc HB14.out.size (.cells #[.int .i64 0, .int .i64 0, .string ⟨#[]⟩, .int .i64 0, .int .i64 0, .slice none 0 0, .int .i64 0] 36)) hb)
           have HE15 := Lib.hid ((HE14.out.next hW).next hb)
           have HL15 := Lib.hid ((HL14.out.next hW).next hb)
           have HP15 : Hid (Nds w15 Ap a) := Nds.of_own hop
           have hszm : w14.heap.size ≤ w15.heap.size := Nat.le_trans hW.size hb.size
           have hneE1 : w14.heap.size ≠ w.heap.size := by have := HE14.out.lt; omega
           have hneE2 : w15.heap.size ≠ w.heap.size := by have := HE15.out.lt; omega
           have HZ15 : Hid (Blk w15 w14.heap.size rz7) := (Blk.made (w14.drewN 1) 36 rz7 rfl).next hb
           have hzlt := HZ15.out.lt
           have mE0 := HE15.out.c 0 _ rfl; have mE1 := HE15.out.c 1 _ rfl; have mE2 := HE15.out.c 2 _ rfl; have mE3 := HE15.out.c 3 _ rfl; have mE4 := HE15.out.c 4 _ rfl; have mE5 := HE15.out.c 5 _ rfl; have mE6 := HE15.out.c 6 _ rfl; have mE7 := HE15.out.c 7 _ rfl; have mE8 := HE15.out.c 8 _ rfl; have mE9 := HE15.out.c 9 _ rfl; have mE10 := HE15.out.c 10 _ rfl; have hltEm := HE15.out.lt
           clear hop hb hW)
        | (go_at_call 11
           refine (HRU.out a (3000) _ HB15.out Ap cp HP15.out (by omega)).mono ?_
           rintro eo w16 ⟨hb, hq⟩
           rw [hX] at hq
           have hW : Below w15.heap.size w15 _ := Below.refl _ _
           obtain ⟨hx0, rfl⟩ := hq
           have HX0 := Lib.hid hx0
           clear hx0
           have HB16 := Lib.hid (Below.next HB15.out hb)
           have HE16 := Lib.hid ((HE15.out.next hW).next hb)
           have HL16 := Lib.hid ((HL15.out.next hW).next hb)
           try have HZ16 := Lib.hid (HZ15.out.next hb)
           try (have zc0 := HZ16.out.c 0 _ rfl; have zf0 := HZ16.out.f 0 _ rfl; have zc1 := HZ16.out.c 1 _ rfl; have zf1 := HZ16.out.f 1 _ rfl; have zc2 := HZ16.out.c 2 _ rfl; have zf2 := HZ16.out.f 2 _ rfl; have zc3 := HZ16.out.c 3 _ rfl; have zf3 := HZ16.out.f 3 _ rfl; have zc4 := HZ16.out.c 4 _ rfl; have zf4 := HZ16.out.f 4 _ rfl; have zc5 := HZ16.out.c 5 _ rfl; have zf5 := HZ16.out.f 5 _ rfl; have zc6 := HZ16.out.c 6 _ rfl; have zf6 := HZ16.out.f 6 _ rfl)
           try (have hltz := HZ16.out.lt)
           have hszn : w15.heap.size ≤ w16.heap.size := Nat.le_trans hW.size hb.size
           have nE0 := HE16.out.c 0 _ rfl; have nE1 := HE16.out.c 1 _ rfl; have nE2 := HE16.out.c 2 _ rfl; have nE3 := HE16.out.c 3 _ rfl; have nE4 := HE16.out.c 4 _ rfl; have nE5 := HE16.out.c 5 _ rfl; have nE6 := HE16.out.c 6 _ rfl; have nE7 := HE16.out.c 7 _ rfl; have nE8 := HE16.out.c 8 _ rfl; have nE9 := HE16.out.c 9 _ rfl; have nE10 := HE16.out.c 10 _ rfl; have hltEn := HE16.out.lt
           clear hb hW)
        | (go_at_call 11
           refine (HRU.out a (3000) _ (Below.next HB15.out (box1 w15 (.cells #[.int .i64 0, .int .i64 0, .string ⟨#[]⟩, .int .i64 0, .int .i64 0, .slice none 0 0, .int .i64 0] 36))) Ap cp (HP15.out.next (box1 w15 (.cells #[.int .i64 0, .int .i64 0, .string ⟨#[]⟩, .int .i64 0, .int .i64 0, .slice none 0 0, .int .i64 0] 36))) (by omega)).mono ?_
           rintro eo w16 ⟨hb, hq⟩
           rw [hX] at hq
           have hW : Below w15.heap.size w15 _ := box1 w15 (.cells #[.int .i64 0, .int .i64 0, .string ⟨#[]⟩, .int .i64 0, .int .i64 0, .slice none 0 0, .int .i64 0] 36)
           obtain ⟨hx0, rfl⟩ := hq
           have HX0 := Lib.hid hx0
           clear hx0
           have HB16 := Lib.hid (Below.next (Below.next HB15.out (box1 w15 (.cells #[.int .i64 0, .int .i64 0, .string ⟨#[]⟩, .int .i64 0, .int .i64 0, .slice none 0 0, .int .i64 0] 36))) hb)
           have HE16 := Lib.hid ((HE15.out.next hW).next hb)
           have HL16 := Lib.hid ((HL15.out.next hW).next hb)
           have HZ16 : Hid (Blk w16 w15.heap.size rz7) := (Blk.made w15 36 rz7 rfl).next hb
           try (have zc0 := HZ16.out.c 0 _ rfl; have zf0 := HZ16.out.f 0 _ rfl; have zc1 := HZ16.out.c 1 _ rfl; have zf1 := HZ16.out.f 1 _ rfl; have zc2 := HZ16.out.c 2 _ rfl; have zf2 := HZ16.out.f 2 _ rfl; have zc3 := HZ16.out.c 3 _ rfl; have zf3 := HZ16.out.f 3 _ rfl; have zc4 := HZ16.out.c 4 _ rfl; have zf4 := HZ16.out.f 4 _ rfl; have zc5 := HZ16.out.c 5 _ rfl; have zf5 := HZ16.out.f 5 _ rfl; have zc6 := HZ16.out.c 6 _ rfl; have zf6 := HZ16.out.f 6 _ rfl)
           try (have hltz := HZ16.out.lt)
           have hszn : w15.heap.size ≤ w16.heap.size := Nat.le_trans hW.size hb.size
           have nE0 := HE16.out.c 0 _ rfl; have nE1 := HE16.out.c 1 _ rfl; have nE2 := HE16.out.c 2 _ rfl; have nE3 := HE16.out.c 3 _ rfl; have nE4 := HE16.out.c 4 _ rfl; have nE5 := HE16.out.c 5 _ rfl; have nE6 := HE16.out.c 6 _ rfl; have nE7 := HE16.out.c 7 _ rfl; have nE8 := HE16.out.c 8 _ rfl; have nE9 := HE16.out.c 9 _ rfl; have nE10 := HE16.out.c 10 _ rfl; have hltEn := HE16.out.lt
           clear hb hW))
      all_goals (rename_i hHd; clear hHd)
      all_goals go_wp2_with fail
      all_goals go_meet
      · exact ⟨w16.heap.size, rfl, rfl, Below.next HB16.out (box1 w16 _), HE16.out.next (box1 w16 _), HL16.out.next (box1 w16 _), Blk.made w16 36 [.int .i64 0, .int .i64 0, .string ⟨#[]⟩, .int .i64 0, .int .i64 0, .slice none 0 0, .int .i64 0] rfl, HX0.out⟩
      · have hp : (((((((w16.setCell ⟨w15.heap.size, 0, none⟩ (.int .i64 0)).setCell ⟨w15.heap.size, 1, none⟩ (.int .i64 0)).setCell ⟨w15.heap.size, 2, none⟩ (.string ⟨#[]⟩)).setCell ⟨w15.heap.size, 3, none⟩ (.int .i64 0)).setCell ⟨w15.heap.size, 4, none⟩ (.int .i64 0)).setCell ⟨w15.heap.size, 5, none⟩ (.slice none 0 0)).setCell ⟨w15.heap.size, 6, none⟩ (.int .i64 0)) = putL w16 w15.heap.size 0 [.int .i64 0, .int .i64 0, .string ⟨#[]⟩, .int .i64 0, .int .i64 0, .slice none 0 0, .int .i64 0] := rfl
        rw [hp]
        clear hp
        have hzle : w14.heap.size ≤ w15.heap.size := by omega
        have k1 := below_puts (B := w15.heap.size) [.int .i64 0, .int .i64 0, .string ⟨#[]⟩, .int .i64 0, .int .i64 0, .slice none 0 0, .int .i64 0] 0 HB16.out (by have := HB14.out.size; omega)
        have kE := blk_puts_other (C := w15.heap.size) (by omega) [.int .i64 0, .int .i64 0, .string ⟨#[]⟩, .int .i64 0, .int .i64 0, .slice none 0 0, .int .i64 0] 0 HE16.out
        have kL := nds_far (z := w15.heap.size) HL14.out HL16.out hzle [.int .i64 0, .int .i64 0, .string ⟨#[]⟩, .int .i64 0, .int .i64 0, .slice none 0 0, .int .i64 0] 0
        have kz : Blk (putL w16 w15.heap.size 0 [.int .i64 0, .int .i64 0, .string ⟨#[]⟩, .int .i64 0, .int .i64 0, .slice none 0 0, .int .i64 0]) w15.heap.size [.int .i64 0, .int .i64 0, .string ⟨#[]⟩, .int .i64 0, .int .i64 0, .slice none 0 0, .int .i64 0] := blk_puts [.int .i64 0, .int .i64 0, .string ⟨#[]⟩, .int .i64 0, .int .i64 0, .slice none 0 0, .int .i64 0] 0 HZ16.out (Nat.le_refl 7)
        generalize putL w16 w15.heap.size 0 [.int .i64 0, .int .i64 0, .string ⟨#[]⟩, .int .i64 0, .int .i64 0, .slice none 0 0, .int .i64 0] = wq at *
        exact ⟨w15.heap.size, rfl, rfl, k1, kE, kL, kz, HX0.out⟩
      · have hp : (((((((w16.setCell ⟨w14.heap.size, 0, none⟩ (.int .i64 0)).setCell ⟨w14.heap.size, 1, none⟩ (.int .i64 0)).setCell ⟨w14.heap.size, 2, none⟩ (.string ⟨#[]⟩)).setCell ⟨w14.heap.size, 3, none⟩ (.int .i64 0)).setCell ⟨w14.heap.size, 4, none⟩ (.int .i64 0)).setCell ⟨w14.heap.size, 5, none⟩ (.slice none 0 0)).setCell ⟨w14.heap.size, 6, none⟩ (.int .i64 0)) = putL w16 w14.heap.size 0 [.int .i64 0, .int .i64 0, .string ⟨#[]⟩, .int .i64 0, .int .i64 0, .slice none 0 0, .int .i64 0] := rfl
        rw [hp]
        clear hp
        have hzle : w14.heap.size ≤ w14.heap.size := by omega
        have k1 := below_puts (B := w14.heap.size) [.int .i64 0, .int .i64 0, .string ⟨#[]⟩, .int .i64 0, .int .i64 0, .slice none 0 0, .int .i64 0] 0 HB16.out (by have := HB14.out.size; omega)
        have kE := blk_puts_other (C := w14.heap.size) (by omega) [.int .i64 0, .int .i64 0, .string ⟨#[]⟩, .int .i64 0, .int .i64 0, .slice none 0 0, .int .i64 0] 0 HE16.out
        have kL := nds_far (z := w14.heap.size) HL14.out HL16.out hzle [.int .i64 0, .int .i64 0, .string ⟨#[]⟩, .int .i64 0, .int .i64 0, .slice none 0 0, .int .i64 0] 0
        have kz : Blk (putL w16 w14.heap.size 0 [.int .i64 0, .int .i64 0, .string ⟨#[]⟩, .int .i64 0, .int .i64 0, .slice none 0 0, .int .i64 0]) w14.heap.size [.int .i64 0, .int .i64 0, .string ⟨#[]⟩, .int .i64 0, .int .i64 0, .slice none 0 0, .int .i64 0] := blk_puts [.int .i64 0, .int .i64 0, .string ⟨#[]⟩, .int .i64 0, .int .i64 0, .slice none 0 0, .int .i64 0] 0 HZ16.out (Nat.le_refl 7)
        generalize putL w16 w14.heap.size 0 [.int .i64 0, .int .i64 0, .string ⟨#[]⟩, .int .i64 0, .int .i64 0, .slice none 0 0, .int .i64 0] = wq at *
        exact ⟨w14.heap.size, rfl, rfl, k1, kE, kL, kz, HX0.out⟩
    case rest =>
    obtain ⟨b1, rfl, rfl, hB, hE, hL, hbx, hx0⟩ := hcut
    have HB15 := Lib.hid hB; have HE15 := Lib.hid hE; have HL15 := Lib.hid hL; have HRb115 := Lib.hid hbx
    have hx1 : (x == 0) = false := by simpa using hx0
    have hx2 : (x != 0) = true := by simpa using hx0
    clear hB hE hL hbx  HB14 HE14 HL14
    generalize wc = w15 at *
    have hltRb1_ := HRb115.out.lt
    have qRb10 := HRb115.out.c 0 _ rfl
    have qRb11 := HRb115.out.c 1 _ rfl
    have qRb12 := HRb115.out.c 2 _ rfl
    have qRb13 := HRb115.out.c 3 _ rfl
    have qRb14 := HRb115.out.c 4 _ rfl
    have qRb15 := HRb115.out.c 5 _ rfl
    have qRb16 := HRb115.out.c 6 _ rfl
    go_wp2_with (fail)
    go_ret
    exact ⟨rfl, HB15.out⟩
  | ok u S m =>
    go_upto_region 7 with fail
    go_cut [10, 11] from 71 to 77 (fun sr se wx => ∃ (b1 : Nat) (Ao : Option Addr) (co : Nat), sr = .pointer (some ⟨b1, 0, none⟩) ∧ se = .int .i64 0 ∧ Below w.heap.size w wx ∧ Blk wx w.heap.size [.string (tx k), .int .i64 v.k, .int .i64 v.n, .string (tx v.s), .int .i64 v.x, .int .i64 v.y, .int .i64 e.k, .int .i64 e.n, .string (tx e.s), .int .i64 e.x, .int .i64 e.y] ∧ Nds wx Al (ifL a b c) ∧ Blk wx b1 [.int .i64 u.k, .int .i64 u.n, .string (tx u.s), .int .i64 u.x, .int .i64 u.y, .slice Ao S.out.length co, .int .i64 (m : Int)] ∧ Prs wx Ao S.out)
    case first =>
      have hltE_ := HE14.out.lt
      have qE0 := HE14.out.c 0 _ rfl
      have qE1 := HE14.out.c 1 _ rfl
      have qE2 := HE14.out.c 2 _ rfl
      have qE3 := HE14.out.c 3 _ rfl
      have qE4 := HE14.out.c 4 _ rfl
      have qE5 := HE14.out.c 5 _ rfl
      have qE6 := HE14.out.c 6 _ rfl
      have qE7 := HE14.out.c 7 _ rfl
      have qE8 := HE14.out.c 8 _ rfl
      have qE9 := HE14.out.c 9 _ rfl
      have qE10 := HE14.out.c 10 _ rfl
      go_region_held3 (fun w' => w'.cell? ⟨w.heap.size, 0, none⟩ = some (.string (tx k)) ∧ w'.cell? ⟨w.heap.size, 1, none⟩ = some (.int .i64 v.k) ∧ w'.cell? ⟨w.heap.size, 2, none⟩ = some (.int .i64 v.n) ∧ w'.cell? ⟨w.heap.size, 3, none⟩ = some (.string (tx v.s)) ∧ w'.cell? ⟨w.heap.size, 4, none⟩ = some (.int .i64 v.x) ∧ w'.cell? ⟨w.heap.size, 5, none⟩ = some (.int .i64 v.y) ∧ w'.cell? ⟨w.heap.size, 6, none⟩ = some (.int .i64 e.k) ∧ w'.cell? ⟨w.heap.size, 7, none⟩ = some (.int .i64 e.n) ∧ w'.cell? ⟨w.heap.size, 8, none⟩ = some (.string (tx e.s)) ∧ w'.cell? ⟨w.heap.size, 9, none⟩ = some (.int .i64 e.x) ∧ w'.cell? ⟨w.heap.size, 10, none⟩ = some (.int .i64 e.y)) (go_keep)
        (first
        | (go_at_call 10
           refine (HOFa.out _ (below_drewN HB14.out 1) (by omega)).mono ?_
           rintro eo w15 ⟨Ap, cp, rfl, hop, hb⟩
           have hW : Below w14.heap.size w14 _ := below_drewN (Below.refl _ _) 1
           have HB15 := Lib.hid (Below.next (below_drewN HB14.out 1) hb)
           have HE15 := Lib.hid ((HE14.out.next hW).next hb)
           have HL15 := Lib.hid ((HL14.out.next hW).next hb)
           have HP15 : Hid (Nds w15 Ap a) := Nds.of_own hop
           have hszm : w14.heap.size ≤ w15.heap.size := Nat.le_trans hW.size hb.size
           have hneE1 : w14.heap.size ≠ w.heap.size := by have := HE14.out.lt; omega
           have hneE2 : w15.heap.size ≠ w.heap.size := by have := HE15.out.lt; omega
           have mE0 := HE15.out.c 0 _ rfl; have mE1 := HE15.out.c 1 _ rfl; have mE2 := HE15.out.c 2 _ rfl; have mE3 := HE15.out.c 3 _ rfl; have mE4 := HE15.out.c 4 _ rfl; have mE5 := HE15.out.c 5 _ rfl; have mE6 := HE15.out.c 6 _ rfl; have mE7 := HE15.out.c 7 _ rfl; have mE8 := HE15.out.c 8 _ rfl; have mE9 := HE15.out.c 9 _ rfl; have mE10 := HE15.out.c 10 _ rfl; have hltEm := HE15.out.lt
           clear hop hb hW)
        | (go_at_call 10
           refine (HOFa.out _ ((below_drewN HB14.out 1).alloc HB14.out.size (.cells #[.int .i64 0, .int .i64 0, .string ⟨#[]⟩, .int .i64 0, .int .i64 0, .slice none 0 0, .int .i64 0] 36)) (by omega)).mono ?_
           rintro eo w15 ⟨Ap, cp, rfl, hop, hb⟩
           have hW : Below w14.heap.size w14 _ := (below_drewN (Below.refl _ _) 1).alloc (Nat.le_refl _) (.cells #[.int .i64 0, .int .i64 0, .string ⟨#[]⟩, .int .i64 0, .int .i64 0, .slice none 0 0, .int .i64 0] 36)
           have HB15 := Lib.hid (Below.next ((below_drewN HB14.out 1).alloc HB14.out.size (.cells #[.int .i64 0, .int .i64 0, .string ⟨#[]⟩, .int .i64 0, .int .i64 0, .slice none 0 0, .int .i64 0] 36)) hb)
           have HE15 := Lib.hid ((HE14.out.next hW).next hb)
           have HL15 := Lib.hid ((HL14.out.next hW).next hb)
           have HP15 : Hid (Nds w15 Ap a) := Nds.of_own hop
           have hszm : w14.heap.size ≤ w15.heap.size := Nat.le_trans hW.size hb.size
           have hneE1 : w14.heap.size ≠ w.heap.size := by have := HE14.out.lt; omega
           have hneE2 : w15.heap.size ≠ w.heap.size := by have := HE15.out.lt; omega
           have HZ15 : Hid (Blk w15 w14.heap.size rz7) := (Blk.made (w14.drewN 1) 36 rz7 rfl).next hb
           have hzlt := HZ15.out.lt
           have mE0 := HE15.out.c 0 _ rfl; have mE1 := HE15.out.c 1 _ rfl; have mE2 := HE15.out.c 2 _ rfl; have mE3 := HE15.out.c 3 _ rfl; have mE4 := HE15.out.c 4 _ rfl; have mE5 := HE15.out.c 5 _ rfl; have mE6 := HE15.out.c 6 _ rfl; have mE7 := HE15.out.c 7 _ rfl; have mE8 := HE15.out.c 8 _ rfl; have mE9 := HE15.out.c 9 _ rfl; have mE10 := HE15.out.c 10 _ rfl; have hltEm := HE15.out.lt
           clear hop hb hW)
        | (go_at_call 11
           refine (HRU.out a (3000) _ HB15.out Ap cp HP15.out (by omega)).mono ?_
           rintro eo w16 ⟨hb, hq⟩
           rw [hX] at hq
           have hW : Below w15.heap.size w15 _ := Below.refl _ _
           obtain ⟨Ao, co, ho, rfl⟩ := hq
           have HN16 : Hid (Prs w16 Ao S.out) := Prs.of_own ho
           try have HF := Lib.hid (own_far (lo := w14.heap.size) ho hzlt)
           clear ho
           have HB16 := Lib.hid (Below.next HB15.out hb)
           have HE16 := Lib.hid ((HE15.out.next hW).next hb)
           have HL16 := Lib.hid ((HL15.out.next hW).next hb)
           try have HZ16 := Lib.hid (HZ15.out.next hb)
           try (have zc0 := HZ16.out.c 0 _ rfl; have zf0 := HZ16.out.f 0 _ rfl; have zc1 := HZ16.out.c 1 _ rfl; have zf1 := HZ16.out.f 1 _ rfl; have zc2 := HZ16.out.c 2 _ rfl; have zf2 := HZ16.out.f 2 _ rfl; have zc3 := HZ16.out.c 3 _ rfl; have zf3 := HZ16.out.f 3 _ rfl; have zc4 := HZ16.out.c 4 _ rfl; have zf4 := HZ16.out.f 4 _ rfl; have zc5 := HZ16.out.c 5 _ rfl; have zf5 := HZ16.out.f 5 _ rfl; have zc6 := HZ16.out.c 6 _ rfl; have zf6 := HZ16.out.f 6 _ rfl)
           try (have hltz := HZ16.out.lt)
           have hszn : w15.heap.size ≤ w16.heap.size := Nat.le_trans hW.size hb.size
           have nE0 := HE16.out.c 0 _ rfl; have nE1 := HE16.out.c 1 _ rfl; have nE2 := HE16.out.c 2 _ rfl; have nE3 := HE16.out.c 3 _ rfl; have nE4 := HE16.out.c 4 _ rfl; have nE5 := HE16.out.c 5 _ rfl; have nE6 := HE16.out.c 6 _ rfl; have nE7 := HE16.out.c 7 _ rfl; have nE8 := HE16.out.c 8 _ rfl; have nE9 := HE16.out.c 9 _ rfl; have nE10 := HE16.out.c 10 _ rfl; have hltEn := HE16.out.lt
           clear hb hW)
        | (go_at_call 11
           refine (HRU.out a (3000) _ (Below.next HB15.out (box1 w15 (.cells #[.int .i64 0, .int .i64 0, .string ⟨#[]⟩, .int .i64 0, .int .i64 0, .slice none 0 0, .int .i64 0] 36))) Ap cp (HP15.out.next (box1 w15 (.cells #[.int .i64 0, .int .i64 0, .string ⟨#[]⟩, .int .i64 0, .int .i64 0, .slice none 0 0, .int .i64 0] 36))) (by omega)).mono ?_
           rintro eo w16 ⟨hb, hq⟩
           rw [hX] at hq
           have hW : Below w15.heap.size w15 _ := box1 w15 (.cells #[.int .i64 0, .int .i64 0, .string ⟨#[]⟩, .int .i64 0, .int .i64 0, .slice none 0 0, .int .i64 0] 36)
           obtain ⟨Ao, co, ho, rfl⟩ := hq
           have HN16 : Hid (Prs w16 Ao S.out) := Prs.of_own ho
           have HF := Lib.hid (own_far (lo := w15.heap.size) ho (by rw [World.size_alloc]; omega))
           clear ho
           have HB16 := Lib.hid (Below.next (Below.next HB15.out (box1 w15 (.cells #[.int .i64 0, .int .i64 0, .string ⟨#[]⟩, .int .i64 0, .int .i64 0, .slice none 0 0, .int .i64 0] 36))) hb)
           have HE16 := Lib.hid ((HE15.out.next hW).next hb)
           have HL16 := Lib.hid ((HL15.out.next hW).next hb)
           have HZ16 : Hid (Blk w16 w15.heap.size rz7) := (Blk.made w15 36 rz7 rfl).next hb
           try (have zc0 := HZ16.out.c 0 _ rfl; have zf0 := HZ16.out.f 0 _ rfl; have zc1 := HZ16.out.c 1 _ rfl; have zf1 := HZ16.out.f 1 _ rfl; have zc2 := HZ16.out.c 2 _ rfl; have zf2 := HZ16.out.f 2 _ rfl; have zc3 := HZ16.out.c 3 _ rfl; have zf3 := HZ16.out.f 3 _ rfl; have zc4 := HZ16.out.c 4 _ rfl; have zf4 := HZ16.out.f 4 _ rfl; have zc5 := HZ16.out.c 5 _ rfl; have zf5 := HZ16.out.f 5 _ rfl; have zc6 := HZ16.out.c 6 _ rfl; have zf6 := HZ16.out.f 6 _ rfl)
           try (have hltz := HZ16.out.lt)
           have hszn : w15.heap.size ≤ w16.heap.size := Nat.le_trans hW.size hb.size
           have nE0 := HE16.out.c 0 _ rfl; have nE1 := HE16.out.c 1 _ rfl; have nE2 := HE16.out.c 2 _ rfl; have nE3 := HE16.out.c 3 _ rfl; have nE4 := HE16.out.c 4 _ rfl; have nE5 := HE16.out.c 5 _ rfl; have nE6 := HE16.out.c 6 _ rfl; have nE7 := HE16.out.c 7 _ rfl; have nE8 := HE16.out.c 8 _ rfl; have nE9 := HE16.out.c 9 _ rfl; have nE10 := HE16.out.c 10 _ rfl; have hltEn := HE16.out.lt
           clear hb hW))
      all_goals (rename_i hHd; clear hHd)
      all_goals go_wp2_with fail
      all_goals go_meet
      · exact ⟨w16.heap.size, Ao, co, rfl, rfl, Below.next HB16.out (box1 w16 _), HE16.out.next (box1 w16 _), HL16.out.next (box1 w16 _), Blk.made w16 36 [.int .i64 u.k, .int .i64 u.n, .string (tx u.s), .int .i64 u.x, .int .i64 u.y, .slice Ao S.out.length co, .int .i64 (m : Int)] rfl, HN16.out.next (box1 w16 _)⟩
      · have hp : (((((((w16.setCell ⟨w15.heap.size, 0, none⟩ (.int .i64 u.k)).setCell ⟨w15.heap.size, 1, none⟩ (.int .i64 u.n)).setCell ⟨w15.heap.size, 2, none⟩ (.string (tx u.s))).setCell ⟨w15.heap.size, 3, none⟩ (.int .i64 u.x)).setCell ⟨w15.heap.size, 4, none⟩ (.int .i64 u.y)).setCell ⟨w15.heap.size, 5, none⟩ (.slice Ao S.out.length co)).setCell ⟨w15.heap.size, 6, none⟩ (.int .i64 (m : Int))) = putL w16 w15.heap.size 0 [.int .i64 u.k, .int .i64 u.n, .string (tx u.s), .int .i64 u.x, .int .i64 u.y, .slice Ao S.out.length co, .int .i64 (m : Int)] := rfl
        rw [hp]
        clear hp
        have hzle : w14.heap.size ≤ w15.heap.size := by omega
        have k1 := below_puts (B := w15.heap.size) [.int .i64 u.k, .int .i64 u.n, .string (tx u.s), .int .i64 u.x, .int .i64 u.y, .slice Ao S.out.length co, .int .i64 (m : Int)] 0 HB16.out (by have := HB14.out.size; omega)
        have kE := blk_puts_other (C := w15.heap.size) (by omega) [.int .i64 u.k, .int .i64 u.n, .string (tx u.s), .int .i64 u.x, .int .i64 u.y, .slice Ao S.out.length co, .int .i64 (m : Int)] 0 HE16.out
        have kL := nds_far (z := w15.heap.size) HL14.out HL16.out hzle [.int .i64 u.k, .int .i64 u.n, .string (tx u.s), .int .i64 u.x, .int .i64 u.y, .slice Ao S.out.length co, .int .i64 (m : Int)] 0
        have kz : Blk (putL w16 w15.heap.size 0 [.int .i64 u.k, .int .i64 u.n, .string (tx u.s), .int .i64 u.x, .int .i64 u.y, .slice Ao S.out.length co, .int .i64 (m : Int)]) w15.heap.size [.int .i64 u.k, .int .i64 u.n, .string (tx u.s), .int .i64 u.x, .int .i64 u.y, .slice Ao S.out.length co, .int .i64 (m : Int)] := blk_puts [.int .i64 u.k, .int .i64 u.n, .string (tx u.s), .int .i64 u.x, .int .i64 u.y, .slice Ao S.out.length co, .int .i64 (m : Int)] 0 HZ16.out (Nat.le_refl 7)
        have kn := prs_puts (z := w15.heap.size) [.int .i64 u.k, .int .i64 u.n, .string (tx u.s), .int .i64 u.x, .int .i64 u.y, .slice Ao S.out.length co, .int .i64 (m : Int)] 0 HN16.out HF.out
        generalize putL w16 w15.heap.size 0 [.int .i64 u.k, .int .i64 u.n, .string (tx u.s), .int .i64 u.x, .int .i64 u.y, .slice Ao S.out.length co, .int .i64 (m : Int)] = wq at *
        exact ⟨w15.heap.size, Ao, co, rfl, rfl, k1, kE, kL, kz, kn⟩
      · have hp : (((((((w16.setCell ⟨w14.heap.size, 0, none⟩ (.int .i64 u.k)).setCell ⟨w14.heap.size, 1, none⟩ (.int .i64 u.n)).setCell ⟨w14.heap.size, 2, none⟩ (.string (tx u.s))).setCell ⟨w14.heap.size, 3, none⟩ (.int .i64 u.x)).setCell ⟨w14.heap.size, 4, none⟩ (.int .i64 u.y)).setCell ⟨w14.heap.size, 5, none⟩ (.slice Ao S.out.length co)).setCell ⟨w14.heap.size, 6, none⟩ (.int .i64 (m : Int))) = putL w16 w14.heap.size 0 [.int .i64 u.k, .int .i64 u.n, .string (tx u.s), .int .i64 u.x, .int .i64 u.y, .slice Ao S.out.length co, .int .i64 (m : Int)] := rfl
        rw [hp]
        clear hp
        have hzle : w14.heap.size ≤ w14.heap.size := by omega
        have k1 := below_puts (B := w14.heap.size) [.int .i64 u.k, .int .i64 u.n, .string (tx u.s), .int .i64 u.x, .int .i64 u.y, .slice Ao S.out.length co, .int .i64 (m : Int)] 0 HB16.out (by have := HB14.out.size; omega)
        have kE := blk_puts_other (C := w14.heap.size) (by omega) [.int .i64 u.k, .int .i64 u.n, .string (tx u.s), .int .i64 u.x, .int .i64 u.y, .slice Ao S.out.length co, .int .i64 (m : Int)] 0 HE16.out
        have kL := nds_far (z := w14.heap.size) HL14.out HL16.out hzle [.int .i64 u.k, .int .i64 u.n, .string (tx u.s), .int .i64 u.x, .int .i64 u.y, .slice Ao S.out.length co, .int .i64 (m : Int)] 0
        have kz : Blk (putL w16 w14.heap.size 0 [.int .i64 u.k, .int .i64 u.n, .string (tx u.s), .int .i64 u.x, .int .i64 u.y, .slice Ao S.out.length co, .int .i64 (m : Int)]) w14.heap.size [.int .i64 u.k, .int .i64 u.n, .string (tx u.s), .int .i64 u.x, .int .i64 u.y, .slice Ao S.out.length co, .int .i64 (m : Int)] := blk_puts [.int .i64 u.k, .int .i64 u.n, .string (tx u.s), .int .i64 u.x, .int .i64 u.y, .slice Ao S.out.length co, .int .i64 (m : Int)] 0 HZ16.out (Nat.le_refl 7)
        have kn := prs_puts (z := w14.heap.size) [.int .i64 u.k, .int .i64 u.n, .string (tx u.s), .int .i64 u.x, .int .i64 u.y, .slice Ao S.out.length co, .int .i64 (m : Int)] 0 HN16.out HF.out
        generalize putL w16 w14.heap.size 0 [.int .i64 u.k, .int .i64 u.n, .string (tx u.s), .int .i64 u.x, .int .i64 u.y, .slice Ao S.out.length co, .int .i64 (m : Int)] = wq at *
        exact ⟨w14.heap.size, Ao, co, rfl, rfl, k1, kE, kL, kz, kn⟩
    case rest =>
    obtain ⟨b1, Ao, co, rfl, rfl, hB, hE, hL, hbx, hN⟩ := hcut
    have HB15 := Lib.hid hB; have HE15 := Lib.hid hE; have HL15 := Lib.hid hL; have HRb115 := Lib.hid hbx; have HS15 := Lib.hid hN
    clear hB hE hL hbx hN HB14 HE14 HL14
    generalize wc = w15 at *
    by_cases huk : u.k = 0
    rotate_left
    · have huk1 : (u.k != 0) = true := by simpa using huk
      have hltRb1_ := HRb115.out.lt
      have qRb10 := HRb115.out.c 0 _ rfl
      have qRb11 := HRb115.out.c 1 _ rfl
      have qRb12 := HRb115.out.c 2 _ rfl
      have qRb13 := HRb115.out.c 3 _ rfl
      have qRb14 := HRb115.out.c 4 _ rfl
      have qRb15 := HRb115.out.c 5 _ rfl
      have qRb16 := HRb115.out.c 6 _ rfl
      go_wp2_with (fail)
      go_ret
      exact ⟨rfl, HB15.out⟩
    have huk1 : (u.k != 0) = false := by simpa using huk
    have H3 := Lib.hid (choice_three (n := 3000) HRa.out HRb.out HRc.out HRl.out (by omega) hX huk)
    have hSo := (rnX_left hX).2.2.1
    clear hX
    by_cases hun : u.n = 0
    · have hun1 : (u.n == 0) = true := by simpa using hun
      have H4 := H3.out
      clear H3
      rw [if_pos hun] at H4
      rcases H4 with ⟨x, y, hx, hy, hyx⟩ | ⟨t, S2, j, hx, H4⟩
      · have HYX := Lib.hid hyx
        clear hyx
        rw [show ((3000 + 1 : Nat) : Int) = 3001 by rfl] at hy
        have hltRb1_ := HRb115.out.lt
        have qRb10 := HRb115.out.c 0 _ rfl
        have qRb11 := HRb115.out.c 1 _ rfl
        have qRb12 := HRb115.out.c 2 _ rfl
        have qRb13 := HRb115.out.c 3 _ rfl
        have qRb14 := HRb115.out.c 4 _ rfl
        have qRb15 := HRb115.out.c 5 _ rfl
        have qRb16 := HRb115.out.c 6 _ rfl
        go_upto_region 13 with fail
        go_cut [13, 14] from 92 to 100 (fun sr se wx => ∃ (b2 : Nat), sr = .pointer (some ⟨b2, 0, none⟩) ∧ se = .int .i64 x ∧ Below w.heap.size w wx ∧ Blk wx w.heap.size [.string (tx k), .int .i64 v.k, .int .i64 v.n, .string (tx v.s), .int .i64 v.x, .int .i64 v.y, .int .i64 e.k, .int .i64 e.n, .string (tx e.s), .int .i64 e.x, .int .i64 e.y] ∧ Nds wx Al (ifL a b c) ∧ Blk wx b1 [.int .i64 u.k, .int .i64 u.n, .string (tx u.s), .int .i64 u.x, .int .i64 u.y, .slice Ao S.out.length co, .int .i64 (m : Int)] ∧ Prs wx Ao S.out ∧ Blk wx b2 [.int .i64 0, .int .i64 0, .string ⟨#[]⟩, .int .i64 0, .int .i64 0, .slice none 0 0, .int .i64 0] ∧ x ≠ 0)
        case first =>
          have hltE_ := HE15.out.lt
          have qE0 := HE15.out.c 0 _ rfl
          have qE1 := HE15.out.c 1 _ rfl
          have qE2 := HE15.out.c 2 _ rfl
          have qE3 := HE15.out.c 3 _ rfl
          have qE4 := HE15.out.c 4 _ rfl
          have qE5 := HE15.out.c 5 _ rfl
          have qE6 := HE15.out.c 6 _ rfl
          have qE7 := HE15.out.c 7 _ rfl
          have qE8 := HE15.out.c 8 _ rfl
          have qE9 := HE15.out.c 9 _ rfl
          have qE10 := HE15.out.c 10 _ rfl
          have hltRb1_ := HRb115.out.lt
          have qRb10 := HRb115.out.c 0 _ rfl
          have qRb11 := HRb115.out.c 1 _ rfl
          have qRb12 := HRb115.out.c 2 _ rfl
          have qRb13 := HRb115.out.c 3 _ rfl
          have qRb14 := HRb115.out.c 4 _ rfl
          have qRb15 := HRb115.out.c 5 _ rfl
          have qRb16 := HRb115.out.c 6 _ rfl
          go_region_held3 (fun w' => w'.cell? ⟨w.heap.size, 0, none⟩ = some (.string (tx k)) ∧ w'.cell? ⟨w.heap.size, 1, none⟩ = some (.int .i64 v.k) ∧ w'.cell? ⟨w.heap.size, 2, none⟩ = some (.int .i64 v.n) ∧ w'.cell? ⟨w.heap.size, 3, none⟩ = some (.string (tx v.s)) ∧ w'.cell? ⟨w.heap.size, 4, none⟩ = some (.int .i64 v.x) ∧ w'.cell? ⟨w.heap.size, 5, none⟩ = some (.int .i64 v.y) ∧ w'.cell? ⟨w.heap.size, 6, none⟩ = some (.int .i64 e.k) ∧ w'.cell? ⟨w.heap.size, 7, none⟩ = some (.int .i64 e.n) ∧ w'.cell? ⟨w.heap.size, 8, none⟩ = some (.string (tx e.s)) ∧ w'.cell? ⟨w.heap.size, 9, none⟩ = some (.int .i64 e.x) ∧ w'.cell? ⟨w.heap.size, 10, none⟩ = some (.int .i64 e.y) ∧ w'.cell? ⟨b1, 6, none⟩ = some (.int .i64 (m : Int))) (go_keep)
            (first
            | (go_at_call 10
               refine (HOFc.out _ (below_drewN HB15.out 1) (by omega)).mono ?_
               rintro eo w16 ⟨Ap, cp, rfl, hop, hb⟩
               have hW : Below w15.heap.size w15 _ := below_drewN (Below.refl _ _) 1
               have HB16 := Lib.hid (Below.next (below_drewN HB15.out 1) hb)
               have HE16 := Lib.hid ((HE15.out.next hW).next hb)
               have HL16 := Lib.hid ((HL15.out.next hW).next hb)
               have HRb116 := Lib.hid ((HRb115.out.next hW).next hb)
               have HS16 := Lib.hid ((HS15.out.next hW).next hb)
               have HP16 : Hid (Nds w16 Ap c) := Nds.of_own hop
               have hszm : w15.heap.size ≤ w16.heap.size := Nat.le_trans hW.size hb.size
               have hneE1 : w15.heap.size ≠ w.heap.size := by have := HE15.out.lt; omega
               have hneE2 : w16.heap.size ≠ w.heap.size := by have := HE16.out.lt; omega
               have hneRb11 : w15.heap.size ≠ b1 := by have := HRb115.out.lt; omega
               have hneRb12 : w16.heap.size ≠ b1 := by have := HRb116.out.lt; omega
               have mE0 := HE16.out.c 0 _ rfl; have mE1 := HE16.out.c 1 _ rfl; have mE2 := HE16.out.c 2 _ rfl; have mE3 := HE16.out.c 3 _ rfl; have mE4 := HE16.out.c 4 _ rfl; have mE5 := HE16.out.c 5 _ rfl; have mE6 := HE16.out.c 6 _ rfl; have mE7 := HE16.out.c 7 _ rfl; have mE8 := HE16.out.c 8 _ rfl; have mE9 := HE16.out.c 9 _ rfl; have mE10 := HE16.out.c 10 _ rfl; have hltEm := HE16.out.lt
               have mRb10 := HRb116.out.c 0 _ rfl; have mRb11 := HRb116.out.c 1 _ rfl; have mRb12 := HRb116.out.c 2 _ rfl; have mRb13 := HRb116.out.c 3 _ rfl; have mRb14 := HRb116.out.c 4 _ rfl; have mRb15 := HRb116.out.c 5 _ rfl; have mRb16 := HRb116.out.c 6 _ rfl; have hltRb1m := HRb116.out.lt
               clear hop hb hW)
            | (go_at_call 10
               refine (HOFc.out _ ((below_drewN HB15.out 1).alloc HB15.out.size (.cells #[.int .i64 0, .int .i64 0, .string ⟨#[]⟩, .int .i64 0, .int .i64 0, .slice none 0 0, .int .i64 0] 36)) (by omega)).mono ?_
               rintro eo w16 ⟨Ap, cp, rfl, hop, hb⟩
               have hW : Below w15.heap.size w15 _ := (below_drewN (Below.refl _ _) 1).alloc (Nat.le_refl _) (.cells #[.int .i64 0, .int .i64 0, .string ⟨#[]⟩, .int .i64 0, .int .i64 0, .slice none 0 0, .int .i64 0] 36)
               have HB16 := Lib.hid (Below.next ((below_drewN HB15.out 1).alloc HB15.out.size (.cells #[.int .i64 0, .int .i64 0, .string ⟨#[]⟩, .int .i64 0, .int .i64 0, .slice none 0 0, .int .i64 0] 36)) hb)
               have HE16 := Lib.hid ((HE15.out.next hW).next hb)
               have HL16 := Lib.hid ((HL15.out.next hW).next hb)
               have HRb116 := Lib.hid ((HRb115.out.next hW).next hb)
               have HS16 := Lib.hid ((HS15.out.next hW).next hb)
               have HP16 : Hid (Nds w16 Ap c) := Nds.of_own hop
               have hszm : w15.heap.size ≤ w16.heap.size := Nat.le_trans hW.size hb.size
               have hneE1 : w15.heap.size ≠ w.heap.size := by have := HE15.out.lt; omega
               have hneE2 : w16.heap.size ≠ w.heap.size := by have := HE16.out.lt; omega
               have hneRb11 : w15.heap.size ≠ b1 := by have := HRb115.out.lt; omega
               have hneRb12 : w16.heap.size ≠ b1 := by have := HRb116.out.lt; omega
               have HZ16 : Hid (Blk w16 w15.heap.size rz7) := (Blk.made (w15.drewN 1) 36 rz7 rfl).next hb
               have hzlt := HZ16.out.lt
               have mE0 := HE16.out.c 0 _ rfl; have mE1 := HE16.out.c 1 _ rfl; have mE2 := HE16.out.c 2 _ rfl; have mE3 := HE16.out.c 3 _ rfl; have mE4 := HE16.out.c 4 _ rfl; have mE5 := HE16.out.c 5 _ rfl; have mE6 := HE16.out.c 6 _ rfl; have mE7 := HE16.out.c 7 _ rfl; have mE8 := HE16.out.c 8 _ rfl; have mE9 := HE16.out.c 9 _ rfl; have mE10 := HE16.out.c 10 _ rfl; have hltEm := HE16.out.lt
               have mRb10 := HRb116.out.c 0 _ rfl; have mRb11 := HRb116.out.c 1 _ rfl; have mRb12 := HRb116.out.c 2 _ rfl; have mRb13 := HRb116.out.c 3 _ rfl; have mRb14 := HRb116.out.c 4 _ rfl; have mRb15 := HRb116.out.c 5 _ rfl; have mRb16 := HRb116.out.c 6 _ rfl; have hltRb1m := HRb116.out.lt
               clear hop hb hW)
            | (go_at_call 11
               refine (HRU.out c ((m : Int)) _ HB16.out Ap cp HP16.out (by omega)).mono ?_
               rintro eo w17 ⟨hb, hq⟩
               rw [hx] at hq
               have hW : Below w16.heap.size w16 _ := Below.refl _ _
               obtain ⟨hx0, rfl⟩ := hq
               have HX0 := Lib.hid hx0
               clear hx0
               have HB17 := Lib.hid (Below.next HB16.out hb)
               have HE17 := Lib.hid ((HE16.out.next hW).next hb)
               have HL17 := Lib.hid ((HL16.out.next hW).next hb)
               have HRb117 := Lib.hid ((HRb116.out.next hW).next hb)
               have HS17 := Lib.hid ((HS16.out.next hW).next hb)
               try have HZ17 := Lib.hid (HZ16.out.next hb)
               try (have zc0 := HZ17.out.c 0 _ rfl; have zf0 := HZ17.out.f 0 _ rfl; have zc1 := HZ17.out.c 1 _ rfl; have zf1 := HZ17.out.f 1 _ rfl; have zc2 := HZ17.out.c 2 _ rfl; have zf2 := HZ17.out.f 2 _ rfl; have zc3 := HZ17.out.c 3 _ rfl; have zf3 := HZ17.out.f 3 _ rfl; have zc4 := HZ17.out.c 4 _ rfl; have zf4 := HZ17.out.f 4 _ rfl; have zc5 := HZ17.out.c 5 _ rfl; have zf5 := HZ17.out.f 5 _ rfl; have zc6 := HZ17.out.c 6 _ rfl; have zf6 := HZ17.out.f 6 _ rfl)
               try (have hltz := HZ17.out.lt)
               have hszn : w16.heap.size ≤ w17.heap.size := Nat.le_trans hW.size hb.size
               have nE0 := HE17.out.c 0 _ rfl; have nE1 := HE17.out.c 1 _ rfl; have nE2 := HE17.out.c 2 _ rfl; have nE3 := HE17.out.c 3 _ rfl; have nE4 := HE17.out.c 4 _ rfl; have nE5 := HE17.out.c 5 _ rfl; have nE6 := HE17.out.c 6 _ rfl; have nE7 := HE17.out.c 7 _ rfl; have nE8 := HE17.out.c 8 _ rfl; have nE9 := HE17.out.c 9 _ rfl; have nE10 := HE17.out.c 10 _ rfl; have hltEn := HE17.out.lt
               have nRb10 := HRb117.out.c 0 _ rfl; have nRb11 := HRb117.out.c 1 _ rfl; have nRb12 := HRb117.out.c 2 _ rfl; have nRb13 := HRb117.out.c 3 _ rfl; have nRb14 := HRb117.out.c 4 _ rfl; have nRb15 := HRb117.out.c 5 _ rfl; have nRb16 := HRb117.out.c 6 _ rfl; have hltRb1n := HRb117.out.lt
               clear hb hW)
            | (go_at_call 11
               refine (HRU.out c ((m : Int)) _ (Below.next HB16.out (box1 w16 (.cells #[.int .i64 0, .int .i64 0, .string ⟨#[]⟩, .int .i64 0, .int .i64 0, .slice none 0 0, .int .i64 0] 36))) Ap cp (HP16.out.next (box1 w16 (.cells #[.int .i64 0, .int .i64 0, .string ⟨#[]⟩, .int .i64 0, .int .i64 0, .slice none 0 0, .int .i64 0] 36))) (by omega)).mono ?_
               rintro eo w17 ⟨hb, hq⟩
               rw [hx] at hq
               have hW : Below w16.heap.size w16 _ := box1 w16 (.cells #[.int .i64 0, .int .i64 0, .string ⟨#[]⟩, .int .i64 0, .int .i64 0, .slice none 0 0, .int .i64 0] 36)
               obtain ⟨hx0, rfl⟩ := hq
               have HX0 := Lib.hid hx0
               clear hx0
               have HB17 := Lib.hid (Below.next (Below.next HB16.out (box1 w16 (.cells #[.int .i64 0, .int .i64 0, .string ⟨#[]⟩, .int .i64 0, .int .i64 0, .slice none 0 0, .int .i64 0] 36))) hb)
               have HE17 := Lib.hid ((HE16.out.next hW).next hb)
               have HL17 := Lib.hid ((HL16.out.next hW).next hb)
               have HRb117 := Lib.hid ((HRb116.out.next hW).next hb)
               have HS17 := Lib.hid ((HS16.out.next hW).next hb)
               have HZ17 : Hid (Blk w17 w16.heap.size rz7) := (Blk.made w16 36 rz7 rfl).next hb
               try (have zc0 := HZ17.out.c 0 _ rfl; have zf0 := HZ17.out.f 0 _ rfl; have zc1 := HZ17.out.c 1 _ rfl; have zf1 := HZ17.out.f 1 _ rfl; have zc2 := HZ17.out.c 2 _ rfl; have zf2 := HZ17.out.f 2 _ rfl; have zc3 := HZ17.out.c 3 _ rfl; have zf3 := HZ17.out.f 3 _ rfl; have zc4 := HZ17.out.c 4 _ rfl; have zf4 := HZ17.out.f 4 _ rfl; have zc5 := HZ17.out.c 5 _ rfl; have zf5 := HZ17.out.f 5 _ rfl; have zc6 := HZ17.out.c 6 _ rfl; have zf6 := HZ17.out.f 6 _ rfl)
               try (have hltz := HZ17.out.lt)
               have hszn : w16.heap.size ≤ w17.heap.size := Nat.le_trans hW.size hb.size
               have nE0 := HE17.out.c 0 _ rfl; have nE1 := HE17.out.c 1 _ rfl; have nE2 := HE17.out.c 2 _ rfl; have nE3 := HE17.out.c 3 _ rfl; have nE4 := HE17.out.c 4 _ rfl; have nE5 := HE17.out.c 5 _ rfl; have nE6 := HE17.out.c 6 _ rfl; have nE7 := HE17.out.c 7 _ rfl; have nE8 := HE17.out.c 8 _ rfl; have nE9 := HE17.out.c 9 _ rfl; have nE10 := HE17.out.c 10 _ rfl; have hltEn := HE17.out.lt
               have nRb10 := HRb117.out.c 0 _ rfl; have nRb11 := HRb117.out.c 1 _ rfl; have nRb12 := HRb117.out.c 2 _ rfl; have nRb13 := HRb117.out.c 3 _ rfl; have nRb14 := HRb117.out.c 4 _ rfl; have nRb15 := HRb117.out.c 5 _ rfl; have nRb16 := HRb117.out.c 6 _ rfl; have hltRb1n := HRb117.out.lt
               clear hb hW))
          all_goals (rename_i hHd; clear hHd)
          all_goals go_wp2_with fail
          all_goals go_meet
          · exact ⟨w17.heap.size, rfl, rfl, Below.next HB17.out (box1 w17 _), HE17.out.next (box1 w17 _), HL17.out.next (box1 w17 _), HRb117.out.next (box1 w17 _), HS17.out.next (box1 w17 _), Blk.made w17 36 [.int .i64 0, .int .i64 0, .string ⟨#[]⟩, .int .i64 0, .int .i64 0, .slice none 0 0, .int .i64 0] rfl, HX0.out⟩
          · have hp : (((((((w17.setCell ⟨w16.heap.size, 0, none⟩ (.int .i64 0)).setCell ⟨w16.heap.size, 1, none⟩ (.int .i64 0)).setCell ⟨w16.heap.size, 2, none⟩ (.string ⟨#[]⟩)).setCell ⟨w16.heap.size, 3, none⟩ (.int .i64 0)).setCell ⟨w16.heap.size, 4, none⟩ (.int .i64 0)).setCell ⟨w16.heap.size, 5, none⟩ (.slice none 0 0)).setCell ⟨w16.heap.size, 6, none⟩ (.int .i64 0)) = putL w17 w16.heap.size 0 [.int .i64 0, .int .i64 0, .string ⟨#[]⟩, .int .i64 0, .int .i64 0, .slice none 0 0, .int .i64 0] := rfl
            rw [hp]
            clear hp
            have hzle : w15.heap.size ≤ w16.heap.size := by omega
            have k1 := below_puts (B := w16.heap.size) [.int .i64 0, .int .i64 0, .string ⟨#[]⟩, .int .i64 0, .int .i64 0, .slice none 0 0, .int .i64 0] 0 HB17.out (by have := HB15.out.size; omega)
            have kE := blk_puts_other (C := w16.heap.size) (by omega) [.int .i64 0, .int .i64 0, .string ⟨#[]⟩, .int .i64 0, .int .i64 0, .slice none 0 0, .int .i64 0] 0 HE17.out
            have kL := nds_far (z := w16.heap.size) HL15.out HL17.out hzle [.int .i64 0, .int .i64 0, .string ⟨#[]⟩, .int .i64 0, .int .i64 0, .slice none 0 0, .int .i64 0] 0
            have kRb1 := blk_puts_other (C := w16.heap.size) (by omega) [.int .i64 0, .int .i64 0, .string ⟨#[]⟩, .int .i64 0, .int .i64 0, .slice none 0 0, .int .i64 0] 0 HRb117.out
            have kS := prs_far (z := w16.heap.size) HS15.out HS17.out hzle [.int .i64 0, .int .i64 0, .string ⟨#[]⟩, .int .i64 0, .int .i64 0, .slice none 0 0, .int .i64 0] 0
            have kz : Blk (putL w17 w16.heap.size 0 [.int .i64 0, .int .i64 0, .string ⟨#[]⟩, .int .i64 0, .int .i64 0, .slice none 0 0, .int .i64 0]) w16.heap.size [.int .i64 0, .int .i64 0, .string ⟨#[]⟩, .int .i64 0, .int .i64 0, .slice none 0 0, .int .i64 0] := blk_puts [.int .i64 0, .int .i64 0, .string ⟨#[]⟩, .int .i64 0, .int .i64 0, .slice none 0 0, .int .i64 0] 0 HZ17.out (Nat.le_refl 7)
            generalize putL w17 w16.heap.size 0 [.int .i64 0, .int .i64 0, .string ⟨#[]⟩, .int .i64 0, .int .i64 0, .slice none 0 0, .int .i64 0] = wq at *
            exact ⟨w16.heap.size, rfl, rfl, k1, kE, kL, kRb1, kS, kz, HX0.out⟩
          · have hp : (((((((w17.setCell ⟨w15.heap.size, 0, none⟩ (.int .i64 0)).setCell ⟨w15.heap.size, 1, none⟩ (.int .i64 0)).setCell ⟨w15.heap.size, 2, none⟩ (.string ⟨#[]⟩)).setCell ⟨w15.heap.size, 3, none⟩ (.int .i64 0)).setCell ⟨w15.heap.size, 4, none⟩ (.int .i64 0)).setCell ⟨w15.heap.size, 5, none⟩ (.slice none 0 0)).setCell ⟨w15.heap.size, 6, none⟩ (.int .i64 0)) = putL w17 w15.heap.size 0 [.int .i64 0, .int .i64 0, .string ⟨#[]⟩, .int .i64 0, .int .i64 0, .slice none 0 0, .int .i64 0] := rfl
            rw [hp]
            clear hp
            have hzle : w15.heap.size ≤ w15.heap.size := by omega
            have k1 := below_puts (B := w15.heap.size) [.int .i64 0, .int .i64 0, .string ⟨#[]⟩, .int .i64 0, .int .i64 0, .slice none 0 0, .int .i64 0] 0 HB17.out (by have := HB15.out.size; omega)
            have kE := blk_puts_other (C := w15.heap.size) (by omega) [.int .i64 0, .int .i64 0, .string ⟨#[]⟩, .int .i64 0, .int .i64 0, .slice none 0 0, .int .i64 0] 0 HE17.out
            have kL := nds_far (z := w15.heap.size) HL15.out HL17.out hzle [.int .i64 0, .int .i64 0, .string ⟨#[]⟩, .int .i64 0, .int .i64 0, .slice none 0 0, .int .i64 0] 0
            have kRb1 := blk_puts_other (C := w15.heap.size) (by omega) [.int .i64 0, .int .i64 0, .string ⟨#[]⟩, .int .i64 0, .int .i64 0, .slice none 0 0, .int .i64 0] 0 HRb117.out
            have kS := prs_far (z := w15.heap.size) HS15.out HS17.out hzle [.int .i64 0, .int .i64 0, .string ⟨#[]⟩, .int .i64 0, .int .i64 0, .slice none 0 0, .int .i64 0] 0
            have kz : Blk (putL w17 w15.heap.size 0 [.int .i64 0, .int .i64 0, .string ⟨#[]⟩, .int .i64 0, .int .i64 0, .slice none 0 0, .int .i64 0]) w15.heap.size [.int .i64 0, .int .i64 0, .string ⟨#[]⟩, .int .i64 0, .int .i64 0, .slice none 0 0, .int .i64 0] := blk_puts [.int .i64 0, .int .i64 0, .string ⟨#[]⟩, .int .i64 0, .int .i64 0, .slice none 0 0, .int .i64 0] 0 HZ17.out (Nat.le_refl 7)
            generalize putL w17 w15.heap.size 0 [.int .i64 0, .int .i64 0, .string ⟨#[]⟩, .int .i64 0, .int .i64 0, .slice none 0 0, .int .i64 0] = wq at *
            exact ⟨w15.heap.size, rfl, rfl, k1, kE, kL, kRb1, kS, kz, HX0.out⟩
        case rest =>
        obtain ⟨b2, rfl, rfl, hB, hE, hL, hRb1, hS, hbx, hx0⟩ := hcut
        have HB16 := Lib.hid hB; have HE16 := Lib.hid hE; have HL16 := Lib.hid hL; have HRb116 := Lib.hid hRb1; have HS16 := Lib.hid hS; have HRb216 := Lib.hid hbx
        have hx1 : (x == 0) = false := by simpa using hx0
        have hx2 : (x != 0) = true := by simpa using hx0
        clear hB hE hL hRb1 hS hbx  HB15 HE15 HL15 HRb115 HS15
        generalize wc = w16 at *
        go_upto_region 14 with fail
        go_cut [15, 16] from 101 to 107 (fun sr se wx => ∃ (b3 : Nat), sr = .pointer (some ⟨b3, 0, none⟩) ∧ se = .int .i64 y ∧ Below w.heap.size w wx ∧ Blk wx w.heap.size [.string (tx k), .int .i64 v.k, .int .i64 v.n, .string (tx v.s), .int .i64 v.x, .int .i64 v.y, .int .i64 e.k, .int .i64 e.n, .string (tx e.s), .int .i64 e.x, .int .i64 e.y] ∧ Nds wx Al (ifL a b c) ∧ Blk wx b1 [.int .i64 u.k, .int .i64 u.n, .string (tx u.s), .int .i64 u.x, .int .i64 u.y, .slice Ao S.out.length co, .int .i64 (m : Int)] ∧ Prs wx Ao S.out ∧ Blk wx b2 [.int .i64 0, .int .i64 0, .string ⟨#[]⟩, .int .i64 0, .int .i64 0, .slice none 0 0, .int .i64 0] ∧ Blk wx b3 [.int .i64 0, .int .i64 0, .string ⟨#[]⟩, .int .i64 0, .int .i64 0, .slice none 0 0, .int .i64 0] ∧ y ≠ 0)
        case first =>
          have hltE_ := HE16.out.lt
          have qE0 := HE16.out.c 0 _ rfl
          have qE1 := HE16.out.c 1 _ rfl
          have qE2 := HE16.out.c 2 _ rfl
          have qE3 := HE16.out.c 3 _ rfl
          have qE4 := HE16.out.c 4 _ rfl
          have qE5 := HE16.out.c 5 _ rfl
          have qE6 := HE16.out.c 6 _ rfl
          have qE7 := HE16.out.c 7 _ rfl
          have qE8 := HE16.out.c 8 _ rfl
          have qE9 := HE16.out.c 9 _ rfl
          have qE10 := HE16.out.c 10 _ rfl
          have hltRb1_ := HRb116.out.lt
          have qRb10 := HRb116.out.c 0 _ rfl
          have qRb11 := HRb116.out.c 1 _ rfl
          have qRb12 := HRb116.out.c 2 _ rfl
          have qRb13 := HRb116.out.c 3 _ rfl
          have qRb14 := HRb116.out.c 4 _ rfl
          have qRb15 := HRb116.out.c 5 _ rfl
          have qRb16 := HRb116.out.c 6 _ rfl
          have hltRb2_ := HRb216.out.lt
          have qRb20 := HRb216.out.c 0 _ rfl
          have qRb21 := HRb216.out.c 1 _ rfl
          have qRb22 := HRb216.out.c 2 _ rfl
          have qRb23 := HRb216.out.c 3 _ rfl
          have qRb24 := HRb216.out.c 4 _ rfl
          have qRb25 := HRb216.out.c 5 _ rfl
          have qRb26 := HRb216.out.c 6 _ rfl
          go_region_held3 (fun w' => w'.cell? ⟨w.heap.size, 0, none⟩ = some (.string (tx k)) ∧ w'.cell? ⟨w.heap.size, 1, none⟩ = some (.int .i64 v.k) ∧ w'.cell? ⟨w.heap.size, 2, none⟩ = some (.int .i64 v.n) ∧ w'.cell? ⟨w.heap.size, 3, none⟩ = some (.string (tx v.s)) ∧ w'.cell? ⟨w.heap.size, 4, none⟩ = some (.int .i64 v.x) ∧ w'.cell? ⟨w.heap.size, 5, none⟩ = some (.int .i64 v.y) ∧ w'.cell? ⟨w.heap.size, 6, none⟩ = some (.int .i64 e.k) ∧ w'.cell? ⟨w.heap.size, 7, none⟩ = some (.int .i64 e.n) ∧ w'.cell? ⟨w.heap.size, 8, none⟩ = some (.string (tx e.s)) ∧ w'.cell? ⟨w.heap.size, 9, none⟩ = some (.int .i64 e.x) ∧ w'.cell? ⟨w.heap.size, 10, none⟩ = some (.int .i64 e.y)) (go_keep)
            (first
            | (go_at_call 10
               refine (of_any (ifL a b c) Al cl _ (HL16.out.next (below_drewN (Below.refl w16.heap.size w16) 1)) hll).mono ?_
               rintro eo w17 ⟨Ap, cp, rfl, hop, hb⟩
               have hW : Below w16.heap.size w16 _ := below_drewN (Below.refl _ _) 1
               have HB17 := Lib.hid (Below.next (below_drewN HB16.out 1) hb)
               have HE17 := Lib.hid ((HE16.out.next hW).next hb)
               have HL17 := Lib.hid ((HL16.out.next hW).next hb)
               have HRb117 := Lib.hid ((HRb116.out.next hW).next hb)
               have HS17 := Lib.hid ((HS16.out.next hW).next hb)
               have HRb217 := Lib.hid ((HRb216.out.next hW).next hb)
               have HP17 : Hid (Nds w17 Ap (ifL a b c)) := Nds.of_own hop
               have hszm : w16.heap.size ≤ w17.heap.size := Nat.le_trans hW.size hb.size
               have hneE1 : w16.heap.size ≠ w.heap.size := by have := HE16.out.lt; omega
               have hneE2 : w17.heap.size ≠ w.heap.size := by have := HE17.out.lt; omega
               have hneRb11 : w16.heap.size ≠ b1 := by have := HRb116.out.lt; omega
               have hneRb12 : w17.heap.size ≠ b1 := by have := HRb117.out.lt; omega
               have hneRb21 : w16.heap.size ≠ b2 := by have := HRb216.out.lt; omega
               have hneRb22 : w17.heap.size ≠ b2 := by have := HRb217.out.lt; omega
               have mE0 := HE17.out.c 0 _ rfl; have mE1 := HE17.out.c 1 _ rfl; have mE2 := HE17.out.c 2 _ rfl; have mE3 := HE17.out.c 3 _ rfl; have mE4 := HE17.out.c 4 _ rfl; have mE5 := HE17.out.c 5 _ rfl; have mE6 := HE17.out.c 6 _ rfl; have mE7 := HE17.out.c 7 _ rfl; have mE8 := HE17.out.c 8 _ rfl; have mE9 := HE17.out.c 9 _ rfl; have mE10 := HE17.out.c 10 _ rfl; have hltEm := HE17.out.lt
               have mRb10 := HRb117.out.c 0 _ rfl; have mRb11 := HRb117.out.c 1 _ rfl; have mRb12 := HRb117.out.c 2 _ rfl; have mRb13 := HRb117.out.c 3 _ rfl; have mRb14 := HRb117.out.c 4 _ rfl; have mRb15 := HRb117.out.c 5 _ rfl; have mRb16 := HRb117.out.c 6 _ rfl; have hltRb1m := HRb117.out.lt
               have mRb20 := HRb217.out.c 0 _ rfl; have mRb21 := HRb217.out.c 1 _ rfl; have mRb22 := HRb217.out.c 2 _ rfl; have mRb23 := HRb217.out.c 3 _ rfl; have mRb24 := HRb217.out.c 4 _ rfl; have mRb25 := HRb217.out.c 5 _ rfl; have mRb26 := HRb217.out.c 6 _ rfl; have hltRb2m := HRb217.out.lt
               clear hop hb hW)
            | (go_at_call 10
               refine (of_any (ifL a b c) Al cl _ (HL16.out.next ((below_drewN (Below.refl w16.heap.size w16) 1).alloc (Nat.le_refl _) (.cells #[.int .i64 0, .int .i64 0, .string ⟨#[]⟩, .int .i64 0, .int .i64 0, .slice none 0 0, .int .i64 0] 36))) hll).mono ?_
               rintro eo w17 ⟨Ap, cp, rfl, hop, hb⟩
               have hW : Below w16.heap.size w16 _ := (below_drewN (Below.refl _ _) 1).alloc (Nat.le_refl _) (.cells #[.int .i64 0, .int .i64 0, .string ⟨#[]⟩, .int .i64 0, .int .i64 0, .slice none 0 0, .int .i64 0] 36)
               have HB17 := Lib.hid (Below.next ((below_drewN HB16.out 1).alloc HB16.out.size (.cells #[.int .i64 0, .int .i64 0, .string ⟨#[]⟩, .int .i64 0, .int .i64 0, .slice none 0 0, .int .i64 0] 36)) hb)
               have HE17 := Lib.hid ((HE16.out.next hW).next hb)
               have HL17 := Lib.hid ((HL16.out.next hW).next hb)
               have HRb117 := Lib.hid ((HRb116.out.next hW).next hb)
               have HS17 := Lib.hid ((HS16.out.next hW).next hb)
               have HRb217 := Lib.hid ((HRb216.out.next hW).next hb)
               have HP17 : Hid (Nds w17 Ap (ifL a b c)) := Nds.of_own hop
               have hszm : w16.heap.size ≤ w17.heap.size := Nat.le_trans hW.size hb.size
               have hneE1 : w16.heap.size ≠ w.heap.size := by have := HE16.out.lt; omega
               have hneE2 : w17.heap.size ≠ w.heap.size := by have := HE17.out.lt; omega
               have hneRb11 : w16.heap.size ≠ b1 := by have := HRb116.out.lt; omega
               have hneRb12 : w17.heap.size ≠ b1 := by have := HRb117.out.lt; omega
               have hneRb21 : w16.heap.size ≠ b2 := by have := HRb216.out.lt; omega
               have hneRb22 : w17.heap.size ≠ b2 := by have := HRb217.out.lt; omega
               have HZ17 : Hid (Blk w17 w16.heap.size rz7) := (Blk.made (w16.drewN 1) 36 rz7 rfl).next hb
               have hzlt := HZ17.out.lt
               have mE0 := HE17.out.c 0 _ rfl; have mE1 := HE17.out.c 1 _ rfl; have mE2 := HE17.out.c 2 _ rfl; have mE3 := HE17.out.c 3 _ rfl; have mE4 := HE17.out.c 4 _ rfl; have mE5 := HE17.out.c 5 _ rfl; have mE6 := HE17.out.c 6 _ rfl; have mE7 := HE17.out.c 7 _ rfl; have mE8 := HE17.out.c 8 _ rfl; have mE9 := HE17.out.c 9 _ rfl; have mE10 := HE17.out.c 10 _ rfl; have hltEm := HE17.out.lt
               have mRb10 := HRb117.out.c 0 _ rfl; have mRb11 := HRb117.out.c 1 _ rfl; have mRb12 := HRb117.out.c 2 _ rfl; have mRb13 := HRb117.out.c 3 _ rfl; have mRb14 := HRb117.out.c 4 _ rfl; have mRb15 := HRb117.out.c 5 _ rfl; have mRb16 := HRb117.out.c 6 _ rfl; have hltRb1m := HRb117.out.lt
               have mRb20 := HRb217.out.c 0 _ rfl; have mRb21 := HRb217.out.c 1 _ rfl; have mRb22 := HRb217.out.c 2 _ rfl; have mRb23 := HRb217.out.c 3 _ rfl; have mRb24 := HRb217.out.c 4 _ rfl; have mRb25 := HRb217.out.c 5 _ rfl; have mRb26 := HRb217.out.c 6 _ rfl; have hltRb2m := HRb217.out.lt
               clear hop hb hW)
            | (go_at_call 11
               refine (HRU.out (ifL a b c) (3001) _ HB17.out Ap cp HP17.out (by omega)).mono ?_
               rintro eo w18 ⟨hb, hq⟩
               rw [hy] at hq
               have hW : Below w17.heap.size w17 _ := Below.refl _ _
               obtain ⟨hx0, rfl⟩ := hq
               have HX0 := Lib.hid hx0
               clear hx0
               have HB18 := Lib.hid (Below.next HB17.out hb)
               have HE18 := Lib.hid ((HE17.out.next hW).next hb)
               have HL18 := Lib.hid ((HL17.out.next hW).next hb)
               have HRb118 := Lib.hid ((HRb117.out.next hW).next hb)
               have HS18 := Lib.hid ((HS17.out.next hW).next hb)
               have HRb218 := Lib.hid ((HRb217.out.next hW).next hb)
               try have HZ18 := Lib.hid (HZ17.out.next hb)
               try (have zc0 := HZ18.out.c 0 _ rfl; have zf0 := HZ18.out.f 0 _ rfl; have zc1 := HZ18.out.c 1 _ rfl; have zf1 := HZ18.out.f 1 _ rfl; have zc2 := HZ18.out.c 2 _ rfl; have zf2 := HZ18.out.f 2 _ rfl; have zc3 := HZ18.out.c 3 _ rfl; have zf3 := HZ18.out.f 3 _ rfl; have zc4 := HZ18.out.c 4 _ rfl; have zf4 := HZ18.out.f 4 _ rfl; have zc5 := HZ18.out.c 5 _ rfl; have zf5 := HZ18.out.f 5 _ rfl; have zc6 := HZ18.out.c 6 _ rfl; have zf6 := HZ18.out.f 6 _ rfl)
               try (have hltz := HZ18.out.lt)
               have hszn : w17.heap.size ≤ w18.heap.size := Nat.le_trans hW.size hb.size
               have nE0 := HE18.out.c 0 _ rfl; have nE1 := HE18.out.c 1 _ rfl; have nE2 := HE18.out.c 2 _ rfl; have nE3 := HE18.out.c 3 _ rfl; have nE4 := HE18.out.c 4 _ rfl; have nE5 := HE18.out.c 5 _ rfl; have nE6 := HE18.out.c 6 _ rfl; have nE7 := HE18.out.c 7 _ rfl; have nE8 := HE18.out.c 8 _ rfl; have nE9 := HE18.out.c 9 _ rfl; have nE10 := HE18.out.c 10 _ rfl; have hltEn := HE18.out.lt
               have nRb10 := HRb118.out.c 0 _ rfl; have nRb11 := HRb118.out.c 1 _ rfl; have nRb12 := HRb118.out.c 2 _ rfl; have nRb13 := HRb118.out.c 3 _ rfl; have nRb14 := HRb118.out.c 4 _ rfl; have nRb15 := HRb118.out.c 5 _ rfl; have nRb16 := HRb118.out.c 6 _ rfl; have hltRb1n := HRb118.out.lt
               have nRb20 := HRb218.out.c 0 _ rfl; have nRb21 := HRb218.out.c 1 _ rfl; have nRb22 := HRb218.out.c 2 _ rfl; have nRb23 := HRb218.out.c 3 _ rfl; have nRb24 := HRb218.out.c 4 _ rfl; have nRb25 := HRb218.out.c 5 _ rfl; have nRb26 := HRb218.out.c 6 _ rfl; have hltRb2n := HRb218.out.lt
               clear hb hW)
            | (go_at_call 11
               refine (HRU.out (ifL a b c) (3001) _ (Below.next HB17.out (box1 w17 (.cells #[.int .i64 0, .int .i64 0, .string ⟨#[]⟩, .int .i64 0, .int .i64 0, .slice none 0 0, .int .i64 0] 36))) Ap cp (HP17.out.next (box1 w17 (.cells #[.int .i64 0, .int .i64 0, .string ⟨#[]⟩, .int .i64 0, .int .i64 0, .slice none 0 0, .int .i64 0] 36))) (by omega)).mono ?_
               rintro eo w18 ⟨hb, hq⟩
               rw [hy] at hq
               have hW : Below w17.heap.size w17 _ := box1 w17 (.cells #[.int .i64 0, .int .i64 0, .string ⟨#[]⟩, .int .i64 0, .int .i64 0, .slice none 0 0, .int .i64 0] 36)
               obtain ⟨hx0, rfl⟩ := hq
               have HX0 := Lib.hid hx0
               clear hx0
               have HB18 := Lib.hid (Below.next (Below.next HB17.out (box1 w17 (.cells #[.int .i64 0, .int .i64 0, .string ⟨#[]⟩, .int .i64 0, .int .i64 0, .slice none 0 0, .int .i64 0] 36))) hb)
               have HE18 := Lib.hid ((HE17.out.next hW).next hb)
               have HL18 := Lib.hid ((HL17.out.next hW).next hb)
               have HRb118 := Lib.hid ((HRb117.out.next hW).next hb)
               have HS18 := Lib.hid ((HS17.out.next hW).next hb)
               have HRb218 := Lib.hid ((HRb217.out.next hW).next hb)
               have HZ18 : Hid (Blk w18 w17.heap.size rz7) := (Blk.made w17 36 rz7 rfl).next hb
               try (have zc0 := HZ18.out.c 0 _ rfl; have zf0 := HZ18.out.f 0 _ rfl; have zc1 := HZ18.out.c 1 _ rfl; have zf1 := HZ18.out.f 1 _ rfl; have zc2 := HZ18.out.c 2 _ rfl; have zf2 := HZ18.out.f 2 _ rfl; have zc3 := HZ18.out.c 3 _ rfl; have zf3 := HZ18.out.f 3 _ rfl; have zc4 := HZ18.out.c 4 _ rfl; have zf4 := HZ18.out.f 4 _ rfl; have zc5 := HZ18.out.c 5 _ rfl; have zf5 := HZ18.out.f 5 _ rfl; have zc6 := HZ18.out.c 6 _ rfl; have zf6 := HZ18.out.f 6 _ rfl)
               try (have hltz := HZ18.out.lt)
               have hszn : w17.heap.size ≤ w18.heap.size := Nat.le_trans hW.size hb.size
               have nE0 := HE18.out.c 0 _ rfl; have nE1 := HE18.out.c 1 _ rfl; have nE2 := HE18.out.c 2 _ rfl; have nE3 := HE18.out.c 3 _ rfl; have nE4 := HE18.out.c 4 _ rfl; have nE5 := HE18.out.c 5 _ rfl; have nE6 := HE18.out.c 6 _ rfl; have nE7 := HE18.out.c 7 _ rfl; have nE8 := HE18.out.c 8 _ rfl; have nE9 := HE18.out.c 9 _ rfl; have nE10 := HE18.out.c 10 _ rfl; have hltEn := HE18.out.lt
               have nRb10 := HRb118.out.c 0 _ rfl; have nRb11 := HRb118.out.c 1 _ rfl; have nRb12 := HRb118.out.c 2 _ rfl; have nRb13 := HRb118.out.c 3 _ rfl; have nRb14 := HRb118.out.c 4 _ rfl; have nRb15 := HRb118.out.c 5 _ rfl; have nRb16 := HRb118.out.c 6 _ rfl; have hltRb1n := HRb118.out.lt
               have nRb20 := HRb218.out.c 0 _ rfl; have nRb21 := HRb218.out.c 1 _ rfl; have nRb22 := HRb218.out.c 2 _ rfl; have nRb23 := HRb218.out.c 3 _ rfl; have nRb24 := HRb218.out.c 4 _ rfl; have nRb25 := HRb218.out.c 5 _ rfl; have nRb26 := HRb218.out.c 6 _ rfl; have hltRb2n := HRb218.out.lt
               clear hb hW))
          all_goals (rename_i hHd; clear hHd)
          all_goals go_wp2_with fail
          all_goals go_meet
          · exact ⟨w18.heap.size, rfl, rfl, Below.next HB18.out (box1 w18 _), HE18.out.next (box1 w18 _), HL18.out.next (box1 w18 _), HRb118.out.next (box1 w18 _), HS18.out.next (box1 w18 _), HRb218.out.next (box1 w18 _), Blk.made w18 36 [.int .i64 0, .int .i64 0, .string ⟨#[]⟩, .int .i64 0, .int .i64 0, .slice none 0 0, .int .i64 0] rfl, HX0.out⟩
          · have hp : (((((((w18.setCell ⟨w17.heap.size, 0, none⟩ (.int .i64 0)).setCell ⟨w17.heap.size, 1, none⟩ (.int .i64 0)).setCell ⟨w17.heap.size, 2, none⟩ (.string ⟨#[]⟩)).setCell ⟨w17.heap.size, 3, none⟩ (.int .i64 0)).setCell ⟨w17.heap.size, 4, none⟩ (.int .i64 0)).setCell ⟨w17.heap.size, 5, none⟩ (.slice none 0 0)).setCell ⟨w17.heap.size, 6, none⟩ (.int .i64 0)) = putL w18 w17.heap.size 0 [.int .i64 0, .int .i64 0, .string ⟨#[]⟩, .int .i64 0, .int .i64 0, .slice none 0 0, .int .i64 0] := rfl
            rw [hp]
            clear hp
            have hzle : w16.heap.size ≤ w17.heap.size := by omega
            have k1 := below_puts (B := w17.heap.size) [.int .i64 0, .int .i64 0, .string ⟨#[]⟩, .int .i64 0, .int .i64 0, .slice none 0 0, .int .i64 0] 0 HB18.out (by have := HB16.out.size; omega)
            have kE := blk_puts_other (C := w17.heap.size) (by omega) [.int .i64 0, .int .i64 0, .string ⟨#[]⟩, .int .i64 0, .int .i64 0, .slice none 0 0, .int .i64 0] 0 HE18.out
            have kL := nds_far (z := w17.heap.size) HL16.out HL18.out hzle [.int .i64 0, .int .i64 0, .string ⟨#[]⟩, .int .i64 0, .int .i64 0, .slice none 0 0, .int .i64 0] 0
            have kRb1 := blk_puts_other (C := w17.heap.size) (by omega) [.int .i64 0, .int .i64 0, .string ⟨#[]⟩, .int .i64 0, .int .i64 0, .slice none 0 0, .int .i64 0] 0 HRb118.out
            have kS := prs_far (z := w17.heap.size) HS16.out HS18.out hzle [.int .i64 0, .int .i64 0, .string ⟨#[]⟩, .int .i64 0, .int .i64 0, .slice none 0 0, .int .i64 0] 0
            have kRb2 := blk_puts_other (C := w17.heap.size) (by omega) [.int .i64 0, .int .i64 0, .string ⟨#[]⟩, .int .i64 0, .int .i64 0, .slice none 0 0, .int .i64 0] 0 HRb218.out
            have kz : Blk (putL w18 w17.heap.size 0 [.int .i64 0, .int .i64 0, .string ⟨#[]⟩, .int .i64 0, .int .i64 0, .slice none 0 0, .int .i64 0]) w17.heap.size [.int .i64 0, .int .i64 0, .string ⟨#[]⟩, .int .i64 0, .int .i64 0, .slice none 0 0, .int .i64 0] := blk_puts [.int .i64 0, .int .i64 0, .string ⟨#[]⟩, .int .i64 0, .int .i64 0, .slice none 0 0, .int .i64 0] 0 HZ18.out (Nat.le_refl 7)
            generalize putL w18 w17.heap.size 0 [.int .i64 0, .int .i64 0, .string ⟨#[]⟩, .int .i64 0, .int .i64 0, .slice none 0 0, .int .i64 0] = wq at *
            exact ⟨w17.heap.size, rfl, rfl, k1, kE, kL, kRb1, kS, kRb2, kz, HX0.out⟩
          · have hp : (((((((w18.setCell ⟨w16.heap.size, 0, none⟩ (.int .i64 0)).setCell ⟨w16.heap.size, 1, none⟩ (.int .i64 0)).setCell ⟨w16.heap.size, 2, none⟩ (.string ⟨#[]⟩)).setCell ⟨w16.heap.size, 3, none⟩ (.int .i64 0)).setCell ⟨w16.heap.size, 4, none⟩ (.int .i64 0)).setCell ⟨w16.heap.size, 5, none⟩ (.slice none 0 0)).setCell ⟨w16.heap.size, 6, none⟩ (.int .i64 0)) = putL w18 w16.heap.size 0 [.int .i64 0, .int .i64 0, .string ⟨#[]⟩, .int .i64 0, .int .i64 0, .slice none 0 0, .int .i64 0] := rfl
            rw [hp]
            clear hp
            have hzle : w16.heap.size ≤ w16.heap.size := by omega
            have k1 := below_puts (B := w16.heap.size) [.int .i64 0, .int .i64 0, .string ⟨#[]⟩, .int .i64 0, .int .i64 0, .slice none 0 0, .int .i64 0] 0 HB18.out (by have := HB16.out.size; omega)
            have kE := blk_puts_other (C := w16.heap.size) (by omega) [.int .i64 0, .int .i64 0, .string ⟨#[]⟩, .int .i64 0, .int .i64 0, .slice none 0 0, .int .i64 0] 0 HE18.out
            have kL := nds_far (z := w16.heap.size) HL16.out HL18.out hzle [.int .i64 0, .int .i64 0, .string ⟨#[]⟩, .int .i64 0, .int .i64 0, .slice none 0 0, .int .i64 0] 0
            have kRb1 := blk_puts_other (C := w16.heap.size) (by omega) [.int .i64 0, .int .i64 0, .string ⟨#[]⟩, .int .i64 0, .int .i64 0, .slice none 0 0, .int .i64 0] 0 HRb118.out
            have kS := prs_far (z := w16.heap.size) HS16.out HS18.out hzle [.int .i64 0, .int .i64 0, .string ⟨#[]⟩, .int .i64 0, .int .i64 0, .slice none 0 0, .int .i64 0] 0
            have kRb2 := blk_puts_other (C := w16.heap.size) (by omega) [.int .i64 0, .int .i64 0, .string ⟨#[]⟩, .int .i64 0, .int .i64 0, .slice none 0 0, .int .i64 0] 0 HRb218.out
            have kz : Blk (putL w18 w16.heap.size 0 [.int .i64 0, .int .i64 0, .string ⟨#[]⟩, .int .i64 0, .int .i64 0, .slice none 0 0, .int .i64 0]) w16.heap.size [.int .i64 0, .int .i64 0, .string ⟨#[]⟩, .int .i64 0, .int .i64 0, .slice none 0 0, .int .i64 0] := blk_puts [.int .i64 0, .int .i64 0, .string ⟨#[]⟩, .int .i64 0, .int .i64 0, .slice none 0 0, .int .i64 0] 0 HZ18.out (Nat.le_refl 7)
            generalize putL w18 w16.heap.size 0 [.int .i64 0, .int .i64 0, .string ⟨#[]⟩, .int .i64 0, .int .i64 0, .slice none 0 0, .int .i64 0] = wq at *
            exact ⟨w16.heap.size, rfl, rfl, k1, kE, kL, kRb1, kS, kRb2, kz, HX0.out⟩
        case rest =>
        obtain ⟨b3, rfl, rfl, hB, hE, hL, hRb1, hS, hRb2, hbx, hx0⟩ := hcut
        have HB17 := Lib.hid hB; have HE17 := Lib.hid hE; have HL17 := Lib.hid hL; have HRb117 := Lib.hid hRb1; have HS17 := Lib.hid hS; have HRb217 := Lib.hid hRb2; have HRb317 := Lib.hid hbx
        have hy1 : (y == 0) = false := by simpa using hx0
        have hy2 : (y != 0) = true := by simpa using hx0
        clear hB hE hL hRb1 hS hRb2 hbx  HB16 HE16 HL16 HRb116 HS16 HRb216
        generalize wc = w17 at *
        have hltRb1_ := HRb117.out.lt
        have qRb10 := HRb117.out.c 0 _ rfl
        have qRb11 := HRb117.out.c 1 _ rfl
        have qRb12 := HRb117.out.c 2 _ rfl
        have qRb13 := HRb117.out.c 3 _ rfl
        have qRb14 := HRb117.out.c 4 _ rfl
        have qRb15 := HRb117.out.c 5 _ rfl
        have qRb16 := HRb117.out.c 6 _ rfl
        have hltRb2_ := HRb217.out.lt
        have qRb20 := HRb217.out.c 0 _ rfl
        have qRb21 := HRb217.out.c 1 _ rfl
        have qRb22 := HRb217.out.c 2 _ rfl
        have qRb23 := HRb217.out.c 3 _ rfl
        have qRb24 := HRb217.out.c 4 _ rfl
        have qRb25 := HRb217.out.c 5 _ rfl
        have qRb26 := HRb217.out.c 6 _ rfl
        have hltRb3_ := HRb317.out.lt
        have qRb30 := HRb317.out.c 0 _ rfl
        have qRb31 := HRb317.out.c 1 _ rfl
        have qRb32 := HRb317.out.c 2 _ rfl
        have qRb33 := HRb317.out.c 3 _ rfl
        have qRb34 := HRb317.out.c 4 _ rfl
        have qRb35 := HRb317.out.c 5 _ rfl
        have qRb36 := HRb317.out.c 6 _ rfl
        rcases HYX.out with rfl | rfl
        · have hq1 : (y == y) = true := by simp
          go_wp2_with (fail)
          go_ret
          exact ⟨by simp, HB17.out⟩
        · by_cases hxx : x = 22
          · subst hxx
            go_wp2_with (fail)
            go_ret
            exact ⟨by simp, HB17.out⟩
          · have hq1 : ((22 : Int) == x) = false := by rw [beq_eq_false_iff_ne]; omega
            have hq2 : (x == 22) = false := by rw [beq_eq_false_iff_ne]; omega
            go_wp2_with (fail)
            go_ret
            exact ⟨by simp, HB17.out⟩
      · have hS2 := (rnX_left hx).2.2.1
        rcases H4 with ⟨hmany, hy⟩ | ⟨hmany, S3, hy, hout⟩
        · have HMM := Lib.hid hmany
          clear hmany
          rw [show ((3000 + 1 : Nat) : Int) = 3001 by rfl] at hy
          have hltRb1_ := HRb115.out.lt
          have qRb10 := HRb115.out.c 0 _ rfl
          have qRb11 := HRb115.out.c 1 _ rfl
          have qRb12 := HRb115.out.c 2 _ rfl
          have qRb13 := HRb115.out.c 3 _ rfl
          have qRb14 := HRb115.out.c 4 _ rfl
          have qRb15 := HRb115.out.c 5 _ rfl
          have qRb16 := HRb115.out.c 6 _ rfl
          go_upto_region 13 with fail
          go_cut [13, 14] from 92 to 100 (fun sr se wx => ∃ (b2 : Nat) (A2 : Option Addr) (c2 : Nat), sr = .pointer (some ⟨b2, 0, none⟩) ∧ se = .int .i64 0 ∧ Below w.heap.size w wx ∧ Blk wx w.heap.size [.string (tx k), .int .i64 v.k, .int .i64 v.n, .string (tx v.s), .int .i64 v.x, .int .i64 v.y, .int .i64 e.k, .int .i64 e.n, .string (tx e.s), .int .i64 e.x, .int .i64 e.y] ∧ Nds wx Al (ifL a b c) ∧ Blk wx b1 [.int .i64 u.k, .int .i64 u.n, .string (tx u.s), .int .i64 u.x, .int .i64 u.y, .slice Ao S.out.length co, .int .i64 (m : Int)] ∧ Prs wx Ao S.out ∧ Blk wx b2 [.int .i64 t.k, .int .i64 t.n, .string (tx t.s), .int .i64 t.x, .int .i64 t.y, .slice A2 S2.out.length c2, .int .i64 (j : Int)] ∧ Prs wx A2 S2.out)
          case first =>
            have hltE_ := HE15.out.lt
            have qE0 := HE15.out.c 0 _ rfl
            have qE1 := HE15.out.c 1 _ rfl
            have qE2 := HE15.out.c 2 _ rfl
            have qE3 := HE15.out.c 3 _ rfl
            have qE4 := HE15.out.c 4 _ rfl
            have qE5 := HE15.out.c 5 _ rfl
            have qE6 := HE15.out.c 6 _ rfl
            have qE7 := HE15.out.c 7 _ rfl
            have qE8 := HE15.out.c 8 _ rfl
            have qE9 := HE15.out.c 9 _ rfl
            have qE10 := HE15.out.c 10 _ rfl
            have hltRb1_ := HRb115.out.lt
            have qRb10 := HRb115.out.c 0 _ rfl
            have qRb11 := HRb115.out.c 1 _ rfl
            have qRb12 := HRb115.out.c 2 _ rfl
            have qRb13 := HRb115.out.c 3 _ rfl
            have qRb14 := HRb115.out.c 4 _ rfl
            have qRb15 := HRb115.out.c 5 _ rfl
            have qRb16 := HRb115.out.c 6 _ rfl
            go_region_held3 (fun w' => w'.cell? ⟨w.heap.size, 0, none⟩ = some (.string (tx k)) ∧ w'.cell? ⟨w.heap.size, 1, none⟩ = some (.int .i64 v.k) ∧ w'.cell? ⟨w.heap.size, 2, none⟩ = some (.int .i64 v.n) ∧ w'.cell? ⟨w.heap.size, 3, none⟩ = some (.string (tx v.s)) ∧ w'.cell? ⟨w.heap.size, 4, none⟩ = some (.int .i64 v.x) ∧ w'.cell? ⟨w.heap.size, 5, none⟩ = some (.int .i64 v.y) ∧ w'.cell? ⟨w.heap.size, 6, none⟩ = some (.int .i64 e.k) ∧ w'.cell? ⟨w.heap.size, 7, none⟩ = some (.int .i64 e.n) ∧ w'.cell? ⟨w.heap.size, 8, none⟩ = some (.string (tx e.s)) ∧ w'.cell? ⟨w.heap.size, 9, none⟩ = some (.int .i64 e.x) ∧ w'.cell? ⟨w.heap.size, 10, none⟩ = some (.int .i64 e.y) ∧ w'.cell? ⟨b1, 6, none⟩ = some (.int .i64 (m : Int))) (go_keep)
              (first
              | (go_at_call 10
                 refine (HOFc.out _ (below_drewN HB15.out 1) (by omega)).mono ?_
                 rintro eo w16 ⟨Ap, cp, rfl, hop, hb⟩
                 have hW : Below w15.heap.size w15 _ := below_drewN (Below.refl _ _) 1
                 have HB16 := Lib.hid (Below.next (below_drewN HB15.out 1) hb)
                 have HE16 := Lib.hid ((HE15.out.next hW).next hb)
                 have HL16 := Lib.hid ((HL15.out.next hW).next hb)
                 have HRb116 := Lib.hid ((HRb115.out.next hW).next hb)
                 have HS16 := Lib.hid ((HS15.out.next hW).next hb)
                 have HP16 : Hid (Nds w16 Ap c) := Nds.of_own hop
                 have hszm : w15.heap.size ≤ w16.heap.size := Nat.le_trans hW.size hb.size
                 have hneE1 : w15.heap.size ≠ w.heap.size := by have := HE15.out.lt; omega
                 have hneE2 : w16.heap.size ≠ w.heap.size := by have := HE16.out.lt; omega
                 have hneRb11 : w15.heap.size ≠ b1 := by have := HRb115.out.lt; omega
                 have hneRb12 : w16.heap.size ≠ b1 := by have := HRb116.out.lt; omega
                 have mE0 := HE16.out.c 0 _ rfl; have mE1 := HE16.out.c 1 _ rfl; have mE2 := HE16.out.c 2 _ rfl; have mE3 := HE16.out.c 3 _ rfl; have mE4 := HE16.out.c 4 _ rfl; have mE5 := HE16.out.c 5 _ rfl; have mE6 := HE16.out.c 6 _ rfl; have mE7 := HE16.out.c 7 _ rfl; have mE8 := HE16.out.c 8 _ rfl; have mE9 := HE16.out.c 9 _ rfl; have mE10 := HE16.out.c 10 _ rfl; have hltEm := HE16.out.lt
                 have mRb10 := HRb116.out.c 0 _ rfl; have mRb11 := HRb116.out.c 1 _ rfl; have mRb12 := HRb116.out.c 2 _ rfl; have mRb13 := HRb116.out.c 3 _ rfl; have mRb14 := HRb116.out.c 4 _ rfl; have mRb15 := HRb116.out.c 5 _ rfl; have mRb16 := HRb116.out.c 6 _ rfl; have hltRb1m := HRb116.out.lt
                 clear hop hb hW)
              | (go_at_call 10
                 refine (HOFc.out _ ((below_drewN HB15.out 1).alloc HB15.out.size (.cells #[.int .i64 0, .int .i64 0, .string ⟨#[]⟩, .int .i64 0, .int .i64 0, .slice none 0 0, .int .i64 0] 36)) (by omega)).mono ?_
                 rintro eo w16 ⟨Ap, cp, rfl, hop, hb⟩
                 have hW : Below w15.heap.size w15 _ := (below_drewN (Below.refl _ _) 1).alloc (Nat.le_refl _) (.cells #[.int .i64 0, .int .i64 0, .string ⟨#[]⟩, .int .i64 0, .int .i64 0, .slice none 0 0, .int .i64 0] 36)
                 have HB16 := Lib.hid (Below.next ((below_drewN HB15.out 1).alloc HB15.out.size (.cells #[.int .i64 0, .int .i64 0, .string ⟨#[]⟩, .int .i64 0, .int .i64 0, .slice none 0 0, .int .i64 0] 36)) hb)
                 have HE16 := Lib.hid ((HE15.out.next hW).next hb)
                 have HL16 := Lib.hid ((HL15.out.next hW).next hb)
                 have HRb116 := Lib.hid ((HRb115.out.next hW).next hb)
                 have HS16 := Lib.hid ((HS15.out.next hW).next hb)
                 have HP16 : Hid (Nds w16 Ap c) := Nds.of_own hop
                 have hszm : w15.heap.size ≤ w16.heap.size := Nat.le_trans hW.size hb.size
                 have hneE1 : w15.heap.size ≠ w.heap.size := by have := HE15.out.lt; omega
                 have hneE2 : w16.heap.size ≠ w.heap.size := by have := HE16.out.lt; omega
                 have hneRb11 : w15.heap.size ≠ b1 := by have := HRb115.out.lt; omega
                 have hneRb12 : w16.heap.size ≠ b1 := by have := HRb116.out.lt; omega
                 have HZ16 : Hid (Blk w16 w15.heap.size rz7) := (Blk.made (w15.drewN 1) 36 rz7 rfl).next hb
                 have hzlt := HZ16.out.lt
                 have mE0 := HE16.out.c 0 _ rfl; have mE1 := HE16.out.c 1 _ rfl; have mE2 := HE16.out.c 2 _ rfl; have mE3 := HE16.out.c 3 _ rfl; have mE4 := HE16.out.c 4 _ rfl; have mE5 := HE16.out.c 5 _ rfl; have mE6 := HE16.out.c 6 _ rfl; have mE7 := HE16.out.c 7 _ rfl; have mE8 := HE16.out.c 8 _ rfl; have mE9 := HE16.out.c 9 _ rfl; have mE10 := HE16.out.c 10 _ rfl; have hltEm := HE16.out.lt
                 have mRb10 := HRb116.out.c 0 _ rfl; have mRb11 := HRb116.out.c 1 _ rfl; have mRb12 := HRb116.out.c 2 _ rfl; have mRb13 := HRb116.out.c 3 _ rfl; have mRb14 := HRb116.out.c 4 _ rfl; have mRb15 := HRb116.out.c 5 _ rfl; have mRb16 := HRb116.out.c 6 _ rfl; have hltRb1m := HRb116.out.lt
                 clear hop hb hW)
              | (go_at_call 11
                 refine (HRU.out c ((m : Int)) _ HB16.out Ap cp HP16.out (by omega)).mono ?_
                 rintro eo w17 ⟨hb, hq⟩
                 rw [hx] at hq
                 have hW : Below w16.heap.size w16 _ := Below.refl _ _
                 obtain ⟨A2, c2, ho, rfl⟩ := hq
                 have HN17 : Hid (Prs w17 A2 S2.out) := Prs.of_own ho
                 try have HF := Lib.hid (own_far (lo := w15.heap.size) ho hzlt)
                 clear ho
                 have HB17 := Lib.hid (Below.next HB16.out hb)
                 have HE17 := Lib.hid ((HE16.out.next hW).next hb)
                 have HL17 := Lib.hid ((HL16.out.next hW).next hb)
                 have HRb117 := Lib.hid ((HRb116.out.next hW).next hb)
                 have HS17 := Lib.hid ((HS16.out.next hW).next hb)
                 try have HZ17 := Lib.hid (HZ16.out.next hb)
                 try (have zc0 := HZ17.out.c 0 _ rfl; have zf0 := HZ17.out.f 0 _ rfl; have zc1 := HZ17.out.c 1 _ rfl; have zf1 := HZ17.out.f 1 _ rfl; have zc2 := HZ17.out.c 2 _ rfl; have zf2 := HZ17.out.f 2 _ rfl; have zc3 := HZ17.out.c 3 _ rfl; have zf3 := HZ17.out.f 3 _ rfl; have zc4 := HZ17.out.c 4 _ rfl; have zf4 := HZ17.out.f 4 _ rfl; have zc5 := HZ17.out.c 5 _ rfl; have zf5 := HZ17.out.f 5 _ rfl; have zc6 := HZ17.out.c 6 _ rfl; have zf6 := HZ17.out.f 6 _ rfl)
                 try (have hltz := HZ17.out.lt)
                 have hszn : w16.heap.size ≤ w17.heap.size := Nat.le_trans hW.size hb.size
                 have nE0 := HE17.out.c 0 _ rfl; have nE1 := HE17.out.c 1 _ rfl; have nE2 := HE17.out.c 2 _ rfl; have nE3 := HE17.out.c 3 _ rfl; have nE4 := HE17.out.c 4 _ rfl; have nE5 := HE17.out.c 5 _ rfl; have nE6 := HE17.out.c 6 _ rfl; have nE7 := HE17.out.c 7 _ rfl; have nE8 := HE17.out.c 8 _ rfl; have nE9 := HE17.out.c 9 _ rfl; have nE10 := HE17.out.c 10 _ rfl; have hltEn := HE17.out.lt
                 have nRb10 := HRb117.out.c 0 _ rfl; have nRb11 := HRb117.out.c 1 _ rfl; have nRb12 := HRb117.out.c 2 _ rfl; have nRb13 := HRb117.out.c 3 _ rfl; have nRb14 := HRb117.out.c 4 _ rfl; have nRb15 := HRb117.out.c 5 _ rfl; have nRb16 := HRb117.out.c 6 _ rfl; have hltRb1n := HRb117.out.lt
                 clear hb hW)
              | (go_at_call 11
                 refine (HRU.out c ((m : Int)) _ (Below.next HB16.out (box1 w16 (.cells #[.int .i64 0, .int .i64 0, .string ⟨#[]⟩, .int .i64 0, .int .i64 0, .slice none 0 0, .int .i64 0] 36))) Ap cp (HP16.out.next (box1 w16 (.cells #[.int .i64 0, .int .i64 0, .string ⟨#[]⟩, .int .i64 0, .int .i64 0, .slice none 0 0, .int .i64 0] 36))) (by omega)).mono ?_
                 rintro eo w17 ⟨hb, hq⟩
                 rw [hx] at hq
                 have hW : Below w16.heap.size w16 _ := box1 w16 (.cells #[.int .i64 0, .int .i64 0, .string ⟨#[]⟩, .int .i64 0, .int .i64 0, .slice none 0 0, .int .i64 0] 36)
                 obtain ⟨A2, c2, ho, rfl⟩ := hq
                 have HN17 : Hid (Prs w17 A2 S2.out) := Prs.of_own ho
                 have HF := Lib.hid (own_far (lo := w16.heap.size) ho (by rw [World.size_alloc]; omega))
                 clear ho
                 have HB17 := Lib.hid (Below.next (Below.next HB16.out (box1 w16 (.cells #[.int .i64 0, .int .i64 0, .string ⟨#[]⟩, .int .i64 0, .int .i64 0, .slice none 0 0, .int .i64 0] 36))) hb)
                 have HE17 := Lib.hid ((HE16.out.next hW).next hb)
                 have HL17 := Lib.hid ((HL16.out.next hW).next hb)
                 have HRb117 := Lib.hid ((HRb116.out.next hW).next hb)
                 have HS17 := Lib.hid ((HS16.out.next hW).next hb)
                 have HZ17 : Hid (Blk w17 w16.heap.size rz7) := (Blk.made w16 36 rz7 rfl).next hb
                 try (have zc0 := HZ17.out.c 0 _ rfl; have zf0 := HZ17.out.f 0 _ rfl; have zc1 := HZ17.out.c 1 _ rfl; have zf1 := HZ17.out.f 1 _ rfl; have zc2 := HZ17.out.c 2 _ rfl; have zf2 := HZ17.out.f 2 _ rfl; have zc3 := HZ17.out.c 3 _ rfl; have zf3 := HZ17.out.f 3 _ rfl; have zc4 := HZ17.out.c 4 _ rfl; have zf4 := HZ17.out.f 4 _ rfl; have zc5 := HZ17.out.c 5 _ rfl; have zf5 := HZ17.out.f 5 _ rfl; have zc6 := HZ17.out.c 6 _ rfl; have zf6 := HZ17.out.f 6 _ rfl)
                 try (have hltz := HZ17.out.lt)
                 have hszn : w16.heap.size ≤ w17.heap.size := Nat.le_trans hW.size hb.size
                 have nE0 := HE17.out.c 0 _ rfl; have nE1 := HE17.out.c 1 _ rfl; have nE2 := HE17.out.c 2 _ rfl; have nE3 := HE17.out.c 3 _ rfl; have nE4 := HE17.out.c 4 _ rfl; have nE5 := HE17.out.c 5 _ rfl; have nE6 := HE17.out.c 6 _ rfl; have nE7 := HE17.out.c 7 _ rfl; have nE8 := HE17.out.c 8 _ rfl; have nE9 := HE17.out.c 9 _ rfl; have nE10 := HE17.out.c 10 _ rfl; have hltEn := HE17.out.lt
                 have nRb10 := HRb117.out.c 0 _ rfl; have nRb11 := HRb117.out.c 1 _ rfl; have nRb12 := HRb117.out.c 2 _ rfl; have nRb13 := HRb117.out.c 3 _ rfl; have nRb14 := HRb117.out.c 4 _ rfl; have nRb15 := HRb117.out.c 5 _ rfl; have nRb16 := HRb117.out.c 6 _ rfl; have hltRb1n := HRb117.out.lt
                 clear hb hW))
            all_goals (rename_i hHd; clear hHd)
            all_goals go_wp2_with fail
            all_goals go_meet
            · exact ⟨w17.heap.size, A2, c2, rfl, rfl, Below.next HB17.out (box1 w17 _), HE17.out.next (box1 w17 _), HL17.out.next (box1 w17 _), HRb117.out.next (box1 w17 _), HS17.out.next (box1 w17 _), Blk.made w17 36 [.int .i64 t.k, .int .i64 t.n, .string (tx t.s), .int .i64 t.x, .int .i64 t.y, .slice A2 S2.out.length c2, .int .i64 (j : Int)] rfl, HN17.out.next (box1 w17 _)⟩
            · have hp : (((((((w17.setCell ⟨w16.heap.size, 0, none⟩ (.int .i64 t.k)).setCell ⟨w16.heap.size, 1, none⟩ (.int .i64 t.n)).setCell ⟨w16.heap.size, 2, none⟩ (.string (tx t.s))).setCell ⟨w16.heap.size, 3, none⟩ (.int .i64 t.x)).setCell ⟨w16.heap.size, 4, none⟩ (.int .i64 t.y)).setCell ⟨w16.heap.size, 5, none⟩ (.slice A2 S2.out.length c2)).setCell ⟨w16.heap.size, 6, none⟩ (.int .i64 (j : Int))) = putL w17 w16.heap.size 0 [.int .i64 t.k, .int .i64 t.n, .string (tx t.s), .int .i64 t.x, .int .i64 t.y, .slice A2 S2.out.length c2, .int .i64 (j : Int)] := rfl
              rw [hp]
              clear hp
              have hzle : w15.heap.size ≤ w16.heap.size := by omega
              have k1 := below_puts (B := w16.heap.size) [.int .i64 t.k, .int .i64 t.n, .string (tx t.s), .int .i64 t.x, .int .i64 t.y, .slice A2 S2.out.length c2, .int .i64 (j : Int)] 0 HB17.out (by have := HB15.out.size; omega)
              have kE := blk_puts_other (C := w16.heap.size) (by omega) [.int .i64 t.k, .int .i64 t.n, .string (tx t.s), .int .i64 t.x, .int .i64 t.y, .slice A2 S2.out.length c2, .int .i64 (j : Int)] 0 HE17.out
              have kL := nds_far (z := w16.heap.size) HL15.out HL17.out hzle [.int .i64 t.k, .int .i64 t.n, .string (tx t.s), .int .i64 t.x, .int .i64 t.y, .slice A2 S2.out.length c2, .int .i64 (j : Int)] 0
              have kRb1 := blk_puts_other (C := w16.heap.size) (by omega) [.int .i64 t.k, .int .i64 t.n, .string (tx t.s), .int .i64 t.x, .int .i64 t.y, .slice A2 S2.out.length c2, .int .i64 (j : Int)] 0 HRb117.out
              have kS := prs_far (z := w16.heap.size) HS15.out HS17.out hzle [.int .i64 t.k, .int .i64 t.n, .string (tx t.s), .int .i64 t.x, .int .i64 t.y, .slice A2 S2.out.length c2, .int .i64 (j : Int)] 0
              have kz : Blk (putL w17 w16.heap.size 0 [.int .i64 t.k, .int .i64 t.n, .string (tx t.s), .int .i64 t.x, .int .i64 t.y, .slice A2 S2.out.length c2, .int .i64 (j : Int)]) w16.heap.size [.int .i64 t.k, .int .i64 t.n, .string (tx t.s), .int .i64 t.x, .int .i64 t.y, .slice A2 S2.out.length c2, .int .i64 (j : Int)] := blk_puts [.int .i64 t.k, .int .i64 t.n, .string (tx t.s), .int .i64 t.x, .int .i64 t.y, .slice A2 S2.out.length c2, .int .i64 (j : Int)] 0 HZ17.out (Nat.le_refl 7)
              have kn := prs_puts (z := w16.heap.size) [.int .i64 t.k, .int .i64 t.n, .string (tx t.s), .int .i64 t.x, .int .i64 t.y, .slice A2 S2.out.length c2, .int .i64 (j : Int)] 0 HN17.out HF.out
              generalize putL w17 w16.heap.size 0 [.int .i64 t.k, .int .i64 t.n, .string (tx t.s), .int .i64 t.x, .int .i64 t.y, .slice A2 S2.out.length c2, .int .i64 (j : Int)] = wq at *
              exact ⟨w16.heap.size, A2, c2, rfl, rfl, k1, kE, kL, kRb1, kS, kz, kn⟩
            · have hp : (((((((w17.setCell ⟨w15.heap.size, 0, none⟩ (.int .i64 t.k)).setCell ⟨w15.heap.size, 1, none⟩ (.int .i64 t.n)).setCell ⟨w15.heap.size, 2, none⟩ (.string (tx t.s))).setCell ⟨w15.heap.size, 3, none⟩ (.int .i64 t.x)).setCell ⟨w15.heap.size, 4, none⟩ (.int .i64 t.y)).setCell ⟨w15.heap.size, 5, none⟩ (.slice A2 S2.out.length c2)).setCell ⟨w15.heap.size, 6, none⟩ (.int .i64 (j : Int))) = putL w17 w15.heap.size 0 [.int .i64 t.k, .int .i64 t.n, .string (tx t.s), .int .i64 t.x, .int .i64 t.y, .slice A2 S2.out.length c2, .int .i64 (j : Int)] := rfl
              rw [hp]
              clear hp
              have hzle : w15.heap.size ≤ w15.heap.size := by omega
              have k1 := below_puts (B := w15.heap.size) [.int .i64 t.k, .int .i64 t.n, .string (tx t.s), .int .i64 t.x, .int .i64 t.y, .slice A2 S2.out.length c2, .int .i64 (j : Int)] 0 HB17.out (by have := HB15.out.size; omega)
              have kE := blk_puts_other (C := w15.heap.size) (by omega) [.int .i64 t.k, .int .i64 t.n, .string (tx t.s), .int .i64 t.x, .int .i64 t.y, .slice A2 S2.out.length c2, .int .i64 (j : Int)] 0 HE17.out
              have kL := nds_far (z := w15.heap.size) HL15.out HL17.out hzle [.int .i64 t.k, .int .i64 t.n, .string (tx t.s), .int .i64 t.x, .int .i64 t.y, .slice A2 S2.out.length c2, .int .i64 (j : Int)] 0
              have kRb1 := blk_puts_other (C := w15.heap.size) (by omega) [.int .i64 t.k, .int .i64 t.n, .string (tx t.s), .int .i64 t.x, .int .i64 t.y, .slice A2 S2.out.length c2, .int .i64 (j : Int)] 0 HRb117.out
              have kS := prs_far (z := w15.heap.size) HS15.out HS17.out hzle [.int .i64 t.k, .int .i64 t.n, .string (tx t.s), .int .i64 t.x, .int .i64 t.y, .slice A2 S2.out.length c2, .int .i64 (j : Int)] 0
              have kz : Blk (putL w17 w15.heap.size 0 [.int .i64 t.k, .int .i64 t.n, .string (tx t.s), .int .i64 t.x, .int .i64 t.y, .slice A2 S2.out.length c2, .int .i64 (j : Int)]) w15.heap.size [.int .i64 t.k, .int .i64 t.n, .string (tx t.s), .int .i64 t.x, .int .i64 t.y, .slice A2 S2.out.length c2, .int .i64 (j : Int)] := blk_puts [.int .i64 t.k, .int .i64 t.n, .string (tx t.s), .int .i64 t.x, .int .i64 t.y, .slice A2 S2.out.length c2, .int .i64 (j : Int)] 0 HZ17.out (Nat.le_refl 7)
              have kn := prs_puts (z := w15.heap.size) [.int .i64 t.k, .int .i64 t.n, .string (tx t.s), .int .i64 t.x, .int .i64 t.y, .slice A2 S2.out.length c2, .int .i64 (j : Int)] 0 HN17.out HF.out
              generalize putL w17 w15.heap.size 0 [.int .i64 t.k, .int .i64 t.n, .string (tx t.s), .int .i64 t.x, .int .i64 t.y, .slice A2 S2.out.length c2, .int .i64 (j : Int)] = wq at *
              exact ⟨w15.heap.size, A2, c2, rfl, rfl, k1, kE, kL, kRb1, kS, kz, kn⟩
          case rest =>
          obtain ⟨b2, A2, c2, rfl, rfl, hB, hE, hL, hRb1, hS, hbx, hN⟩ := hcut
          have HB16 := Lib.hid hB; have HE16 := Lib.hid hE; have HL16 := Lib.hid hL; have HRb116 := Lib.hid hRb1; have HS16 := Lib.hid hS; have HRb216 := Lib.hid hbx; have HT16 := Lib.hid hN
          clear hB hE hL hRb1 hS hbx hN HB15 HE15 HL15 HRb115 HS15
          generalize wc = w16 at *
          go_upto_region 14 with fail
          go_cut [15, 16] from 101 to 107 (fun sr se wx => ∃ (b3 : Nat), sr = .pointer (some ⟨b3, 0, none⟩) ∧ se = .int .i64 (22 : Int) ∧ Below w.heap.size w wx ∧ Blk wx w.heap.size [.string (tx k), .int .i64 v.k, .int .i64 v.n, .string (tx v.s), .int .i64 v.x, .int .i64 v.y, .int .i64 e.k, .int .i64 e.n, .string (tx e.s), .int .i64 e.x, .int .i64 e.y] ∧ Nds wx Al (ifL a b c) ∧ Blk wx b1 [.int .i64 u.k, .int .i64 u.n, .string (tx u.s), .int .i64 u.x, .int .i64 u.y, .slice Ao S.out.length co, .int .i64 (m : Int)] ∧ Prs wx Ao S.out ∧ Blk wx b2 [.int .i64 t.k, .int .i64 t.n, .string (tx t.s), .int .i64 t.x, .int .i64 t.y, .slice A2 S2.out.length c2, .int .i64 (j : Int)] ∧ Prs wx A2 S2.out ∧ Blk wx b3 [.int .i64 0, .int .i64 0, .string ⟨#[]⟩, .int .i64 0, .int .i64 0, .slice none 0 0, .int .i64 0] ∧ (22 : Int) ≠ 0)
          case first =>
            have hltE_ := HE16.out.lt
            have qE0 := HE16.out.c 0 _ rfl
            have qE1 := HE16.out.c 1 _ rfl
            have qE2 := HE16.out.c 2 _ rfl
            have qE3 := HE16.out.c 3 _ rfl
            have qE4 := HE16.out.c 4 _ rfl
            have qE5 := HE16.out.c 5 _ rfl
            have qE6 := HE16.out.c 6 _ rfl
            have qE7 := HE16.out.c 7 _ rfl
            have qE8 := HE16.out.c 8 _ rfl
            have qE9 := HE16.out.c 9 _ rfl
            have qE10 := HE16.out.c 10 _ rfl
            have hltRb1_ := HRb116.out.lt
            have qRb10 := HRb116.out.c 0 _ rfl
            have qRb11 := HRb116.out.c 1 _ rfl
            have qRb12 := HRb116.out.c 2 _ rfl
            have qRb13 := HRb116.out.c 3 _ rfl
            have qRb14 := HRb116.out.c 4 _ rfl
            have qRb15 := HRb116.out.c 5 _ rfl
            have qRb16 := HRb116.out.c 6 _ rfl
            have hltRb2_ := HRb216.out.lt
            have qRb20 := HRb216.out.c 0 _ rfl
            have qRb21 := HRb216.out.c 1 _ rfl
            have qRb22 := HRb216.out.c 2 _ rfl
            have qRb23 := HRb216.out.c 3 _ rfl
            have qRb24 := HRb216.out.c 4 _ rfl
            have qRb25 := HRb216.out.c 5 _ rfl
            have qRb26 := HRb216.out.c 6 _ rfl
            go_region_held3 (fun w' => w'.cell? ⟨w.heap.size, 0, none⟩ = some (.string (tx k)) ∧ w'.cell? ⟨w.heap.size, 1, none⟩ = some (.int .i64 v.k) ∧ w'.cell? ⟨w.heap.size, 2, none⟩ = some (.int .i64 v.n) ∧ w'.cell? ⟨w.heap.size, 3, none⟩ = some (.string (tx v.s)) ∧ w'.cell? ⟨w.heap.size, 4, none⟩ = some (.int .i64 v.x) ∧ w'.cell? ⟨w.heap.size, 5, none⟩ = some (.int .i64 v.y) ∧ w'.cell? ⟨w.heap.size, 6, none⟩ = some (.int .i64 e.k) ∧ w'.cell? ⟨w.heap.size, 7, none⟩ = some (.int .i64 e.n) ∧ w'.cell? ⟨w.heap.size, 8, none⟩ = some (.string (tx e.s)) ∧ w'.cell? ⟨w.heap.size, 9, none⟩ = some (.int .i64 e.x) ∧ w'.cell? ⟨w.heap.size, 10, none⟩ = some (.int .i64 e.y)) (go_keep)
              (first
              | (go_at_call 10
                 refine (of_any (ifL a b c) Al cl _ (HL16.out.next (below_drewN (Below.refl w16.heap.size w16) 1)) hll).mono ?_
                 rintro eo w17 ⟨Ap, cp, rfl, hop, hb⟩
                 have hW : Below w16.heap.size w16 _ := below_drewN (Below.refl _ _) 1
                 have HB17 := Lib.hid (Below.next (below_drewN HB16.out 1) hb)
                 have HE17 := Lib.hid ((HE16.out.next hW).next hb)
                 have HL17 := Lib.hid ((HL16.out.next hW).next hb)
                 have HRb117 := Lib.hid ((HRb116.out.next hW).next hb)
                 have HS17 := Lib.hid ((HS16.out.next hW).next hb)
                 have HRb217 := Lib.hid ((HRb216.out.next hW).next hb)
                 have HT17 := Lib.hid ((HT16.out.next hW).next hb)
                 have HP17 : Hid (Nds w17 Ap (ifL a b c)) := Nds.of_own hop
                 have hszm : w16.heap.size ≤ w17.heap.size := Nat.le_trans hW.size hb.size
                 have hneE1 : w16.heap.size ≠ w.heap.size := by have := HE16.out.lt; omega
                 have hneE2 : w17.heap.size ≠ w.heap.size := by have := HE17.out.lt; omega
                 have hneRb11 : w16.heap.size ≠ b1 := by have := HRb116.out.lt; omega
                 have hneRb12 : w17.heap.size ≠ b1 := by have := HRb117.out.lt; omega
                 have hneRb21 : w16.heap.size ≠ b2 := by have := HRb216.out.lt; omega
                 have hneRb22 : w17.heap.size ≠ b2 := by have := HRb217.out.lt; omega
                 have mE0 := HE17.out.c 0 _ rfl; have mE1 := HE17.out.c 1 _ rfl; have mE2 := HE17.out.c 2 _ rfl; have mE3 := HE17.out.c 3 _ rfl; have mE4 := HE17.out.c 4 _ rfl; have mE5 := HE17.out.c 5 _ rfl; have mE6 := HE17.out.c 6 _ rfl; have mE7 := HE17.out.c 7 _ rfl; have mE8 := HE17.out.c 8 _ rfl; have mE9 := HE17.out.c 9 _ rfl; have mE10 := HE17.out.c 10 _ rfl; have hltEm := HE17.out.lt
                 have mRb10 := HRb117.out.c 0 _ rfl; have mRb11 := HRb117.out.c 1 _ rfl; have mRb12 := HRb117.out.c 2 _ rfl; have mRb13 := HRb117.out.c 3 _ rfl; have mRb14 := HRb117.out.c 4 _ rfl; have mRb15 := HRb117.out.c 5 _ rfl; have mRb16 := HRb117.out.c 6 _ rfl; have hltRb1m := HRb117.out.lt
                 have mRb20 := HRb217.out.c 0 _ rfl; have mRb21 := HRb217.out.c 1 _ rfl; have mRb22 := HRb217.out.c 2 _ rfl; have mRb23 := HRb217.out.c 3 _ rfl; have mRb24 := HRb217.out.c 4 _ rfl; have mRb25 := HRb217.out.c 5 _ rfl; have mRb26 := HRb217.out.c 6 _ rfl; have hltRb2m := HRb217.out.lt
                 clear hop hb hW)
              | (go_at_call 10
                 refine (of_any (ifL a b c) Al cl _ (HL16.out.next ((below_drewN (Below.refl w16.heap.size w16) 1).alloc (Nat.le_refl _) (.cells #[.int .i64 0, .int .i64 0, .string ⟨#[]⟩, .int .i64 0, .int .i64 0, .slice none 0 0, .int .i64 0] 36))) hll).mono ?_
                 rintro eo w17 ⟨Ap, cp, rfl, hop, hb⟩
                 have hW : Below w16.heap.size w16 _ := (below_drewN (Below.refl _ _) 1).alloc (Nat.le_refl _) (.cells #[.int .i64 0, .int .i64 0, .string ⟨#[]⟩, .int .i64 0, .int .i64 0, .slice none 0 0, .int .i64 0] 36)
                 have HB17 := Lib.hid (Below.next ((below_drewN HB16.out 1).alloc HB16.out.size (.cells #[.int .i64 0, .int .i64 0, .string ⟨#[]⟩, .int .i64 0, .int .i64 0, .slice none 0 0, .int .i64 0] 36)) hb)
                 have HE17 := Lib.hid ((HE16.out.next hW).next hb)
                 have HL17 := Lib.hid ((HL16.out.next hW).next hb)
                 have HRb117 := Lib.hid ((HRb116.out.next hW).next hb)
                 have HS17 := Lib.hid ((HS16.out.next hW).next hb)
                 have HRb217 := Lib.hid ((HRb216.out.next hW).next hb)
                 have HT17 := Lib.hid ((HT16.out.next hW).next hb)
                 have HP17 : Hid (Nds w17 Ap (ifL a b c)) := Nds.of_own hop
                 have hszm : w16.heap.size ≤ w17.heap.size := Nat.le_trans hW.size hb.size
                 have hneE1 : w16.heap.size ≠ w.heap.size := by have := HE16.out.lt; omega
                 have hneE2 : w17.heap.size ≠ w.heap.size := by have := HE17.out.lt; omega
                 have hneRb11 : w16.heap.size ≠ b1 := by have := HRb116.out.lt; omega
                 have hneRb12 : w17.heap.size ≠ b1 := by have := HRb117.out.lt; omega
                 have hneRb21 : w16.heap.size ≠ b2 := by have := HRb216.out.lt; omega
                 have hneRb22 : w17.heap.size ≠ b2 := by have := HRb217.out.lt; omega
                 have HZ17 : Hid (Blk w17 w16.heap.size rz7) := (Blk.made (w16.drewN 1) 36 rz7 rfl).next hb
                 have hzlt := HZ17.out.lt
                 have mE0 := HE17.out.c 0 _ rfl; have mE1 := HE17.out.c 1 _ rfl; have mE2 := HE17.out.c 2 _ rfl; have mE3 := HE17.out.c 3 _ rfl; have mE4 := HE17.out.c 4 _ rfl; have mE5 := HE17.out.c 5 _ rfl; have mE6 := HE17.out.c 6 _ rfl; have mE7 := HE17.out.c 7 _ rfl; have mE8 := HE17.out.c 8 _ rfl; have mE9 := HE17.out.c 9 _ rfl; have mE10 := HE17.out.c 10 _ rfl; have hltEm := HE17.out.lt
                 have mRb10 := HRb117.out.c 0 _ rfl; have mRb11 := HRb117.out.c 1 _ rfl; have mRb12 := HRb117.out.c 2 _ rfl; have mRb13 := HRb117.out.c 3 _ rfl; have mRb14 := HRb117.out.c 4 _ rfl; have mRb15 := HRb117.out.c 5 _ rfl; have mRb16 := HRb117.out.c 6 _ rfl; have hltRb1m := HRb117.out.lt
                 have mRb20 := HRb217.out.c 0 _ rfl; have mRb21 := HRb217.out.c 1 _ rfl; have mRb22 := HRb217.out.c 2 _ rfl; have mRb23 := HRb217.out.c 3 _ rfl; have mRb24 := HRb217.out.c 4 _ rfl; have mRb25 := HRb217.out.c 5 _ rfl; have mRb26 := HRb217.out.c 6 _ rfl; have hltRb2m := HRb217.out.lt
                 clear hop hb hW)
              | (go_at_call 11
                 refine (HRU.out (ifL a b c) (3001) _ HB17.out Ap cp HP17.out (by omega)).mono ?_
                 rintro eo w18 ⟨hb, hq⟩
                 rw [hy] at hq
                 have hW : Below w17.heap.size w17 _ := Below.refl _ _
                 obtain ⟨hx0, rfl⟩ := hq
                 have HX0 := Lib.hid hx0
                 clear hx0
                 have HB18 := Lib.hid (Below.next HB17.out hb)
                 have HE18 := Lib.hid ((HE17.out.next hW).next hb)
                 have HL18 := Lib.hid ((HL17.out.next hW).next hb)
                 have HRb118 := Lib.hid ((HRb117.out.next hW).next hb)
                 have HS18 := Lib.hid ((HS17.out.next hW).next hb)
                 have HRb218 := Lib.hid ((HRb217.out.next hW).next hb)
                 have HT18 := Lib.hid ((HT17.out.next hW).next hb)
                 try have HZ18 := Lib.hid (HZ17.out.next hb)
                 try (have zc0 := HZ18.out.c 0 _ rfl; have zf0 := HZ18.out.f 0 _ rfl; have zc1 := HZ18.out.c 1 _ rfl; have zf1 := HZ18.out.f 1 _ rfl; have zc2 := HZ18.out.c 2 _ rfl; have zf2 := HZ18.out.f 2 _ rfl; have zc3 := HZ18.out.c 3 _ rfl; have zf3 := HZ18.out.f 3 _ rfl; have zc4 := HZ18.out.c 4 _ rfl; have zf4 := HZ18.out.f 4 _ rfl; have zc5 := HZ18.out.c 5 _ rfl; have zf5 := HZ18.out.f 5 _ rfl; have zc6 := HZ18.out.c 6 _ rfl; have zf6 := HZ18.out.f 6 _ rfl)
                 try (have hltz := HZ18.out.lt)
                 have hszn : w17.heap.size ≤ w18.heap.size := Nat.le_trans hW.size hb.size
                 have nE0 := HE18.out.c 0 _ rfl; have nE1 := HE18.out.c 1 _ rfl; have nE2 := HE18.out.c 2 _ rfl; have nE3 := HE18.out.c 3 _ rfl; have nE4 := HE18.out.c 4 _ rfl; have nE5 := HE18.out.c 5 _ rfl; have nE6 := HE18.out.c 6 _ rfl; have nE7 := HE18.out.c 7 _ rfl; have nE8 := HE18.out.c 8 _ rfl; have nE9 := HE18.out.c 9 _ rfl; have nE10 := HE18.out.c 10 _ rfl; have hltEn := HE18.out.lt
                 have nRb10 := HRb118.out.c 0 _ rfl; have nRb11 := HRb118.out.c 1 _ rfl; have nRb12 := HRb118.out.c 2 _ rfl; have nRb13 := HRb118.out.c 3 _ rfl; have nRb14 := HRb118.out.c 4 _ rfl; have nRb15 := HRb118.out.c 5 _ rfl; have nRb16 := HRb118.out.c 6 _ rfl; have hltRb1n := HRb118.out.lt
                 have nRb20 := HRb218.out.c 0 _ rfl; have nRb21 := HRb218.out.c 1 _ rfl; have nRb22 := HRb218.out.c 2 _ rfl; have nRb23 := HRb218.out.c 3 _ rfl; have nRb24 := HRb218.out.c 4 _ rfl; have nRb25 := HRb218.out.c 5 _ rfl; have nRb26 := HRb218.out.c 6 _ rfl; have hltRb2n := HRb218.out.lt
                 clear hb hW)
              | (go_at_call 11
                 refine (HRU.out (ifL a b c) (3001) _ (Below.next HB17.out (box1 w17 (.cells #[.int .i64 0, .int .i64 0, .string ⟨#[]⟩, .int .i64 0, .int .i64 0, .slice none 0 0, .int .i64 0] 36))) Ap cp (HP17.out.next (box1 w17 (.cells #[.int .i64 0, .int .i64 0, .string ⟨#[]⟩, .int .i64 0, .int .i64 0, .slice none 0 0, .int .i64 0] 36))) (by omega)).mono ?_
                 rintro eo w18 ⟨hb, hq⟩
                 rw [hy] at hq
                 have hW : Below w17.heap.size w17 _ := box1 w17 (.cells #[.int .i64 0, .int .i64 0, .string ⟨#[]⟩, .int .i64 0, .int .i64 0, .slice none 0 0, .int .i64 0] 36)
                 obtain ⟨hx0, rfl⟩ := hq
                 have HX0 := Lib.hid hx0
                 clear hx0
                 have HB18 := Lib.hid (Below.next (Below.next HB17.out (box1 w17 (.cells #[.int .i64 0, .int .i64 0, .string ⟨#[]⟩, .int .i64 0, .int .i64 0, .slice none 0 0, .int .i64 0] 36))) hb)
                 have HE18 := Lib.hid ((HE17.out.next hW).next hb)
                 have HL18 := Lib.hid ((HL17.out.next hW).next hb)
                 have HRb118 := Lib.hid ((HRb117.out.next hW).next hb)
                 have HS18 := Lib.hid ((HS17.out.next hW).next hb)
                 have HRb218 := Lib.hid ((HRb217.out.next hW).next hb)
                 have HT18 := Lib.hid ((HT17.out.next hW).next hb)
                 have HZ18 : Hid (Blk w18 w17.heap.size rz7) := (Blk.made w17 36 rz7 rfl).next hb
                 try (have zc0 := HZ18.out.c 0 _ rfl; have zf0 := HZ18.out.f 0 _ rfl; have zc1 := HZ18.out.c 1 _ rfl; have zf1 := HZ18.out.f 1 _ rfl; have zc2 := HZ18.out.c 2 _ rfl; have zf2 := HZ18.out.f 2 _ rfl; have zc3 := HZ18.out.c 3 _ rfl; have zf3 := HZ18.out.f 3 _ rfl; have zc4 := HZ18.out.c 4 _ rfl; have zf4 := HZ18.out.f 4 _ rfl; have zc5 := HZ18.out.c 5 _ rfl; have zf5 := HZ18.out.f 5 _ rfl; have zc6 := HZ18.out.c 6 _ rfl; have zf6 := HZ18.out.f 6 _ rfl)
                 try (have hltz := HZ18.out.lt)
                 have hszn : w17.heap.size ≤ w18.heap.size := Nat.le_trans hW.size hb.size
                 have nE0 := HE18.out.c 0 _ rfl; have nE1 := HE18.out.c 1 _ rfl; have nE2 := HE18.out.c 2 _ rfl; have nE3 := HE18.out.c 3 _ rfl; have nE4 := HE18.out.c 4 _ rfl; have nE5 := HE18.out.c 5 _ rfl; have nE6 := HE18.out.c 6 _ rfl; have nE7 := HE18.out.c 7 _ rfl; have nE8 := HE18.out.c 8 _ rfl; have nE9 := HE18.out.c 9 _ rfl; have nE10 := HE18.out.c 10 _ rfl; have hltEn := HE18.out.lt
                 have nRb10 := HRb118.out.c 0 _ rfl; have nRb11 := HRb118.out.c 1 _ rfl; have nRb12 := HRb118.out.c 2 _ rfl; have nRb13 := HRb118.out.c 3 _ rfl; have nRb14 := HRb118.out.c 4 _ rfl; have nRb15 := HRb118.out.c 5 _ rfl; have nRb16 := HRb118.out.c 6 _ rfl; have hltRb1n := HRb118.out.lt
                 have nRb20 := HRb218.out.c 0 _ rfl; have nRb21 := HRb218.out.c 1 _ rfl; have nRb22 := HRb218.out.c 2 _ rfl; have nRb23 := HRb218.out.c 3 _ rfl; have nRb24 := HRb218.out.c 4 _ rfl; have nRb25 := HRb218.out.c 5 _ rfl; have nRb26 := HRb218.out.c 6 _ rfl; have hltRb2n := HRb218.out.lt
                 clear hb hW))
            all_goals (rename_i hHd; clear hHd)
            all_goals go_wp2_with fail
            all_goals go_meet
            · exact ⟨w18.heap.size, rfl, rfl, Below.next HB18.out (box1 w18 _), HE18.out.next (box1 w18 _), HL18.out.next (box1 w18 _), HRb118.out.next (box1 w18 _), HS18.out.next (box1 w18 _), HRb218.out.next (box1 w18 _), HT18.out.next (box1 w18 _), Blk.made w18 36 [.int .i64 0, .int .i64 0, .string ⟨#[]⟩, .int .i64 0, .int .i64 0, .slice none 0 0, .int .i64 0] rfl, HX0.out⟩
            · have hp : (((((((w18.setCell ⟨w17.heap.size, 0, none⟩ (.int .i64 0)).setCell ⟨w17.heap.size, 1, none⟩ (.int .i64 0)).setCell ⟨w17.heap.size, 2, none⟩ (.string ⟨#[]⟩)).setCell ⟨w17.heap.size, 3, none⟩ (.int .i64 0)).setCell ⟨w17.heap.size, 4, none⟩ (.int .i64 0)).setCell ⟨w17.heap.size, 5, none⟩ (.slice none 0 0)).setCell ⟨w17.heap.size, 6, none⟩ (.int .i64 0)) = putL w18 w17.heap.size 0 [.int .i64 0, .int .i64 0, .string ⟨#[]⟩, .int .i64 0, .int .i64 0, .slice none 0 0, .int .i64 0] := rfl
              rw [hp]
              clear hp
              have hzle : w16.heap.size ≤ w17.heap.size := by omega
              have k1 := below_puts (B := w17.heap.size) [.int .i64 0, .int .i64 0, .string ⟨#[]⟩, .int .i64 0, .int .i64 0, .slice none 0 0, .int .i64 0] 0 HB18.out (by have := HB16.out.size; omega)
              have kE := blk_puts_other (C := w17.heap.size) (by omega) [.int .i64 0, .int .i64 0, .string ⟨#[]⟩, .int .i64 0, .int .i64 0, .slice none 0 0, .int .i64 0] 0 HE18.out
              have kL := nds_far (z := w17.heap.size) HL16.out HL18.out hzle [.int .i64 0, .int .i64 0, .string ⟨#[]⟩, .int .i64 0, .int .i64 0, .slice none 0 0, .int .i64 0] 0
              have kRb1 := blk_puts_other (C := w17.heap.size) (by omega) [.int .i64 0, .int .i64 0, .string ⟨#[]⟩, .int .i64 0, .int .i64 0, .slice none 0 0, .int .i64 0] 0 HRb118.out
              have kS := prs_far (z := w17.heap.size) HS16.out HS18.out hzle [.int .i64 0, .int .i64 0, .string ⟨#[]⟩, .int .i64 0, .int .i64 0, .slice none 0 0, .int .i64 0] 0
              have kRb2 := blk_puts_other (C := w17.heap.size) (by omega) [.int .i64 0, .int .i64 0, .string ⟨#[]⟩, .int .i64 0, .int .i64 0, .slice none 0 0, .int .i64 0] 0 HRb218.out
              have kT := prs_far (z := w17.heap.size) HT16.out HT18.out hzle [.int .i64 0, .int .i64 0, .string ⟨#[]⟩, .int .i64 0, .int .i64 0, .slice none 0 0, .int .i64 0] 0
              have kz : Blk (putL w18 w17.heap.size 0 [.int .i64 0, .int .i64 0, .string ⟨#[]⟩, .int .i64 0, .int .i64 0, .slice none 0 0, .int .i64 0]) w17.heap.size [.int .i64 0, .int .i64 0, .string ⟨#[]⟩, .int .i64 0, .int .i64 0, .slice none 0 0, .int .i64 0] := blk_puts [.int .i64 0, .int .i64 0, .string ⟨#[]⟩, .int .i64 0, .int .i64 0, .slice none 0 0, .int .i64 0] 0 HZ18.out (Nat.le_refl 7)
              generalize putL w18 w17.heap.size 0 [.int .i64 0, .int .i64 0, .string ⟨#[]⟩, .int .i64 0, .int .i64 0, .slice none 0 0, .int .i64 0] = wq at *
              exact ⟨w17.heap.size, rfl, rfl, k1, kE, kL, kRb1, kS, kRb2, kT, kz, HX0.out⟩
            · have hp : (((((((w18.setCell ⟨w16.heap.size, 0, none⟩ (.int .i64 0)).setCell ⟨w16.heap.size, 1, none⟩ (.int .i64 0)).setCell ⟨w16.heap.size, 2, none⟩ (.string ⟨#[]⟩)).setCell ⟨w16.heap.size, 3, none⟩ (.int .i64 0)).setCell ⟨w16.heap.size, 4, none⟩ (.int .i64 0)).setCell ⟨w16.heap.size, 5, none⟩ (.slice none 0 0)).setCell ⟨w16.heap.size, 6, none⟩ (.int .i64 0)) = putL w18 w16.heap.size 0 [.int .i64 0, .int .i64 0, .string ⟨#[]⟩, .int .i64 0, .int .i64 0, .slice none 0 0, .int .i64 0] := rfl
              rw [hp]
              clear hp
              have hzle : w16.heap.size ≤ w16.heap.size := by omega
              have k1 := below_puts (B := w16.heap.size) [.int .i64 0, .int .i64 0, .string ⟨#[]⟩, .int .i64 0, .int .i64 0, .slice none 0 0, .int .i64 0] 0 HB18.out (by have := HB16.out.size; omega)
              have kE := blk_puts_other (C := w16.heap.size) (by omega) [.int .i64 0, .int .i64 0, .string ⟨#[]⟩, .int .i64 0, .int .i64 0, .slice none 0 0, .int .i64 0] 0 HE18.out
              have kL := nds_far (z := w16.heap.size) HL16.out HL18.out hzle [.int .i64 0, .int .i64 0, .string ⟨#[]⟩, .int .i64 0, .int .i64 0, .slice none 0 0, .int .i64 0] 0
              have kRb1 := blk_puts_other (C := w16.heap.size) (by omega) [.int .i64 0, .int .i64 0, .string ⟨#[]⟩, .int .i64 0, .int .i64 0, .slice none 0 0, .int .i64 0] 0 HRb118.out
              have kS := prs_far (z := w16.heap.size) HS16.out HS18.out hzle [.int .i64 0, .int .i64 0, .string ⟨#[]⟩, .int .i64 0, .int .i64 0, .slice none 0 0, .int .i64 0] 0
              have kRb2 := blk_puts_other (C := w16.heap.size) (by omega) [.int .i64 0, .int .i64 0, .string ⟨#[]⟩, .int .i64 0, .int .i64 0, .slice none 0 0, .int .i64 0] 0 HRb218.out
              have kT := prs_far (z := w16.heap.size) HT16.out HT18.out hzle [.int .i64 0, .int .i64 0, .string ⟨#[]⟩, .int .i64 0, .int .i64 0, .slice none 0 0, .int .i64 0] 0
              have kz : Blk (putL w18 w16.heap.size 0 [.int .i64 0, .int .i64 0, .string ⟨#[]⟩, .int .i64 0, .int .i64 0, .slice none 0 0, .int .i64 0]) w16.heap.size [.int .i64 0, .int .i64 0, .string ⟨#[]⟩, .int .i64 0, .int .i64 0, .slice none 0 0, .int .i64 0] := blk_puts [.int .i64 0, .int .i64 0, .string ⟨#[]⟩, .int .i64 0, .int .i64 0, .slice none 0 0, .int .i64 0] 0 HZ18.out (Nat.le_refl 7)
              generalize putL w18 w16.heap.size 0 [.int .i64 0, .int .i64 0, .string ⟨#[]⟩, .int .i64 0, .int .i64 0, .slice none 0 0, .int .i64 0] = wq at *
              exact ⟨w16.heap.size, rfl, rfl, k1, kE, kL, kRb1, kS, kRb2, kT, kz, HX0.out⟩
          case rest =>
          obtain ⟨b3, rfl, rfl, hB, hE, hL, hRb1, hS, hRb2, hT, hbx, hx0⟩ := hcut
          have HB17 := Lib.hid hB; have HE17 := Lib.hid hE; have HL17 := Lib.hid hL; have HRb117 := Lib.hid hRb1; have HS17 := Lib.hid hS; have HRb217 := Lib.hid hRb2; have HT17 := Lib.hid hT; have HRb317 := Lib.hid hbx
          clear hB hE hL hRb1 hS hRb2 hT hbx  HB16 HE16 HL16 HRb116 HS16 HRb216 HT16
          generalize wc = w17 at *
          have hltRb1_ := HRb117.out.lt
          have qRb10 := HRb117.out.c 0 _ rfl
          have qRb11 := HRb117.out.c 1 _ rfl
          have qRb12 := HRb117.out.c 2 _ rfl
          have qRb13 := HRb117.out.c 3 _ rfl
          have qRb14 := HRb117.out.c 4 _ rfl
          have qRb15 := HRb117.out.c 5 _ rfl
          have qRb16 := HRb117.out.c 6 _ rfl
          have hltRb2_ := HRb217.out.lt
          have qRb20 := HRb217.out.c 0 _ rfl
          have qRb21 := HRb217.out.c 1 _ rfl
          have qRb22 := HRb217.out.c 2 _ rfl
          have qRb23 := HRb217.out.c 3 _ rfl
          have qRb24 := HRb217.out.c 4 _ rfl
          have qRb25 := HRb217.out.c 5 _ rfl
          have qRb26 := HRb217.out.c 6 _ rfl
          have hltRb3_ := HRb317.out.lt
          have qRb30 := HRb317.out.c 0 _ rfl
          have qRb31 := HRb317.out.c 1 _ rfl
          have qRb32 := HRb317.out.c 2 _ rfl
          have qRb33 := HRb317.out.c 3 _ rfl
          have qRb34 := HRb317.out.c 4 _ rfl
          have qRb35 := HRb317.out.c 5 _ rfl
          have qRb36 := HRb317.out.c 6 _ rfl
          have hlm := HMM.out
          go_wp2_with (fail)
          go_ret
          exact ⟨by simp, HB17.out⟩
        · have HMM := Lib.hid hmany; have HOUT := Lib.hid hout
          clear hmany hout
          rw [show ((3000 + 1 : Nat) : Int) = 3001 by rfl] at hy
          have hltRb1_ := HRb115.out.lt
          have qRb10 := HRb115.out.c 0 _ rfl
          have qRb11 := HRb115.out.c 1 _ rfl
          have qRb12 := HRb115.out.c 2 _ rfl
          have qRb13 := HRb115.out.c 3 _ rfl
          have qRb14 := HRb115.out.c 4 _ rfl
          have qRb15 := HRb115.out.c 5 _ rfl
          have qRb16 := HRb115.out.c 6 _ rfl
          go_upto_region 13 with fail
          go_cut [13, 14] from 92 to 100 (fun sr se wx => ∃ (b2 : Nat) (A2 : Option Addr) (c2 : Nat), sr = .pointer (some ⟨b2, 0, none⟩) ∧ se = .int .i64 0 ∧ Below w.heap.size w wx ∧ Blk wx w.heap.size [.string (tx k), .int .i64 v.k, .int .i64 v.n, .string (tx v.s), .int .i64 v.x, .int .i64 v.y, .int .i64 e.k, .int .i64 e.n, .string (tx e.s), .int .i64 e.x, .int .i64 e.y] ∧ Nds wx Al (ifL a b c) ∧ Blk wx b1 [.int .i64 u.k, .int .i64 u.n, .string (tx u.s), .int .i64 u.x, .int .i64 u.y, .slice Ao S.out.length co, .int .i64 (m : Int)] ∧ Prs wx Ao S.out ∧ Blk wx b2 [.int .i64 t.k, .int .i64 t.n, .string (tx t.s), .int .i64 t.x, .int .i64 t.y, .slice A2 S2.out.length c2, .int .i64 (j : Int)] ∧ Prs wx A2 S2.out)
          case first =>
            have hltE_ := HE15.out.lt
            have qE0 := HE15.out.c 0 _ rfl
            have qE1 := HE15.out.c 1 _ rfl
            have qE2 := HE15.out.c 2 _ rfl
            have qE3 := HE15.out.c 3 _ rfl
            have qE4 := HE15.out.c 4 _ rfl
            have qE5 := HE15.out.c 5 _ rfl
            have qE6 := HE15.out.c 6 _ rfl
            have qE7 := HE15.out.c 7 _ rfl
            have qE8 := HE15.out.c 8 _ rfl
            have qE9 := HE15.out.c 9 _ rfl
            have qE10 := HE15.out.c 10 _ rfl
            have hltRb1_ := HRb115.out.lt
            have qRb10 := HRb115.out.c 0 _ rfl
            have qRb11 := HRb115.out.c 1 _ rfl
            have qRb12 := HRb115.out.c 2 _ rfl
            have qRb13 := HRb115.out.c 3 _ rfl
            have qRb14 := HRb115.out.c 4 _ rfl
            have qRb15 := HRb115.out.c 5 _ rfl
            have qRb16 := HRb115.out.c 6 _ rfl
            go_region_held3 (fun w' => w'.cell? ⟨w.heap.size, 0, none⟩ = some (.string (tx k)) ∧ w'.cell? ⟨w.heap.size, 1, none⟩ = some (.int .i64 v.k) ∧ w'.cell? ⟨w.heap.size, 2, none⟩ = some (.int .i64 v.n) ∧ w'.cell? ⟨w.heap.size, 3, none⟩ = some (.string (tx v.s)) ∧ w'.cell? ⟨w.heap.size, 4, none⟩ = some (.int .i64 v.x) ∧ w'.cell? ⟨w.heap.size, 5, none⟩ = some (.int .i64 v.y) ∧ w'.cell? ⟨w.heap.size, 6, none⟩ = some (.int .i64 e.k) ∧ w'.cell? ⟨w.heap.size, 7, none⟩ = some (.int .i64 e.n) ∧ w'.cell? ⟨w.heap.size, 8, none⟩ = some (.string (tx e.s)) ∧ w'.cell? ⟨w.heap.size, 9, none⟩ = some (.int .i64 e.x) ∧ w'.cell? ⟨w.heap.size, 10, none⟩ = some (.int .i64 e.y) ∧ w'.cell? ⟨b1, 6, none⟩ = some (.int .i64 (m : Int))) (go_keep)
              (first
              | (go_at_call 10
                 refine (HOFc.out _ (below_drewN HB15.out 1) (by omega)).mono ?_
                 rintro eo w16 ⟨Ap, cp, rfl, hop, hb⟩
                 have hW : Below w15.heap.size w15 _ := below_drewN (Below.refl _ _) 1
                 have HB16 := Lib.hid (Below.next (below_drewN HB15.out 1) hb)
                 have HE16 := Lib.hid ((HE15.out.next hW).next hb)
                 have HL16 := Lib.hid ((HL15.out.next hW).next hb)
                 have HRb116 := Lib.hid ((HRb115.out.next hW).next hb)
                 have HS16 := Lib.hid ((HS15.out.next hW).next hb)
                 have HP16 : Hid (Nds w16 Ap c) := Nds.of_own hop
                 have hszm : w15.heap.size ≤ w16.heap.size := Nat.le_trans hW.size hb.size
                 have hneE1 : w15.heap.size ≠ w.heap.size := by have := HE15.out.lt; omega
                 have hneE2 : w16.heap.size ≠ w.heap.size := by have := HE16.out.lt; omega
                 have hneRb11 : w15.heap.size ≠ b1 := by have := HRb115.out.lt; omega
                 have hneRb12 : w16.heap.size ≠ b1 := by have := HRb116.out.lt; omega
                 have mE0 := HE16.out.c 0 _ rfl; have mE1 := HE16.out.c 1 _ rfl; have mE2 := HE16.out.c 2 _ rfl; have mE3 := HE16.out.c 3 _ rfl; have mE4 := HE16.out.c 4 _ rfl; have mE5 := HE16.out.c 5 _ rfl; have mE6 := HE16.out.c 6 _ rfl; have mE7 := HE16.out.c 7 _ rfl; have mE8 := HE16.out.c 8 _ rfl; have mE9 := HE16.out.c 9 _ rfl; have mE10 := HE16.out.c 10 _ rfl; have hltEm := HE16.out.lt
                 have mRb10 := HRb116.out.c 0 _ rfl; have mRb11 := HRb116.out.c 1 _ rfl; have mRb12 := HRb116.out.c 2 _ rfl; have mRb13 := HRb116.out.c 3 _ rfl; have mRb14 := HRb116.out.c 4 _ rfl; have mRb15 := HRb116.out.c 5 _ rfl; have mRb16 := HRb116.out.c 6 _ rfl; have hltRb1m := HRb116.out.lt
                 clear hop hb hW)
              | (go_at_call 10
                 refine (HOFc.out _ ((below_drewN HB15.out 1).alloc HB15.out.size (.cells #[.int .i64 0, .int .i64 0, .string ⟨#[]⟩, .int .i64 0, .int .i64 0, .slice none 0 0, .int .i64 0] 36)) (by omega)).mono ?_
                 rintro eo w16 ⟨Ap, cp, rfl, hop, hb⟩
                 have hW : Below w15.heap.size w15 _ := (below_drewN (Below.refl _ _) 1).alloc (Nat.le_refl _) (.cells #[.int .i64 0, .int .i64 0, .string ⟨#[]⟩, .int .i64 0, .int .i64 0, .slice none 0 0, .int .i64 0] 36)
                 have HB16 := Lib.hid (Below.next ((below_drewN HB15.out 1).alloc HB15.out.size (.cells #[.int .i64 0, .int .i64 0, .string ⟨#[]⟩, .int .i64 0, .int .i64 0, .slice none 0 0, .int .i64 0] 36)) hb)
                 have HE16 := Lib.hid ((HE15.out.next hW).next hb)
                 have HL16 := Lib.hid ((HL15.out.next hW).next hb)
                 have HRb116 := Lib.hid ((HRb115.out.next hW).next hb)
                 have HS16 := Lib.hid ((HS15.out.next hW).next hb)
                 have HP16 : Hid (Nds w16 Ap c) := Nds.of_own hop
                 have hszm : w15.heap.size ≤ w16.heap.size := Nat.le_trans hW.size hb.size
                 have hneE1 : w15.heap.size ≠ w.heap.size := by have := HE15.out.lt; omega
                 have hneE2 : w16.heap.size ≠ w.heap.size := by have := HE16.out.lt; omega
                 have hneRb11 : w15.heap.size ≠ b1 := by have := HRb115.out.lt; omega
                 have hneRb12 : w16.heap.size ≠ b1 := by have := HRb116.out.lt; omega
                 have HZ16 : Hid (Blk w16 w15.heap.size rz7) := (Blk.made (w15.drewN 1) 36 rz7 rfl).next hb
                 have hzlt := HZ16.out.lt
                 have mE0 := HE16.out.c 0 _ rfl; have mE1 := HE16.out.c 1 _ rfl; have mE2 := HE16.out.c 2 _ rfl; have mE3 := HE16.out.c 3 _ rfl; have mE4 := HE16.out.c 4 _ rfl; have mE5 := HE16.out.c 5 _ rfl; have mE6 := HE16.out.c 6 _ rfl; have mE7 := HE16.out.c 7 _ rfl; have mE8 := HE16.out.c 8 _ rfl; have mE9 := HE16.out.c 9 _ rfl; have mE10 := HE16.out.c 10 _ rfl; have hltEm := HE16.out.lt
                 have mRb10 := HRb116.out.c 0 _ rfl; have mRb11 := HRb116.out.c 1 _ rfl; have mRb12 := HRb116.out.c 2 _ rfl; have mRb13 := HRb116.out.c 3 _ rfl; have mRb14 := HRb116.out.c 4 _ rfl; have mRb15 := HRb116.out.c 5 _ rfl; have mRb16 := HRb116.out.c 6 _ rfl; have hltRb1m := HRb116.out.lt
                 clear hop hb hW)
              | (go_at_call 11
                 refine (HRU.out c ((m : Int)) _ HB16.out Ap cp HP16.out (by omega)).mono ?_
                 rintro eo w17 ⟨hb, hq⟩
                 rw [hx] at hq
                 have hW : Below w16.heap.size w16 _ := Below.refl _ _
                 obtain ⟨A2, c2, ho, rfl⟩ := hq
                 have HN17 : Hid (Prs w17 A2 S2.out) := Prs.of_own ho
                 try have HF := Lib.hid (own_far (lo := w15.heap.size) ho hzlt)
                 clear ho
                 have HB17 := Lib.hid (Below.next HB16.out hb)
                 have HE17 := Lib.hid ((HE16.out.next hW).next hb)
                 have HL17 := Lib.hid ((HL16.out.next hW).next hb)
                 have HRb117 := Lib.hid ((HRb116.out.next hW).next hb)
                 have HS17 := Lib.hid ((HS16.out.next hW).next hb)
                 try have HZ17 := Lib.hid (HZ16.out.next hb)
                 try (have zc0 := HZ17.out.c 0 _ rfl; have zf0 := HZ17.out.f 0 _ rfl; have zc1 := HZ17.out.c 1 _ rfl; have zf1 := HZ17.out.f 1 _ rfl; have zc2 := HZ17.out.c 2 _ rfl; have zf2 := HZ17.out.f 2 _ rfl; have zc3 := HZ17.out.c 3 _ rfl; have zf3 := HZ17.out.f 3 _ rfl; have zc4 := HZ17.out.c 4 _ rfl; have zf4 := HZ17.out.f 4 _ rfl; have zc5 := HZ17.out.c 5 _ rfl; have zf5 := HZ17.out.f 5 _ rfl; have zc6 := HZ17.out.c 6 _ rfl; have zf6 := HZ17.out.f 6 _ rfl)
                 try (have hltz := HZ17.out.lt)
                 have hszn : w16.heap.size ≤ w17.heap.size := Nat.le_trans hW.size hb.size
                 have nE0 := HE17.out.c 0 _ rfl; have nE1 := HE17.out.c 1 _ rfl; have nE2 := HE17.out.c 2 _ rfl; have nE3 := HE17.out.c 3 _ rfl; have nE4 := HE17.out.c 4 _ rfl; have nE5 := HE17.out.c 5 _ rfl; have nE6 := HE17.out.c 6 _ rfl; have nE7 := HE17.out.c 7 _ rfl; have nE8 := HE17.out.c 8 _ rfl; have nE9 := HE17.out.c 9 _ rfl; have nE10 := HE17.out.c 10 _ rfl; have hltEn := HE17.out.lt
                 have nRb10 := HRb117.out.c 0 _ rfl; have nRb11 := HRb117.out.c 1 _ rfl; have nRb12 := HRb117.out.c 2 _ rfl; have nRb13 := HRb117.out.c 3 _ rfl; have nRb14 := HRb117.out.c 4 _ rfl; have nRb15 := HRb117.out.c 5 _ rfl; have nRb16 := HRb117.out.c 6 _ rfl; have hltRb1n := HRb117.out.lt
                 clear hb hW)
              | (go_at_call 11
                 refine (HRU.out c ((m : Int)) _ (Below.next HB16.out (box1 w16 (.cells #[.int .i64 0, .int .i64 0, .string ⟨#[]⟩, .int .i64 0, .int .i64 0, .slice none 0 0, .int .i64 0] 36))) Ap cp (HP16.out.next (box1 w16 (.cells #[.int .i64 0, .int .i64 0, .string ⟨#[]⟩, .int .i64 0, .int .i64 0, .slice none 0 0, .int .i64 0] 36))) (by omega)).mono ?_
                 rintro eo w17 ⟨hb, hq⟩
                 rw [hx] at hq
                 have hW : Below w16.heap.size w16 _ := box1 w16 (.cells #[.int .i64 0, .int .i64 0, .string ⟨#[]⟩, .int .i64 0, .int .i64 0, .slice none 0 0, .int .i64 0] 36)
                 obtain ⟨A2, c2, ho, rfl⟩ := hq
                 have HN17 : Hid (Prs w17 A2 S2.out) := Prs.of_own ho
                 have HF := Lib.hid (own_far (lo := w16.heap.size) ho (by rw [World.size_alloc]; omega))
                 clear ho
                 have HB17 := Lib.hid (Below.next (Below.next HB16.out (box1 w16 (.cells #[.int .i64 0, .int .i64 0, .string ⟨#[]⟩, .int .i64 0, .int .i64 0, .slice none 0 0, .int .i64 0] 36))) hb)
                 have HE17 := Lib.hid ((HE16.out.next hW).next hb)
                 have HL17 := Lib.hid ((HL16.out.next hW).next hb)
                 have HRb117 := Lib.hid ((HRb116.out.next hW).next hb)
                 have HS17 := Lib.hid ((HS16.out.next hW).next hb)
                 have HZ17 : Hid (Blk w17 w16.heap.size rz7) := (Blk.made w16 36 rz7 rfl).next hb
                 try (have zc0 := HZ17.out.c 0 _ rfl; have zf0 := HZ17.out.f 0 _ rfl; have zc1 := HZ17.out.c 1 _ rfl; have zf1 := HZ17.out.f 1 _ rfl; have zc2 := HZ17.out.c 2 _ rfl; have zf2 := HZ17.out.f 2 _ rfl; have zc3 := HZ17.out.c 3 _ rfl; have zf3 := HZ17.out.f 3 _ rfl; have zc4 := HZ17.out.c 4 _ rfl; have zf4 := HZ17.out.f 4 _ rfl; have zc5 := HZ17.out.c 5 _ rfl; have zf5 := HZ17.out.f 5 _ rfl; have zc6 := HZ17.out.c 6 _ rfl; have zf6 := HZ17.out.f 6 _ rfl)
                 try (have hltz := HZ17.out.lt)
                 have hszn : w16.heap.size ≤ w17.heap.size := Nat.le_trans hW.size hb.size
                 have nE0 := HE17.out.c 0 _ rfl; have nE1 := HE17.out.c 1 _ rfl; have nE2 := HE17.out.c 2 _ rfl; have nE3 := HE17.out.c 3 _ rfl; have nE4 := HE17.out.c 4 _ rfl; have nE5 := HE17.out.c 5 _ rfl; have nE6 := HE17.out.c 6 _ rfl; have nE7 := HE17.out.c 7 _ rfl; have nE8 := HE17.out.c 8 _ rfl; have nE9 := HE17.out.c 9 _ rfl; have nE10 := HE17.out.c 10 _ rfl; have hltEn := HE17.out.lt
                 have nRb10 := HRb117.out.c 0 _ rfl; have nRb11 := HRb117.out.c 1 _ rfl; have nRb12 := HRb117.out.c 2 _ rfl; have nRb13 := HRb117.out.c 3 _ rfl; have nRb14 := HRb117.out.c 4 _ rfl; have nRb15 := HRb117.out.c 5 _ rfl; have nRb16 := HRb117.out.c 6 _ rfl; have hltRb1n := HRb117.out.lt
                 clear hb hW))
            all_goals (rename_i hHd; clear hHd)
            all_goals go_wp2_with fail
            all_goals go_meet
            · exact ⟨w17.heap.size, A2, c2, rfl, rfl, Below.next HB17.out (box1 w17 _), HE17.out.next (box1 w17 _), HL17.out.next (box1 w17 _), HRb117.out.next (box1 w17 _), HS17.out.next (box1 w17 _), Blk.made w17 36 [.int .i64 t.k, .int .i64 t.n, .string (tx t.s), .int .i64 t.x, .int .i64 t.y, .slice A2 S2.out.length c2, .int .i64 (j : Int)] rfl, HN17.out.next (box1 w17 _)⟩
            · have hp : (((((((w17.setCell ⟨w16.heap.size, 0, none⟩ (.int .i64 t.k)).setCell ⟨w16.heap.size, 1, none⟩ (.int .i64 t.n)).setCell ⟨w16.heap.size, 2, none⟩ (.string (tx t.s))).setCell ⟨w16.heap.size, 3, none⟩ (.int .i64 t.x)).setCell ⟨w16.heap.size, 4, none⟩ (.int .i64 t.y)).setCell ⟨w16.heap.size, 5, none⟩ (.slice A2 S2.out.length c2)).setCell ⟨w16.heap.size, 6, none⟩ (.int .i64 (j : Int))) = putL w17 w16.heap.size 0 [.int .i64 t.k, .int .i64 t.n, .string (tx t.s), .int .i64 t.x, .int .i64 t.y, .slice A2 S2.out.length c2, .int .i64 (j : Int)] := rfl
              rw [hp]
              clear hp
              have hzle : w15.heap.size ≤ w16.heap.size := by omega
              have k1 := below_puts (B := w16.heap.size) [.int .i64 t.k, .int .i64 t.n, .string (tx t.s), .int .i64 t.x, .int .i64 t.y, .slice A2 S2.out.length c2, .int .i64 (j : Int)] 0 HB17.out (by have := HB15.out.size; omega)
              have kE := blk_puts_other (C := w16.heap.size) (by omega) [.int .i64 t.k, .int .i64 t.n, .string (tx t.s), .int .i64 t.x, .int .i64 t.y, .slice A2 S2.out.length c2, .int .i64 (j : Int)] 0 HE17.out
              have kL := nds_far (z := w16.heap.size) HL15.out HL17.out hzle [.int .i64 t.k, .int .i64 t.n, .string (tx t.s), .int .i64 t.x, .int .i64 t.y, .slice A2 S2.out.length c2, .int .i64 (j : Int)] 0
              have kRb1 := blk_puts_other (C := w16.heap.size) (by omega) [.int .i64 t.k, .int .i64 t.n, .string (tx t.s), .int .i64 t.x, .int .i64 t.y, .slice A2 S2.out.length c2, .int .i64 (j : Int)] 0 HRb117.out
              have kS := prs_far (z := w16.heap.size) HS15.out HS17.out hzle [.int .i64 t.k, .int .i64 t.n, .string (tx t.s), .int .i64 t.x, .int .i64 t.y, .slice A2 S2.out.length c2, .int .i64 (j : Int)] 0
              have kz : Blk (putL w17 w16.heap.size 0 [.int .i64 t.k, .int .i64 t.n, .string (tx t.s), .int .i64 t.x, .int .i64 t.y, .slice A2 S2.out.length c2, .int .i64 (j : Int)]) w16.heap.size [.int .i64 t.k, .int .i64 t.n, .string (tx t.s), .int .i64 t.x, .int .i64 t.y, .slice A2 S2.out.length c2, .int .i64 (j : Int)] := blk_puts [.int .i64 t.k, .int .i64 t.n, .string (tx t.s), .int .i64 t.x, .int .i64 t.y, .slice A2 S2.out.length c2, .int .i64 (j : Int)] 0 HZ17.out (Nat.le_refl 7)
              have kn := prs_puts (z := w16.heap.size) [.int .i64 t.k, .int .i64 t.n, .string (tx t.s), .int .i64 t.x, .int .i64 t.y, .slice A2 S2.out.length c2, .int .i64 (j : Int)] 0 HN17.out HF.out
              generalize putL w17 w16.heap.size 0 [.int .i64 t.k, .int .i64 t.n, .string (tx t.s), .int .i64 t.x, .int .i64 t.y, .slice A2 S2.out.length c2, .int .i64 (j : Int)] = wq at *
              exact ⟨w16.heap.size, A2, c2, rfl, rfl, k1, kE, kL, kRb1, kS, kz, kn⟩
            · have hp : (((((((w17.setCell ⟨w15.heap.size, 0, none⟩ (.int .i64 t.k)).setCell ⟨w15.heap.size, 1, none⟩ (.int .i64 t.n)).setCell ⟨w15.heap.size, 2, none⟩ (.string (tx t.s))).setCell ⟨w15.heap.size, 3, none⟩ (.int .i64 t.x)).setCell ⟨w15.heap.size, 4, none⟩ (.int .i64 t.y)).setCell ⟨w15.heap.size, 5, none⟩ (.slice A2 S2.out.length c2)).setCell ⟨w15.heap.size, 6, none⟩ (.int .i64 (j : Int))) = putL w17 w15.heap.size 0 [.int .i64 t.k, .int .i64 t.n, .string (tx t.s), .int .i64 t.x, .int .i64 t.y, .slice A2 S2.out.length c2, .int .i64 (j : Int)] := rfl
              rw [hp]
              clear hp
              have hzle : w15.heap.size ≤ w15.heap.size := by omega
              have k1 := below_puts (B := w15.heap.size) [.int .i64 t.k, .int .i64 t.n, .string (tx t.s), .int .i64 t.x, .int .i64 t.y, .slice A2 S2.out.length c2, .int .i64 (j : Int)] 0 HB17.out (by have := HB15.out.size; omega)
              have kE := blk_puts_other (C := w15.heap.size) (by omega) [.int .i64 t.k, .int .i64 t.n, .string (tx t.s), .int .i64 t.x, .int .i64 t.y, .slice A2 S2.out.length c2, .int .i64 (j : Int)] 0 HE17.out
              have kL := nds_far (z := w15.heap.size) HL15.out HL17.out hzle [.int .i64 t.k, .int .i64 t.n, .string (tx t.s), .int .i64 t.x, .int .i64 t.y, .slice A2 S2.out.length c2, .int .i64 (j : Int)] 0
              have kRb1 := blk_puts_other (C := w15.heap.size) (by omega) [.int .i64 t.k, .int .i64 t.n, .string (tx t.s), .int .i64 t.x, .int .i64 t.y, .slice A2 S2.out.length c2, .int .i64 (j : Int)] 0 HRb117.out
              have kS := prs_far (z := w15.heap.size) HS15.out HS17.out hzle [.int .i64 t.k, .int .i64 t.n, .string (tx t.s), .int .i64 t.x, .int .i64 t.y, .slice A2 S2.out.length c2, .int .i64 (j : Int)] 0
              have kz : Blk (putL w17 w15.heap.size 0 [.int .i64 t.k, .int .i64 t.n, .string (tx t.s), .int .i64 t.x, .int .i64 t.y, .slice A2 S2.out.length c2, .int .i64 (j : Int)]) w15.heap.size [.int .i64 t.k, .int .i64 t.n, .string (tx t.s), .int .i64 t.x, .int .i64 t.y, .slice A2 S2.out.length c2, .int .i64 (j : Int)] := blk_puts [.int .i64 t.k, .int .i64 t.n, .string (tx t.s), .int .i64 t.x, .int .i64 t.y, .slice A2 S2.out.length c2, .int .i64 (j : Int)] 0 HZ17.out (Nat.le_refl 7)
              have kn := prs_puts (z := w15.heap.size) [.int .i64 t.k, .int .i64 t.n, .string (tx t.s), .int .i64 t.x, .int .i64 t.y, .slice A2 S2.out.length c2, .int .i64 (j : Int)] 0 HN17.out HF.out
              generalize putL w17 w15.heap.size 0 [.int .i64 t.k, .int .i64 t.n, .string (tx t.s), .int .i64 t.x, .int .i64 t.y, .slice A2 S2.out.length c2, .int .i64 (j : Int)] = wq at *
              exact ⟨w15.heap.size, A2, c2, rfl, rfl, k1, kE, kL, kRb1, kS, kz, kn⟩
          case rest =>
          obtain ⟨b2, A2, c2, rfl, rfl, hB, hE, hL, hRb1, hS, hbx, hN⟩ := hcut
          have HB16 := Lib.hid hB; have HE16 := Lib.hid hE; have HL16 := Lib.hid hL; have HRb116 := Lib.hid hRb1; have HS16 := Lib.hid hS; have HRb216 := Lib.hid hbx; have HT16 := Lib.hid hN
          clear hB hE hL hRb1 hS hbx hN HB15 HE15 HL15 HRb115 HS15
          generalize wc = w16 at *
          go_upto_region 14 with fail
          go_cut [15, 16] from 101 to 107 (fun sr se wx => ∃ (b3 : Nat) (A3 : Option Addr) (c3 : Nat), sr = .pointer (some ⟨b3, 0, none⟩) ∧ se = .int .i64 0 ∧ Below w.heap.size w wx ∧ Blk wx w.heap.size [.string (tx k), .int .i64 v.k, .int .i64 v.n, .string (tx v.s), .int .i64 v.x, .int .i64 v.y, .int .i64 e.k, .int .i64 e.n, .string (tx e.s), .int .i64 e.x, .int .i64 e.y] ∧ Nds wx Al (ifL a b c) ∧ Blk wx b1 [.int .i64 u.k, .int .i64 u.n, .string (tx u.s), .int .i64 u.x, .int .i64 u.y, .slice Ao S.out.length co, .int .i64 (m : Int)] ∧ Prs wx Ao S.out ∧ Blk wx b2 [.int .i64 t.k, .int .i64 t.n, .string (tx t.s), .int .i64 t.x, .int .i64 t.y, .slice A2 S2.out.length c2, .int .i64 (j : Int)] ∧ Prs wx A2 S2.out ∧ Blk wx b3 [.int .i64 t.k, .int .i64 t.n, .string (tx t.s), .int .i64 t.x, .int .i64 t.y, .slice A3 S3.out.length c3, .int .i64 (j : Int)] ∧ Prs wx A3 S3.out)
          case first =>
            have hltE_ := HE16.out.lt
            have qE0 := HE16.out.c 0 _ rfl
            have qE1 := HE16.out.c 1 _ rfl
            have qE2 := HE16.out.c 2 _ rfl
            have qE3 := HE16.out.c 3 _ rfl
            have qE4 := HE16.out.c 4 _ rfl
            have qE5 := HE16.out.c 5 _ rfl
            have qE6 := HE16.out.c 6 _ rfl
            have qE7 := HE16.out.c 7 _ rfl
            have qE8 := HE16.out.c 8 _ rfl
            have qE9 := HE16.out.c 9 _ rfl
            have qE10 := HE16.out.c 10 _ rfl
            have hltRb1_ := HRb116.out.lt
            have qRb10 := HRb116.out.c 0 _ rfl
            have qRb11 := HRb116.out.c 1 _ rfl
            have qRb12 := HRb116.out.c 2 _ rfl
            have qRb13 := HRb116.out.c 3 _ rfl
            have qRb14 := HRb116.out.c 4 _ rfl
            have qRb15 := HRb116.out.c 5 _ rfl
            have qRb16 := HRb116.out.c 6 _ rfl
            have hltRb2_ := HRb216.out.lt
            have qRb20 := HRb216.out.c 0 _ rfl
            have qRb21 := HRb216.out.c 1 _ rfl
            have qRb22 := HRb216.out.c 2 _ rfl
            have qRb23 := HRb216.out.c 3 _ rfl
            have qRb24 := HRb216.out.c 4 _ rfl
            have qRb25 := HRb216.out.c 5 _ rfl
            have qRb26 := HRb216.out.c 6 _ rfl
            go_region_held3 (fun w' => w'.cell? ⟨w.heap.size, 0, none⟩ = some (.string (tx k)) ∧ w'.cell? ⟨w.heap.size, 1, none⟩ = some (.int .i64 v.k) ∧ w'.cell? ⟨w.heap.size, 2, none⟩ = some (.int .i64 v.n) ∧ w'.cell? ⟨w.heap.size, 3, none⟩ = some (.string (tx v.s)) ∧ w'.cell? ⟨w.heap.size, 4, none⟩ = some (.int .i64 v.x) ∧ w'.cell? ⟨w.heap.size, 5, none⟩ = some (.int .i64 v.y) ∧ w'.cell? ⟨w.heap.size, 6, none⟩ = some (.int .i64 e.k) ∧ w'.cell? ⟨w.heap.size, 7, none⟩ = some (.int .i64 e.n) ∧ w'.cell? ⟨w.heap.size, 8, none⟩ = some (.string (tx e.s)) ∧ w'.cell? ⟨w.heap.size, 9, none⟩ = some (.int .i64 e.x) ∧ w'.cell? ⟨w.heap.size, 10, none⟩ = some (.int .i64 e.y)) (go_keep)
              (first
              | (go_at_call 10
                 refine (of_any (ifL a b c) Al cl _ (HL16.out.next (below_drewN (Below.refl w16.heap.size w16) 1)) hll).mono ?_
                 rintro eo w17 ⟨Ap, cp, rfl, hop, hb⟩
                 have hW : Below w16.heap.size w16 _ := below_drewN (Below.refl _ _) 1
                 have HB17 := Lib.hid (Below.next (below_drewN HB16.out 1) hb)
                 have HE17 := Lib.hid ((HE16.out.next hW).next hb)
                 have HL17 := Lib.hid ((HL16.out.next hW).next hb)
                 have HRb117 := Lib.hid ((HRb116.out.next hW).next hb)
                 have HS17 := Lib.hid ((HS16.out.next hW).next hb)
                 have HRb217 := Lib.hid ((HRb216.out.next hW).next hb)
                 have HT17 := Lib.hid ((HT16.out.next hW).next hb)
                 have HP17 : Hid (Nds w17 Ap (ifL a b c)) := Nds.of_own hop
                 have hszm : w16.heap.size ≤ w17.heap.size := Nat.le_trans hW.size hb.size
                 have hneE1 : w16.heap.size ≠ w.heap.size := by have := HE16.out.lt; omega
                 have hneE2 : w17.heap.size ≠ w.heap.size := by have := HE17.out.lt; omega
                 have hneRb11 : w16.heap.size ≠ b1 := by have := HRb116.out.lt; omega
                 have hneRb12 : w17.heap.size ≠ b1 := by have := HRb117.out.lt; omega
                 have hneRb21 : w16.heap.size ≠ b2 := by have := HRb216.out.lt; omega
                 have hneRb22 : w17.heap.size ≠ b2 := by have := HRb217.out.lt; omega
                 have mE0 := HE17.out.c 0 _ rfl; have mE1 := HE17.out.c 1 _ rfl; have mE2 := HE17.out.c 2 _ rfl; have mE3 := HE17.out.c 3 _ rfl; have mE4 := HE17.out.c 4 _ rfl; have mE5 := HE17.out.c 5 _ rfl; have mE6 := HE17.out.c 6 _ rfl; have mE7 := HE17.out.c 7 _ rfl; have mE8 := HE17.out.c 8 _ rfl; have mE9 := HE17.out.c 9 _ rfl; have mE10 := HE17.out.c 10 _ rfl; have hltEm := HE17.out.lt
                 have mRb10 := HRb117.out.c 0 _ rfl; have mRb11 := HRb117.out.c 1 _ rfl; have mRb12 := HRb117.out.c 2 _ rfl; have mRb13 := HRb117.out.c 3 _ rfl; have mRb14 := HRb117.out.c 4 _ rfl; have mRb15 := HRb117.out.c 5 _ rfl; have mRb16 := HRb117.out.c 6 _ rfl; have hltRb1m := HRb117.out.lt
                 have mRb20 := HRb217.out.c 0 _ rfl; have mRb21 := HRb217.out.c 1 _ rfl; have mRb22 := HRb217.out.c 2 _ rfl; have mRb23 := HRb217.out.c 3 _ rfl; have mRb24 := HRb217.out.c 4 _ rfl; have mRb25 := HRb217.out.c 5 _ rfl; have mRb26 := HRb217.out.c 6 _ rfl; have hltRb2m := HRb217.out.lt
                 clear hop hb hW)
              | (go_at_call 10
                 refine (of_any (ifL a b c) Al cl _ (HL16.out.next ((below_drewN (Below.refl w16.heap.size w16) 1).alloc (Nat.le_refl _) (.cells #[.int .i64 0, .int .i64 0, .string ⟨#[]⟩, .int .i64 0, .int .i64 0, .slice none 0 0, .int .i64 0] 36))) hll).mono ?_
                 rintro eo w17 ⟨Ap, cp, rfl, hop, hb⟩
                 have hW : Below w16.heap.size w16 _ := (below_drewN (Below.refl _ _) 1).alloc (Nat.le_refl _) (.cells #[.int .i64 0, .int .i64 0, .string ⟨#[]⟩, .int .i64 0, .int .i64 0, .slice none 0 0, .int .i64 0] 36)
                 have HB17 := Lib.hid (Below.next ((below_drewN HB16.out 1).alloc HB16.out.size (.cells #[.int .i64 0, .int .i64 0, .string ⟨#[]⟩, .int .i64 0, .int .i64 0, .slice none 0 0, .int .i64 0] 36)) hb)
                 have HE17 := Lib.hid ((HE16.out.next hW).next hb)
                 have HL17 := Lib.hid ((HL16.out.next hW).next hb)
                 have HRb117 := Lib.hid ((HRb116.out.next hW).next hb)
                 have HS17 := Lib.hid ((HS16.out.next hW).next hb)
                 have HRb217 := Lib.hid ((HRb216.out.next hW).next hb)
                 have HT17 := Lib.hid ((HT16.out.next hW).next hb)
                 have HP17 : Hid (Nds w17 Ap (ifL a b c)) := Nds.of_own hop
                 have hszm : w16.heap.size ≤ w17.heap.size := Nat.le_trans hW.size hb.size
                 have hneE1 : w16.heap.size ≠ w.heap.size := by have := HE16.out.lt; omega
                 have hneE2 : w17.heap.size ≠ w.heap.size := by have := HE17.out.lt; omega
                 have hneRb11 : w16.heap.size ≠ b1 := by have := HRb116.out.lt; omega
                 have hneRb12 : w17.heap.size ≠ b1 := by have := HRb117.out.lt; omega
                 have hneRb21 : w16.heap.size ≠ b2 := by have := HRb216.out.lt; omega
                 have hneRb22 : w17.heap.size ≠ b2 := by have := HRb217.out.lt; omega
                 have HZ17 : Hid (Blk w17 w16.heap.size rz7) := (Blk.made (w16.drewN 1) 36 rz7 rfl).next hb
                 have hzlt := HZ17.out.lt
                 have mE0 := HE17.out.c 0 _ rfl; have mE1 := HE17.out.c 1 _ rfl; have mE2 := HE17.out.c 2 _ rfl; have mE3 := HE17.out.c 3 _ rfl; have mE4 := HE17.out.c 4 _ rfl; have mE5 := HE17.out.c 5 _ rfl; have mE6 := HE17.out.c 6 _ rfl; have mE7 := HE17.out.c 7 _ rfl; have mE8 := HE17.out.c 8 _ rfl; have mE9 := HE17.out.c 9 _ rfl; have mE10 := HE17.out.c 10 _ rfl; have hltEm := HE17.out.lt
                 have mRb10 := HRb117.out.c 0 _ rfl; have mRb11 := HRb117.out.c 1 _ rfl; have mRb12 := HRb117.out.c 2 _ rfl; have mRb13 := HRb117.out.c 3 _ rfl; have mRb14 := HRb117.out.c 4 _ rfl; have mRb15 := HRb117.out.c 5 _ rfl; have mRb16 := HRb117.out.c 6 _ rfl; have hltRb1m := HRb117.out.lt
                 have mRb20 := HRb217.out.c 0 _ rfl; have mRb21 := HRb217.out.c 1 _ rfl; have mRb22 := HRb217.out.c 2 _ rfl; have mRb23 := HRb217.out.c 3 _ rfl; have mRb24 := HRb217.out.c 4 _ rfl; have mRb25 := HRb217.out.c 5 _ rfl; have mRb26 := HRb217.out.c 6 _ rfl; have hltRb2m := HRb217.out.lt
                 clear hop hb hW)
              | (go_at_call 11
                 refine (HRU.out (ifL a b c) (3001) _ HB17.out Ap cp HP17.out (by omega)).mono ?_
                 rintro eo w18 ⟨hb, hq⟩
                 rw [hy] at hq
                 have hW : Below w17.heap.size w17 _ := Below.refl _ _
                 obtain ⟨A3, c3, ho, rfl⟩ := hq
                 have HN18 : Hid (Prs w18 A3 S3.out) := Prs.of_own ho
                 try have HF := Lib.hid (own_far (lo := w16.heap.size) ho hzlt)
                 clear ho
                 have HB18 := Lib.hid (Below.next HB17.out hb)
                 have HE18 := Lib.hid ((HE17.out.next hW).next hb)
                 have HL18 := Lib.hid ((HL17.out.next hW).next hb)
                 have HRb118 := Lib.hid ((HRb117.out.next hW).next hb)
                 have HS18 := Lib.hid ((HS17.out.next hW).next hb)
                 have HRb218 := Lib.hid ((HRb217.out.next hW).next hb)
                 have HT18 := Lib.hid ((HT17.out.next hW).next hb)
                 try have HZ18 := Lib.hid (HZ17.out.next hb)
                 try (have zc0 := HZ18.out.c 0 _ rfl; have zf0 := HZ18.out.f 0 _ rfl; have zc1 := HZ18.out.c 1 _ rfl; have zf1 := HZ18.out.f 1 _ rfl; have zc2 := HZ18.out.c 2 _ rfl; have zf2 := HZ18.out.f 2 _ rfl; have zc3 := HZ18.out.c 3 _ rfl; have zf3 := HZ18.out.f 3 _ rfl; have zc4 := HZ18.out.c 4 _ rfl; have zf4 := HZ18.out.f 4 _ rfl; have zc5 := HZ18.out.c 5 _ rfl; have zf5 := HZ18.out.f 5 _ rfl; have zc6 := HZ18.out.c 6 _ rfl; have zf6 := HZ18.out.f 6 _ rfl)
                 try (have hltz := HZ18.out.lt)
                 have hszn : w17.heap.size ≤ w18.heap.size := Nat.le_trans hW.size hb.size
                 have nE0 := HE18.out.c 0 _ rfl; have nE1 := HE18.out.c 1 _ rfl; have nE2 := HE18.out.c 2 _ rfl; have nE3 := HE18.out.c 3 _ rfl; have nE4 := HE18.out.c 4 _ rfl; have nE5 := HE18.out.c 5 _ rfl; have nE6 := HE18.out.c 6 _ rfl; have nE7 := HE18.out.c 7 _ rfl; have nE8 := HE18.out.c 8 _ rfl; have nE9 := HE18.out.c 9 _ rfl; have nE10 := HE18.out.c 10 _ rfl; have hltEn := HE18.out.lt
                 have nRb10 := HRb118.out.c 0 _ rfl; have nRb11 := HRb118.out.c 1 _ rfl; have nRb12 := HRb118.out.c 2 _ rfl; have nRb13 := HRb118.out.c 3 _ rfl; have nRb14 := HRb118.out.c 4 _ rfl; have nRb15 := HRb118.out.c 5 _ rfl; have nRb16 := HRb118.out.c 6 _ rfl; have hltRb1n := HRb118.out.lt
                 have nRb20 := HRb218.out.c 0 _ rfl; have nRb21 := HRb218.out.c 1 _ rfl; have nRb22 := HRb218.out.c 2 _ rfl; have nRb23 := HRb218.out.c 3 _ rfl; have nRb24 := HRb218.out.c 4 _ rfl; have nRb25 := HRb218.out.c 5 _ rfl; have nRb26 := HRb218.out.c 6 _ rfl; have hltRb2n := HRb218.out.lt
                 clear hb hW)
              | (go_at_call 11
                 refine (HRU.out (ifL a b c) (3001) _ (Below.next HB17.out (box1 w17 (.cells #[.int .i64 0, .int .i64 0, .string ⟨#[]⟩, .int .i64 0, .int .i64 0, .slice none 0 0, .int .i64 0] 36))) Ap cp (HP17.out.next (box1 w17 (.cells #[.int .i64 0, .int .i64 0, .string ⟨#[]⟩, .int .i64 0, .int .i64 0, .slice none 0 0, .int .i64 0] 36))) (by omega)).mono ?_
                 rintro eo w18 ⟨hb, hq⟩
                 rw [hy] at hq
                 have hW : Below w17.heap.size w17 _ := box1 w17 (.cells #[.int .i64 0, .int .i64 0, .string ⟨#[]⟩, .int .i64 0, .int .i64 0, .slice none 0 0, .int .i64 0] 36)
                 obtain ⟨A3, c3, ho, rfl⟩ := hq
                 have HN18 : Hid (Prs w18 A3 S3.out) := Prs.of_own ho
                 have HF := Lib.hid (own_far (lo := w17.heap.size) ho (by rw [World.size_alloc]; omega))
                 clear ho
                 have HB18 := Lib.hid (Below.next (Below.next HB17.out (box1 w17 (.cells #[.int .i64 0, .int .i64 0, .string ⟨#[]⟩, .int .i64 0, .int .i64 0, .slice none 0 0, .int .i64 0] 36))) hb)
                 have HE18 := Lib.hid ((HE17.out.next hW).next hb)
                 have HL18 := Lib.hid ((HL17.out.next hW).next hb)
                 have HRb118 := Lib.hid ((HRb117.out.next hW).next hb)
                 have HS18 := Lib.hid ((HS17.out.next hW).next hb)
                 have HRb218 := Lib.hid ((HRb217.out.next hW).next hb)
                 have HT18 := Lib.hid ((HT17.out.next hW).next hb)
                 have HZ18 : Hid (Blk w18 w17.heap.size rz7) := (Blk.made w17 36 rz7 rfl).next hb
                 try (have zc0 := HZ18.out.c 0 _ rfl; have zf0 := HZ18.out.f 0 _ rfl; have zc1 := HZ18.out.c 1 _ rfl; have zf1 := HZ18.out.f 1 _ rfl; have zc2 := HZ18.out.c 2 _ rfl; have zf2 := HZ18.out.f 2 _ rfl; have zc3 := HZ18.out.c 3 _ rfl; have zf3 := HZ18.out.f 3 _ rfl; have zc4 := HZ18.out.c 4 _ rfl; have zf4 := HZ18.out.f 4 _ rfl; have zc5 := HZ18.out.c 5 _ rfl; have zf5 := HZ18.out.f 5 _ rfl; have zc6 := HZ18.out.c 6 _ rfl; have zf6 := HZ18.out.f 6 _ rfl)
                 try (have hltz := HZ18.out.lt)
                 have hszn : w17.heap.size ≤ w18.heap.size := Nat.le_trans hW.size hb.size
                 have nE0 := HE18.out.c 0 _ rfl; have nE1 := HE18.out.c 1 _ rfl; have nE2 := HE18.out.c 2 _ rfl; have nE3 := HE18.out.c 3 _ rfl; have nE4 := HE18.out.c 4 _ rfl; have nE5 := HE18.out.c 5 _ rfl; have nE6 := HE18.out.c 6 _ rfl; have nE7 := HE18.out.c 7 _ rfl; have nE8 := HE18.out.c 8 _ rfl; have nE9 := HE18.out.c 9 _ rfl; have nE10 := HE18.out.c 10 _ rfl; have hltEn := HE18.out.lt
                 have nRb10 := HRb118.out.c 0 _ rfl; have nRb11 := HRb118.out.c 1 _ rfl; have nRb12 := HRb118.out.c 2 _ rfl; have nRb13 := HRb118.out.c 3 _ rfl; have nRb14 := HRb118.out.c 4 _ rfl; have nRb15 := HRb118.out.c 5 _ rfl; have nRb16 := HRb118.out.c 6 _ rfl; have hltRb1n := HRb118.out.lt
                 have nRb20 := HRb218.out.c 0 _ rfl; have nRb21 := HRb218.out.c 1 _ rfl; have nRb22 := HRb218.out.c 2 _ rfl; have nRb23 := HRb218.out.c 3 _ rfl; have nRb24 := HRb218.out.c 4 _ rfl; have nRb25 := HRb218.out.c 5 _ rfl; have nRb26 := HRb218.out.c 6 _ rfl; have hltRb2n := HRb218.out.lt
                 clear hb hW))
            all_goals (rename_i hHd; clear hHd)
            all_goals go_wp2_with fail
            all_goals go_meet
            · exact ⟨w18.heap.size, A3, c3, rfl, rfl, Below.next HB18.out (box1 w18 _), HE18.out.next (box1 w18 _), HL18.out.next (box1 w18 _), HRb118.out.next (box1 w18 _), HS18.out.next (box1 w18 _), HRb218.out.next (box1 w18 _), HT18.out.next (box1 w18 _), Blk.made w18 36 [.int .i64 t.k, .int .i64 t.n, .string (tx t.s), .int .i64 t.x, .int .i64 t.y, .slice A3 S3.out.length c3, .int .i64 (j : Int)] rfl, HN18.out.next (box1 w18 _)⟩
            · have hp : (((((((w18.setCell ⟨w17.heap.size, 0, none⟩ (.int .i64 t.k)).setCell ⟨w17.heap.size, 1, none⟩ (.int .i64 t.n)).setCell ⟨w17.heap.size, 2, none⟩ (.string (tx t.s))).setCell ⟨w17.heap.size, 3, none⟩ (.int .i64 t.x)).setCell ⟨w17.heap.size, 4, none⟩ (.int .i64 t.y)).setCell ⟨w17.heap.size, 5, none⟩ (.slice A3 S3.out.length c3)).setCell ⟨w17.heap.size, 6, none⟩ (.int .i64 (j : Int))) = putL w18 w17.heap.size 0 [.int .i64 t.k, .int .i64 t.n, .string (tx t.s), .int .i64 t.x, .int .i64 t.y, .slice A3 S3.out.length c3, .int .i64 (j : Int)] := rfl
              rw [hp]
              clear hp
              have hzle : w16.heap.size ≤ w17.heap.size := by omega
              have k1 := below_puts (B := w17.heap.size) [.int .i64 t.k, .int .i64 t.n, .string (tx t.s), .int .i64 t.x, .int .i64 t.y, .slice A3 S3.out.length c3, .int .i64 (j : Int)] 0 HB18.out (by have := HB16.out.size; omega)
              have kE := blk_puts_other (C := w17.heap.size) (by omega) [.int .i64 t.k, .int .i64 t.n, .string (tx t.s), .int .i64 t.x, .int .i64 t.y, .slice A3 S3.out.length c3, .int .i64 (j : Int)] 0 HE18.out
              have kL := nds_far (z := w17.heap.size) HL16.out HL18.out hzle [.int .i64 t.k, .int .i64 t.n, .string (tx t.s), .int .i64 t.x, .int .i64 t.y, .slice A3 S3.out.length c3, .int .i64 (j : Int)] 0
              have kRb1 := blk_puts_other (C := w17.heap.size) (by omega) [.int .i64 t.k, .int .i64 t.n, .string (tx t.s), .int .i64 t.x, .int .i64 t.y, .slice A3 S3.out.length c3, .int .i64 (j : Int)] 0 HRb118.out
              have kS := prs_far (z := w17.heap.size) HS16.out HS18.out hzle [.int .i64 t.k, .int .i64 t.n, .string (tx t.s), .int .i64 t.x, .int .i64 t.y, .slice A3 S3.out.length c3, .int .i64 (j : Int)] 0
              have kRb2 := blk_puts_other (C := w17.heap.size) (by omega) [.int .i64 t.k, .int .i64 t.n, .string (tx t.s), .int .i64 t.x, .int .i64 t.y, .slice A3 S3.out.length c3, .int .i64 (j : Int)] 0 HRb218.out
              have kT := prs_far (z := w17.heap.size) HT16.out HT18.out hzle [.int .i64 t.k, .int .i64 t.n, .string (tx t.s), .int .i64 t.x, .int .i64 t.y, .slice A3 S3.out.length c3, .int .i64 (j : Int)] 0
              have kz : Blk (putL w18 w17.heap.size 0 [.int .i64 t.k, .int .i64 t.n, .string (tx t.s), .int .i64 t.x, .int .i64 t.y, .slice A3 S3.out.length c3, .int .i64 (j : Int)]) w17.heap.size [.int .i64 t.k, .int .i64 t.n, .string (tx t.s), .int .i64 t.x, .int .i64 t.y, .slice A3 S3.out.length c3, .int .i64 (j : Int)] := blk_puts [.int .i64 t.k, .int .i64 t.n, .string (tx t.s), .int .i64 t.x, .int .i64 t.y, .slice A3 S3.out.length c3, .int .i64 (j : Int)] 0 HZ18.out (Nat.le_refl 7)
              have kn := prs_puts (z := w17.heap.size) [.int .i64 t.k, .int .i64 t.n, .string (tx t.s), .int .i64 t.x, .int .i64 t.y, .slice A3 S3.out.length c3, .int .i64 (j : Int)] 0 HN18.out HF.out
              generalize putL w18 w17.heap.size 0 [.int .i64 t.k, .int .i64 t.n, .string (tx t.s), .int .i64 t.x, .int .i64 t.y, .slice A3 S3.out.length c3, .int .i64 (j : Int)] = wq at *
              exact ⟨w17.heap.size, A3, c3, rfl, rfl, k1, kE, kL, kRb1, kS, kRb2, kT, kz, kn⟩
            · have hp : (((((((w18.setCell ⟨w16.heap.size, 0, none⟩ (.int .i64 t.k)).setCell ⟨w16.heap.size, 1, none⟩ (.int .i64 t.n)).setCell ⟨w16.heap.size, 2, none⟩ (.string (tx t.s))).setCell ⟨w16.heap.size, 3, none⟩ (.int .i64 t.x)).setCell ⟨w16.heap.size, 4, none⟩ (.int .i64 t.y)).setCell ⟨w16.heap.size, 5, none⟩ (.slice A3 S3.out.length c3)).setCell ⟨w16.heap.size, 6, none⟩ (.int .i64 (j : Int))) = putL w18 w16.heap.size 0 [.int .i64 t.k, .int .i64 t.n, .string (tx t.s), .int .i64 t.x, .int .i64 t.y, .slice A3 S3.out.length c3, .int .i64 (j : Int)] := rfl
              rw [hp]
              clear hp
              have hzle : w16.heap.size ≤ w16.heap.size := by omega
              have k1 := below_puts (B := w16.heap.size) [.int .i64 t.k, .int .i64 t.n, .string (tx t.s), .int .i64 t.x, .int .i64 t.y, .slice A3 S3.out.length c3, .int .i64 (j : Int)] 0 HB18.out (by have := HB16.out.size; omega)
              have kE := blk_puts_other (C := w16.heap.size) (by omega) [.int .i64 t.k, .int .i64 t.n, .string (tx t.s), .int .i64 t.x, .int .i64 t.y, .slice A3 S3.out.length c3, .int .i64 (j : Int)] 0 HE18.out
              have kL := nds_far (z := w16.heap.size) HL16.out HL18.out hzle [.int .i64 t.k, .int .i64 t.n, .string (tx t.s), .int .i64 t.x, .int .i64 t.y, .slice A3 S3.out.length c3, .int .i64 (j : Int)] 0
              have kRb1 := blk_puts_other (C := w16.heap.size) (by omega) [.int .i64 t.k, .int .i64 t.n, .string (tx t.s), .int .i64 t.x, .int .i64 t.y, .slice A3 S3.out.length c3, .int .i64 (j : Int)] 0 HRb118.out
              have kS := prs_far (z := w16.heap.size) HS16.out HS18.out hzle [.int .i64 t.k, .int .i64 t.n, .string (tx t.s), .int .i64 t.x, .int .i64 t.y, .slice A3 S3.out.length c3, .int .i64 (j : Int)] 0
              have kRb2 := blk_puts_other (C := w16.heap.size) (by omega) [.int .i64 t.k, .int .i64 t.n, .string (tx t.s), .int .i64 t.x, .int .i64 t.y, .slice A3 S3.out.length c3, .int .i64 (j : Int)] 0 HRb218.out
              have kT := prs_far (z := w16.heap.size) HT16.out HT18.out hzle [.int .i64 t.k, .int .i64 t.n, .string (tx t.s), .int .i64 t.x, .int .i64 t.y, .slice A3 S3.out.length c3, .int .i64 (j : Int)] 0
              have kz : Blk (putL w18 w16.heap.size 0 [.int .i64 t.k, .int .i64 t.n, .string (tx t.s), .int .i64 t.x, .int .i64 t.y, .slice A3 S3.out.length c3, .int .i64 (j : Int)]) w16.heap.size [.int .i64 t.k, .int .i64 t.n, .string (tx t.s), .int .i64 t.x, .int .i64 t.y, .slice A3 S3.out.length c3, .int .i64 (j : Int)] := blk_puts [.int .i64 t.k, .int .i64 t.n, .string (tx t.s), .int .i64 t.x, .int .i64 t.y, .slice A3 S3.out.length c3, .int .i64 (j : Int)] 0 HZ18.out (Nat.le_refl 7)
              have kn := prs_puts (z := w16.heap.size) [.int .i64 t.k, .int .i64 t.n, .string (tx t.s), .int .i64 t.x, .int .i64 t.y, .slice A3 S3.out.length c3, .int .i64 (j : Int)] 0 HN18.out HF.out
              generalize putL w18 w16.heap.size 0 [.int .i64 t.k, .int .i64 t.n, .string (tx t.s), .int .i64 t.x, .int .i64 t.y, .slice A3 S3.out.length c3, .int .i64 (j : Int)] = wq at *
              exact ⟨w16.heap.size, A3, c3, rfl, rfl, k1, kE, kL, kRb1, kS, kRb2, kT, kz, kn⟩
          case rest =>
          obtain ⟨b3, A3, c3, rfl, rfl, hB, hE, hL, hRb1, hS, hRb2, hT, hbx, hN⟩ := hcut
          have HB17 := Lib.hid hB; have HE17 := Lib.hid hE; have HL17 := Lib.hid hL; have HRb117 := Lib.hid hRb1; have HS17 := Lib.hid hS; have HRb217 := Lib.hid hRb2; have HT17 := Lib.hid hT; have HRb317 := Lib.hid hbx; have HU17 := Lib.hid hN
          clear hB hE hL hRb1 hS hRb2 hT hbx hN HB16 HE16 HL16 HRb116 HS16 HRb216 HT16
          generalize wc = w17 at *
          have hltRb1_ := HRb117.out.lt
          have qRb10 := HRb117.out.c 0 _ rfl
          have qRb11 := HRb117.out.c 1 _ rfl
          have qRb12 := HRb117.out.c 2 _ rfl
          have qRb13 := HRb117.out.c 3 _ rfl
          have qRb14 := HRb117.out.c 4 _ rfl
          have qRb15 := HRb117.out.c 5 _ rfl
          have qRb16 := HRb117.out.c 6 _ rfl
          have hltRb2_ := HRb217.out.lt
          have qRb20 := HRb217.out.c 0 _ rfl
          have qRb21 := HRb217.out.c 1 _ rfl
          have qRb22 := HRb217.out.c 2 _ rfl
          have qRb23 := HRb217.out.c 3 _ rfl
          have qRb24 := HRb217.out.c 4 _ rfl
          have qRb25 := HRb217.out.c 5 _ rfl
          have qRb26 := HRb217.out.c 6 _ rfl
          have hltRb3_ := HRb317.out.lt
          have qRb30 := HRb317.out.c 0 _ rfl
          have qRb31 := HRb317.out.c 1 _ rfl
          have qRb32 := HRb317.out.c 2 _ rfl
          have qRb33 := HRb317.out.c 3 _ rfl
          have qRb34 := HRb317.out.c 4 _ rfl
          have qRb35 := HRb317.out.c 5 _ rfl
          have qRb36 := HRb317.out.c 6 _ rfl
          have hlm := HMM.out
          have HO0 : Hid ((w17.drewN 1).ownsRow w17.heap.size 58 6 (.slice none 0 0) 0 []) := World.ownsRow_nil _ _ _ _
          have HW0 : Hid (Below w17.heap.size w17 (w17.drewN 1)) := below_drewN (Below.refl _ _) 1
          obtain ⟨i0, hi0, hi1, hi2, hi3⟩ := info_parts infoP
          have HI0 := Lib.hid hi0; have HI1 := Lib.hid hi1; have HI2 := Lib.hid hi2; have HI3 := Lib.hid hi3
          clear hi0 hi1 hi2 hi3
          go_upto_region 20 with fail
          go_region_law (first
            | (refine step_app _ rfl (.tmp 135) (.tmp 137) 34 rfl w17.heap.size 58 i0 (.agg (pcl ([], vz)).toArray) 6 64 Tryz.underlying34 HI0.out HI1.out HI2.out HI3.out rfl (by decide) (.slice none 0 0) (0) ([]) (by simp [Act.eval]) HO0.out Ao S.out.length co (pcells S.out) (by simp [Act.eval]) (pcells_len _) (prs_news (HS17.out.next (below_drewN (Below.refl _ _) 1))) (pcells_one _) (by unfold maxLen; omega) (by omega) HW0.out.size ?_
               intro v1 y1 ho hg
               have HW1 := Lib.hid (HW0.out.grown hg HW0.out.size (fun q hq => (HO0.out.lt q hq).1)); have HO1 := Lib.hid ho
               have uA0 := (HRb117.out.next HW1.out).c 5 _ rfl; have uB0 := (HRb217.out.next HW1.out).c 5 _ rfl; have uC0 := (HRb117.out.next HW1.out).lt; have uD0 := (HRb217.out.next HW1.out).lt
               clear ho hg)
            | (refine step_app _ rfl (.tmp 138) (.tmp 140) 34 rfl w17.heap.size 58 i0 (.agg (pcl ([], vz)).toArray) 6 64 Tryz.underlying34 HI0.out HI1.out HI2.out HI3.out rfl (by decide) v1 (0 + S.out.length) ([] ++ pcells S.out) (by simp [Act.eval]) HO1.out A2 S2.out.length c2 (pcells S2.out) (by simp [Act.eval]) (pcells_len _) (prs_news (HT17.out.next HW1.out)) (pcells_one _) (by unfold maxLen; omega) (by omega) HW1.out.size ?_
               intro v2 y2 ho hg
               have HW2 := Lib.hid (HW1.out.grown hg HW1.out.size (fun q hq => (HO1.out.lt q hq).1)); have HO2 := Lib.hid ho
               have uA1 := (HRb117.out.next HW2.out).c 5 _ rfl; have uB1 := (HRb217.out.next HW2.out).c 5 _ rfl; have uC1 := (HRb117.out.next HW2.out).lt; have uD1 := (HRb217.out.next HW2.out).lt
               clear ho hg))
          all_goals
            obtain ⟨Ap4, cp4, hv4⟩ := own_slice HO2.out
            have hl4 : 0 + S.out.length + S2.out.length = S3.out.length := by rw [HOUT.out, List.length_append]; omega
            have HN4 : Hid (Prs y2 Ap4 S3.out) := by
              have h := HO2.out
              rw [hl4, pcells_app, ← HOUT.out, hv4, hl4] at h
              exact Prs.of_own h
            subst hv4
            rw [hl4]
            have hb := HW2.out
            clear HW0 HW1 HW2 HO0 HO1 HO2 HI0 HI1 HI2 HI3 uA0 uB0 uC0 uD0 uA1 uB1 uC1 uD1
            generalize y2 = w18 at *
            have HB18 := Lib.hid (Below.next HB17.out hb)
            have HE18 := Lib.hid (HE17.out.next hb)
            have HL18 := Lib.hid (HL17.out.next hb)
            have HRb118 := Lib.hid (HRb117.out.next hb)
            have HS18 := Lib.hid (HS17.out.next hb)
            have HRb218 := Lib.hid (HRb217.out.next hb)
            have HT18 := Lib.hid (HT17.out.next hb)
            have HRb318 := Lib.hid (HRb317.out.next hb)
            have HU18 := Lib.hid (HU17.out.next hb)
            clear HB17 HE17 HL17 HRb117 HS17 HRb217 HT17 HRb317 HU17 hltRb1_ hltRb2_ hltRb3_ qRb10 qRb11 qRb12 qRb13 qRb14 qRb15 qRb16 qRb20 qRb21 qRb22 qRb23 qRb24 qRb25 qRb26 qRb30 qRb31 qRb32 qRb33 qRb34 qRb35 qRb36 hb
            have hltRb1_ := HRb118.out.lt
            have qRb10 := HRb118.out.c 0 _ rfl
            have qRb11 := HRb118.out.c 1 _ rfl
            have qRb12 := HRb118.out.c 2 _ rfl
            have qRb13 := HRb118.out.c 3 _ rfl
            have qRb14 := HRb118.out.c 4 _ rfl
            have qRb15 := HRb118.out.c 5 _ rfl
            have qRb16 := HRb118.out.c 6 _ rfl
            have hltRb2_ := HRb218.out.lt
            have qRb20 := HRb218.out.c 0 _ rfl
            have qRb21 := HRb218.out.c 1 _ rfl
            have qRb22 := HRb218.out.c 2 _ rfl
            have qRb23 := HRb218.out.c 3 _ rfl
            have qRb24 := HRb218.out.c 4 _ rfl
            have qRb25 := HRb218.out.c 5 _ rfl
            have qRb26 := HRb218.out.c 6 _ rfl
            have hltRb3_ := HRb318.out.lt
            have qRb30 := HRb318.out.c 0 _ rfl
            have qRb31 := HRb318.out.c 1 _ rfl
            have qRb32 := HRb318.out.c 2 _ rfl
            have qRb33 := HRb318.out.c 3 _ rfl
            have qRb34 := HRb318.out.c 4 _ rfl
            have qRb35 := HRb318.out.c 5 _ rfl
            have qRb36 := HRb318.out.c 6 _ rfl
            have hEV : ∀ W, (binOp .eql 26 (.agg #[.int .i64 t.k, .int .i64 t.n, .string (tx t.s), .int .i64 t.x, .int .i64 t.y]) (.agg #[.int .i64 t.k, .int .i64 t.n, .string (tx t.s), .int .i64 t.x, .int .i64 t.y])).run Tryz.prog W = .ok (.bool true) W := fun W => by
              have h := eql_va t t W
              rwa [show decide (t = t) = true from decide_eq_true rfl] at h
            have hS3 : S3.out.length ≤ 4294967296 := by omega
            go_wp2_with (fail)
            refine (same_pairs S3.out A3 Ap4 c3 cp4 _ HU18.out HN4.out hS3).mono ?_
            rintro e w19 ⟨rfl, hb⟩
            have HB19 := Lib.hid (Below.next HB18.out hb)
            have HE19 := Lib.hid (HE18.out.next hb)
            have HL19 := Lib.hid (HL18.out.next hb)
            have HRb119 := Lib.hid (HRb118.out.next hb)
            have HS19 := Lib.hid (HS18.out.next hb)
            have HRb219 := Lib.hid (HRb218.out.next hb)
            have HT19 := Lib.hid (HT18.out.next hb)
            have HRb319 := Lib.hid (HRb318.out.next hb)
            have HU19 := Lib.hid (HU18.out.next hb)
            clear HB18 HE18 HL18 HRb118 HS18 HRb218 HT18 HRb318 HU18 hltRb1_ qRb10 qRb11 qRb12 qRb13 qRb14 qRb15 qRb16 hltRb2_ qRb20 qRb21 qRb22 qRb23 qRb24 qRb25 qRb26 hltRb3_ qRb30 qRb31 qRb32 qRb33 qRb34 qRb35 qRb36 hb
            go_wp2_with (fail)
            go_ret
            exact ⟨by simp, HB19.out⟩
    · have hun1 : (u.n == 0) = false := by simpa using hun
      have H4 := H3.out
      clear H3
      rw [if_neg hun] at H4
      rcases H4 with ⟨x, y, hx, hy, hyx⟩ | ⟨t, S2, j, hx, H4⟩
      · have HYX := Lib.hid hyx
        clear hyx
        rw [show ((3000 + 1 : Nat) : Int) = 3001 by rfl] at hy
        have hltRb1_ := HRb115.out.lt
        have qRb10 := HRb115.out.c 0 _ rfl
        have qRb11 := HRb115.out.c 1 _ rfl
        have qRb12 := HRb115.out.c 2 _ rfl
        have qRb13 := HRb115.out.c 3 _ rfl
        have qRb14 := HRb115.out.c 4 _ rfl
        have qRb15 := HRb115.out.c 5 _ rfl
        have qRb16 := HRb115.out.c 6 _ rfl
        go_upto_region 13 with fail
        go_cut [13, 14] from 92 to 100 (fun sr se wx => ∃ (b2 : Nat), sr = .pointer (some ⟨b2, 0, none⟩) ∧ se = .int .i64 x ∧ Below w.heap.size w wx ∧ Blk wx w.heap.size [.string (tx k), .int .i64 v.k, .int .i64 v.n, .string (tx v.s), .int .i64 v.x, .int .i64 v.y, .int .i64 e.k, .int .i64 e.n, .string (tx e.s), .int .i64 e.x, .int .i64 e.y] ∧ Nds wx Al (ifL a b c) ∧ Blk wx b1 [.int .i64 u.k, .int .i64 u.n, .string (tx u.s), .int .i64 u.x, .int .i64 u.y, .slice Ao S.out.length co, .int .i64 (m : Int)] ∧ Prs wx Ao S.out ∧ Blk wx b2 [.int .i64 0, .int .i64 0, .string ⟨#[]⟩, .int .i64 0, .int .i64 0, .slice none 0 0, .int .i64 0] ∧ x ≠ 0)
        case first =>
          have hltE_ := HE15.out.lt
          have qE0 := HE15.out.c 0 _ rfl
          have qE1 := HE15.out.c 1 _ rfl
          have qE2 := HE15.out.c 2 _ rfl
          have qE3 := HE15.out.c 3 _ rfl
          have qE4 := HE15.out.c 4 _ rfl
          have qE5 := HE15.out.c 5 _ rfl
          have qE6 := HE15.out.c 6 _ rfl
          have qE7 := HE15.out.c 7 _ rfl
          have qE8 := HE15.out.c 8 _ rfl
          have qE9 := HE15.out.c 9 _ rfl
          have qE10 := HE15.out.c 10 _ rfl
          have hltRb1_ := HRb115.out.lt
          have qRb10 := HRb115.out.c 0 _ rfl
          have qRb11 := HRb115.out.c 1 _ rfl
          have qRb12 := HRb115.out.c 2 _ rfl
          have qRb13 := HRb115.out.c 3 _ rfl
          have qRb14 := HRb115.out.c 4 _ rfl
          have qRb15 := HRb115.out.c 5 _ rfl
          have qRb16 := HRb115.out.c 6 _ rfl
          go_region_held3 (fun w' => w'.cell? ⟨w.heap.size, 0, none⟩ = some (.string (tx k)) ∧ w'.cell? ⟨w.heap.size, 1, none⟩ = some (.int .i64 v.k) ∧ w'.cell? ⟨w.heap.size, 2, none⟩ = some (.int .i64 v.n) ∧ w'.cell? ⟨w.heap.size, 3, none⟩ = some (.string (tx v.s)) ∧ w'.cell? ⟨w.heap.size, 4, none⟩ = some (.int .i64 v.x) ∧ w'.cell? ⟨w.heap.size, 5, none⟩ = some (.int .i64 v.y) ∧ w'.cell? ⟨w.heap.size, 6, none⟩ = some (.int .i64 e.k) ∧ w'.cell? ⟨w.heap.size, 7, none⟩ = some (.int .i64 e.n) ∧ w'.cell? ⟨w.heap.size, 8, none⟩ = some (.string (tx e.s)) ∧ w'.cell? ⟨w.heap.size, 9, none⟩ = some (.int .i64 e.x) ∧ w'.cell? ⟨w.heap.size, 10, none⟩ = some (.int .i64 e.y) ∧ w'.cell? ⟨b1, 6, none⟩ = some (.int .i64 (m : Int))) (go_keep)
            (first
            | (go_at_call 10
               refine (HOFb.out _ (below_drewN HB15.out 1) (by omega)).mono ?_
               rintro eo w16 ⟨Ap, cp, rfl, hop, hb⟩
               have hW : Below w15.heap.size w15 _ := below_drewN (Below.refl _ _) 1
               have HB16 := Lib.hid (Below.next (below_drewN HB15.out 1) hb)
               have HE16 := Lib.hid ((HE15.out.next hW).next hb)
               have HL16 := Lib.hid ((HL15.out.next hW).next hb)
               have HRb116 := Lib.hid ((HRb115.out.next hW).next hb)
               have HS16 := Lib.hid ((HS15.out.next hW).next hb)
               have HP16 : Hid (Nds w16 Ap b) := Nds.of_own hop
               have hszm : w15.heap.size ≤ w16.heap.size := Nat.le_trans hW.size hb.size
               have hneE1 : w15.heap.size ≠ w.heap.size := by have := HE15.out.lt; omega
               have hneE2 : w16.heap.size ≠ w.heap.size := by have := HE16.out.lt; omega
               have hneRb11 : w15.heap.size ≠ b1 := by have := HRb115.out.lt; omega
               have hneRb12 : w16.heap.size ≠ b1 := by have := HRb116.out.lt; omega
               have mE0 := HE16.out.c 0 _ rfl; have mE1 := HE16.out.c 1 _ rfl; have mE2 := HE16.out.c 2 _ rfl; have mE3 := HE16.out.c 3 _ rfl; have mE4 := HE16.out.c 4 _ rfl; have mE5 := HE16.out.c 5 _ rfl; have mE6 := HE16.out.c 6 _ rfl; have mE7 := HE16.out.c 7 _ rfl; have mE8 := HE16.out.c 8 _ rfl; have mE9 := HE16.out.c 9 _ rfl; have mE10 := HE16.out.c 10 _ rfl; have hltEm := HE16.out.lt
               have mRb10 := HRb116.out.c 0 _ rfl; have mRb11 := HRb116.out.c 1 _ rfl; have mRb12 := HRb116.out.c 2 _ rfl; have mRb13 := HRb116.out.c 3 _ rfl; have mRb14 := HRb116.out.c 4 _ rfl; have mRb15 := HRb116.out.c 5 _ rfl; have mRb16 := HRb116.out.c 6 _ rfl; have hltRb1m := HRb116.out.lt
               clear hop hb hW)
            | (go_at_call 10
               refine (HOFb.out _ ((below_drewN HB15.out 1).alloc HB15.out.size (.cells #[.int .i64 0, .int .i64 0, .string ⟨#[]⟩, .int .i64 0, .int .i64 0, .slice none 0 0, .int .i64 0] 36)) (by omega)).mono ?_
               rintro eo w16 ⟨Ap, cp, rfl, hop, hb⟩
               have hW : Below w15.heap.size w15 _ := (below_drewN (Below.refl _ _) 1).alloc (Nat.le_refl _) (.cells #[.int .i64 0, .int .i64 0, .string ⟨#[]⟩, .int .i64 0, .int .i64 0, .slice none 0 0, .int .i64 0] 36)
               have HB16 := Lib.hid (Below.next ((below_drewN HB15.out 1).alloc HB15.out.size (.cells #[.int .i64 0, .int .i64 0, .string ⟨#[]⟩, .int .i64 0, .int .i64 0, .slice none 0 0, .int .i64 0] 36)) hb)
               have HE16 := Lib.hid ((HE15.out.next hW).next hb)
               have HL16 := Lib.hid ((HL15.out.next hW).next hb)
               have HRb116 := Lib.hid ((HRb115.out.next hW).next hb)
               have HS16 := Lib.hid ((HS15.out.next hW).next hb)
               have HP16 : Hid (Nds w16 Ap b) := Nds.of_own hop
               have hszm : w15.heap.size ≤ w16.heap.size := Nat.le_trans hW.size hb.size
               have hneE1 : w15.heap.size ≠ w.heap.size := by have := HE15.out.lt; omega
               have hneE2 : w16.heap.size ≠ w.heap.size := by have := HE16.out.lt; omega
               have hneRb11 : w15.heap.size ≠ b1 := by have := HRb115.out.lt; omega
               have hneRb12 : w16.heap.size ≠ b1 := by have := HRb116.out.lt; omega
               have HZ16 : Hid (Blk w16 w15.heap.size rz7) := (Blk.made (w15.drewN 1) 36 rz7 rfl).next hb
               have hzlt := HZ16.out.lt
               have mE0 := HE16.out.c 0 _ rfl; have mE1 := HE16.out.c 1 _ rfl; have mE2 := HE16.out.c 2 _ rfl; have mE3 := HE16.out.c 3 _ rfl; have mE4 := HE16.out.c 4 _ rfl; have mE5 := HE16.out.c 5 _ rfl; have mE6 := HE16.out.c 6 _ rfl; have mE7 := HE16.out.c 7 _ rfl; have mE8 := HE16.out.c 8 _ rfl; have mE9 := HE16.out.c 9 _ rfl; have mE10 := HE16.out.c 10 _ rfl; have hltEm := HE16.out.lt
               have mRb10 := HRb116.out.c 0 _ rfl; have mRb11 := HRb116.out.c 1 _ rfl; have mRb12 := HRb116.out.c 2 _ rfl; have mRb13 := HRb116.out.c 3 _ rfl; have mRb14 := HRb116.out.c 4 _ rfl; have mRb15 := HRb116.out.c 5 _ rfl; have mRb16 := HRb116.out.c 6 _ rfl; have hltRb1m := HRb116.out.lt
               clear hop hb hW)
            | (go_at_call 11
               refine (HRU.out b ((m : Int)) _ HB16.out Ap cp HP16.out (by omega)).mono ?_
               rintro eo w17 ⟨hb, hq⟩
               rw [hx] at hq
               have hW : Below w16.heap.size w16 _ := Below.refl _ _
               obtain ⟨hx0, rfl⟩ := hq
               have HX0 := Lib.hid hx0
               clear hx0
               have HB17 := Lib.hid (Below.next HB16.out hb)
               have HE17 := Lib.hid ((HE16.out.next hW).next hb)
               have HL17 := Lib.hid ((HL16.out.next hW).next hb)
               have HRb117 := Lib.hid ((HRb116.out.next hW).next hb)
               have HS17 := Lib.hid ((HS16.out.next hW).next hb)
               try have HZ17 := Lib.hid (HZ16.out.next hb)
               try (have zc0 := HZ17.out.c 0 _ rfl; have zf0 := HZ17.out.f 0 _ rfl; have zc1 := HZ17.out.c 1 _ rfl; have zf1 := HZ17.out.f 1 _ rfl; have zc2 := HZ17.out.c 2 _ rfl; have zf2 := HZ17.out.f 2 _ rfl; have zc3 := HZ17.out.c 3 _ rfl; have zf3 := HZ17.out.f 3 _ rfl; have zc4 := HZ17.out.c 4 _ rfl; have zf4 := HZ17.out.f 4 _ rfl; have zc5 := HZ17.out.c 5 _ rfl; have zf5 := HZ17.out.f 5 _ rfl; have zc6 := HZ17.out.c 6 _ rfl; have zf6 := HZ17.out.f 6 _ rfl)
               try (have hltz := HZ17.out.lt)
               have hszn : w16.heap.size ≤ w17.heap.size := Nat.le_trans hW.size hb.size
               have nE0 := HE17.out.c 0 _ rfl; have nE1 := HE17.out.c 1 _ rfl; have nE2 := HE17.out.c 2 _ rfl; have nE3 := HE17.out.c 3 _ rfl; have nE4 := HE17.out.c 4 _ rfl; have nE5 := HE17.out.c 5 _ rfl; have nE6 := HE17.out.c 6 _ rfl; have nE7 := HE17.out.c 7 _ rfl; have nE8 := HE17.out.c 8 _ rfl; have nE9 := HE17.out.c 9 _ rfl; have nE10 := HE17.out.c 10 _ rfl; have hltEn := HE17.out.lt
               have nRb10 := HRb117.out.c 0 _ rfl; have nRb11 := HRb117.out.c 1 _ rfl; have nRb12 := HRb117.out.c 2 _ rfl; have nRb13 := HRb117.out.c 3 _ rfl; have nRb14 := HRb117.out.c 4 _ rfl; have nRb15 := HRb117.out.c 5 _ rfl; have nRb16 := HRb117.out.c 6 _ rfl; have hltRb1n := HRb117.out.lt
               clear hb hW)
            | (go_at_call 11
               refine (HRU.out b ((m : Int)) _ (Below.next HB16.out (box1 w16 (.cells #[.int .i64 0, .int .i64 0, .string ⟨#[]⟩, .int .i64 0, .int .i64 0, .slice none 0 0, .int .i64 0] 36))) Ap cp (HP16.out.next (box1 w16 (.cells #[.int .i64 0, .int .i64 0, .string ⟨#[]⟩, .int .i64 0, .int .i64 0, .slice none 0 0, .int .i64 0] 36))) (by omega)).mono ?_
               rintro eo w17 ⟨hb, hq⟩
               rw [hx] at hq
               have hW : Below w16.heap.size w16 _ := box1 w16 (.cells #[.int .i64 0, .int .i64 0, .string ⟨#[]⟩, .int .i64 0, .int .i64 0, .slice none 0 0, .int .i64 0] 36)
               obtain ⟨hx0, rfl⟩ := hq
               have HX0 := Lib.hid hx0
               clear hx0
               have HB17 := Lib.hid (Below.next (Below.next HB16.out (box1 w16 (.cells #[.int .i64 0, .int .i64 0, .string ⟨#[]⟩, .int .i64 0, .int .i64 0, .slice none 0 0, .int .i64 0] 36))) hb)
               have HE17 := Lib.hid ((HE16.out.next hW).next hb)
               have HL17 := Lib.hid ((HL16.out.next hW).next hb)
               have HRb117 := Lib.hid ((HRb116.out.next hW).next hb)
               have HS17 := Lib.hid ((HS16.out.next hW).next hb)
               have HZ17 : Hid (Blk w17 w16.heap.size rz7) := (Blk.made w16 36 rz7 rfl).next hb
               try (have zc0 := HZ17.out.c 0 _ rfl; have zf0 := HZ17.out.f 0 _ rfl; have zc1 := HZ17.out.c 1 _ rfl; have zf1 := HZ17.out.f 1 _ rfl; have zc2 := HZ17.out.c 2 _ rfl; have zf2 := HZ17.out.f 2 _ rfl; have zc3 := HZ17.out.c 3 _ rfl; have zf3 := HZ17.out.f 3 _ rfl; have zc4 := HZ17.out.c 4 _ rfl; have zf4 := HZ17.out.f 4 _ rfl; have zc5 := HZ17.out.c 5 _ rfl; have zf5 := HZ17.out.f 5 _ rfl; have zc6 := HZ17.out.c 6 _ rfl; have zf6 := HZ17.out.f 6 _ rfl)
               try (have hltz := HZ17.out.lt)
               have hszn : w16.heap.size ≤ w17.heap.size := Nat.le_trans hW.size hb.size
               have nE0 := HE17.out.c 0 _ rfl; have nE1 := HE17.out.c 1 _ rfl; have nE2 := HE17.out.c 2 _ rfl; have nE3 := HE17.out.c 3 _ rfl; have nE4 := HE17.out.c 4 _ rfl; have nE5 := HE17.out.c 5 _ rfl; have nE6 := HE17.out.c 6 _ rfl; have nE7 := HE17.out.c 7 _ rfl; have nE8 := HE17.out.c 8 _ rfl; have nE9 := HE17.out.c 9 _ rfl; have nE10 := HE17.out.c 10 _ rfl; have hltEn := HE17.out.lt
               have nRb10 := HRb117.out.c 0 _ rfl; have nRb11 := HRb117.out.c 1 _ rfl; have nRb12 := HRb117.out.c 2 _ rfl; have nRb13 := HRb117.out.c 3 _ rfl; have nRb14 := HRb117.out.c 4 _ rfl; have nRb15 := HRb117.out.c 5 _ rfl; have nRb16 := HRb117.out.c 6 _ rfl; have hltRb1n := HRb117.out.lt
               clear hb hW))
          all_goals (rename_i hHd; clear hHd)
          all_goals go_wp2_with fail
          all_goals go_meet
          · exact ⟨w17.heap.size, rfl, rfl, Below.next HB17.out (box1 w17 _), HE17.out.next (box1 w17 _), HL17.out.next (box1 w17 _), HRb117.out.next (box1 w17 _), HS17.out.next (box1 w17 _), Blk.made w17 36 [.int .i64 0, .int .i64 0, .string ⟨#[]⟩, .int .i64 0, .int .i64 0, .slice none 0 0, .int .i64 0] rfl, HX0.out⟩
          · have hp : (((((((w17.setCell ⟨w16.heap.size, 0, none⟩ (.int .i64 0)).setCell ⟨w16.heap.size, 1, none⟩ (.int .i64 0)).setCell ⟨w16.heap.size, 2, none⟩ (.string ⟨#[]⟩)).setCell ⟨w16.heap.size, 3, none⟩ (.int .i64 0)).setCell ⟨w16.heap.size, 4, none⟩ (.int .i64 0)).setCell ⟨w16.heap.size, 5, none⟩ (.slice none 0 0)).setCell ⟨w16.heap.size, 6, none⟩ (.int .i64 0)) = putL w17 w16.heap.size 0 [.int .i64 0, .int .i64 0, .string ⟨#[]⟩, .int .i64 0, .int .i64 0, .slice none 0 0, .int .i64 0] := rfl
            rw [hp]
            clear hp
            have hzle : w15.heap.size ≤ w16.heap.size := by omega
            have k1 := below_puts (B := w16.heap.size) [.int .i64 0, .int .i64 0, .string ⟨#[]⟩, .int .i64 0, .int .i64 0, .slice none 0 0, .int .i64 0] 0 HB17.out (by have := HB15.out.size; omega)
            have kE := blk_puts_other (C := w16.heap.size) (by omega) [.int .i64 0, .int .i64 0, .string ⟨#[]⟩, .int .i64 0, .int .i64 0, .slice none 0 0, .int .i64 0] 0 HE17.out
            have kL := nds_far (z := w16.heap.size) HL15.out HL17.out hzle [.int .i64 0, .int .i64 0, .string ⟨#[]⟩, .int .i64 0, .int .i64 0, .slice none 0 0, .int .i64 0] 0
            have kRb1 := blk_puts_other (C := w16.heap.size) (by omega) [.int .i64 0, .int .i64 0, .string ⟨#[]⟩, .int .i64 0, .int .i64 0, .slice none 0 0, .int .i64 0] 0 HRb117.out
            have kS := prs_far (z := w16.heap.size) HS15.out HS17.out hzle [.int .i64 0, .int .i64 0, .string ⟨#[]⟩, .int .i64 0, .int .i64 0, .slice none 0 0, .int .i64 0] 0
            have kz : Blk (putL w17 w16.heap.size 0 [.int .i64 0, .int .i64 0, .string ⟨#[]⟩, .int .i64 0, .int .i64 0, .slice none 0 0, .int .i64 0]) w16.heap.size [.int .i64 0, .int .i64 0, .string ⟨#[]⟩, .int .i64 0, .int .i64 0, .slice none 0 0, .int .i64 0] := blk_puts [.int .i64 0, .int .i64 0, .string ⟨#[]⟩, .int .i64 0, .int .i64 0, .slice none 0 0, .int .i64 0] 0 HZ17.out (Nat.le_refl 7)
            generalize putL w17 w16.heap.size 0 [.int .i64 0, .int .i64 0, .string ⟨#[]⟩, .int .i64 0, .int .i64 0, .slice none 0 0, .int .i64 0] = wq at *
            exact ⟨w16.heap.size, rfl, rfl, k1, kE, kL, kRb1, kS, kz, HX0.out⟩
          · have hp : (((((((w17.setCell ⟨w15.heap.size, 0, none⟩ (.int .i64 0)).setCell ⟨w15.heap.size, 1, none⟩ (.int .i64 0)).setCell ⟨w15.heap.size, 2, none⟩ (.string ⟨#[]⟩)).setCell ⟨w15.heap.size, 3, none⟩ (.int .i64 0)).setCell ⟨w15.heap.size, 4, none⟩ (.int .i64 0)).setCell ⟨w15.heap.size, 5, none⟩ (.slice none 0 0)).setCell ⟨w15.heap.size, 6, none⟩ (.int .i64 0)) = putL w17 w15.heap.size 0 [.int .i64 0, .int .i64 0, .string ⟨#[]⟩, .int .i64 0, .int .i64 0, .slice none 0 0, .int .i64 0] := rfl
            rw [hp]
            clear hp
            have hzle : w15.heap.size ≤ w15.heap.size := by omega
            have k1 := below_puts (B := w15.heap.size) [.int .i64 0, .int .i64 0, .string ⟨#[]⟩, .int .i64 0, .int .i64 0, .slice none 0 0, .int .i64 0] 0 HB17.out (by have := HB15.out.size; omega)
            have kE := blk_puts_other (C := w15.heap.size) (by omega) [.int .i64 0, .int .i64 0, .string ⟨#[]⟩, .int .i64 0, .int .i64 0, .slice none 0 0, .int .i64 0] 0 HE17.out
            have kL := nds_far (z := w15.heap.size) HL15.out HL17.out hzle [.int .i64 0, .int .i64 0, .string ⟨#[]⟩, .int .i64 0, .int .i64 0, .slice none 0 0, .int .i64 0] 0
            have kRb1 := blk_puts_other (C := w15.heap.size) (by omega) [.int .i64 0, .int .i64 0, .string ⟨#[]⟩, .int .i64 0, .int .i64 0, .slice none 0 0, .int .i64 0] 0 HRb117.out
            have kS := prs_far (z := w15.heap.size) HS15.out HS17.out hzle [.int .i64 0, .int .i64 0, .string ⟨#[]⟩, .int .i64 0, .int .i64 0, .slice none 0 0, .int .i64 0] 0
            have kz : Blk (putL w17 w15.heap.size 0 [.int .i64 0, .int .i64 0, .string ⟨#[]⟩, .int .i64 0, .int .i64 0, .slice none 0 0, .int .i64 0]) w15.heap.size [.int .i64 0, .int .i64 0, .string ⟨#[]⟩, .int .i64 0, .int .i64 0, .slice none 0 0, .int .i64 0] := blk_puts [.int .i64 0, .int .i64 0, .string ⟨#[]⟩, .int .i64 0, .int .i64 0, .slice none 0 0, .int .i64 0] 0 HZ17.out (Nat.le_refl 7)
            generalize putL w17 w15.heap.size 0 [.int .i64 0, .int .i64 0, .string ⟨#[]⟩, .int .i64 0, .int .i64 0, .slice none 0 0, .int .i64 0] = wq at *
            exact ⟨w15.heap.size, rfl, rfl, k1, kE, kL, kRb1, kS, kz, HX0.out⟩
        case rest =>
        obtain ⟨b2, rfl, rfl, hB, hE, hL, hRb1, hS, hbx, hx0⟩ := hcut
        have HB16 := Lib.hid hB; have HE16 := Lib.hid hE; have HL16 := Lib.hid hL; have HRb116 := Lib.hid hRb1; have HS16 := Lib.hid hS; have HRb216 := Lib.hid hbx
        have hx1 : (x == 0) = false := by simpa using hx0
        have hx2 : (x != 0) = true := by simpa using hx0
        clear hB hE hL hRb1 hS hbx  HB15 HE15 HL15 HRb115 HS15
        generalize wc = w16 at *
        go_upto_region 14 with fail
        go_cut [15, 16] from 101 to 107 (fun sr se wx => ∃ (b3 : Nat), sr = .pointer (some ⟨b3, 0, none⟩) ∧ se = .int .i64 y ∧ Below w.heap.size w wx ∧ Blk wx w.heap.size [.string (tx k), .int .i64 v.k, .int .i64 v.n, .string (tx v.s), .int .i64 v.x, .int .i64 v.y, .int .i64 e.k, .int .i64 e.n, .string (tx e.s), .int .i64 e.x, .int .i64 e.y] ∧ Nds wx Al (ifL a b c) ∧ Blk wx b1 [.int .i64 u.k, .int .i64 u.n, .string (tx u.s), .int .i64 u.x, .int .i64 u.y, .slice Ao S.out.length co, .int .i64 (m : Int)] ∧ Prs wx Ao S.out ∧ Blk wx b2 [.int .i64 0, .int .i64 0, .string ⟨#[]⟩, .int .i64 0, .int .i64 0, .slice none 0 0, .int .i64 0] ∧ Blk wx b3 [.int .i64 0, .int .i64 0, .string ⟨#[]⟩, .int .i64 0, .int .i64 0, .slice none 0 0, .int .i64 0] ∧ y ≠ 0)
        case first =>
          have hltE_ := HE16.out.lt
          have qE0 := HE16.out.c 0 _ rfl
          have qE1 := HE16.out.c 1 _ rfl
          have qE2 := HE16.out.c 2 _ rfl
          have qE3 := HE16.out.c 3 _ rfl
          have qE4 := HE16.out.c 4 _ rfl
          have qE5 := HE16.out.c 5 _ rfl
          have qE6 := HE16.out.c 6 _ rfl
          have qE7 := HE16.out.c 7 _ rfl
          have qE8 := HE16.out.c 8 _ rfl
          have qE9 := HE16.out.c 9 _ rfl
          have qE10 := HE16.out.c 10 _ rfl
          have hltRb1_ := HRb116.out.lt
          have qRb10 := HRb116.out.c 0 _ rfl
          have qRb11 := HRb116.out.c 1 _ rfl
          have qRb12 := HRb116.out.c 2 _ rfl
          have qRb13 := HRb116.out.c 3 _ rfl
          have qRb14 := HRb116.out.c 4 _ rfl
          have qRb15 := HRb116.out.c 5 _ rfl
          have qRb16 := HRb116.out.c 6 _ rfl
          have hltRb2_ := HRb216.out.lt
          have qRb20 := HRb216.out.c 0 _ rfl
          have qRb21 := HRb216.out.c 1 _ rfl
          have qRb22 := HRb216.out.c 2 _ rfl
          have qRb23 := HRb216.out.c 3 _ rfl
          have qRb24 := HRb216.out.c 4 _ rfl
          have qRb25 := HRb216.out.c 5 _ rfl
          have qRb26 := HRb216.out.c 6 _ rfl
          go_region_held3 (fun w' => w'.cell? ⟨w.heap.size, 0, none⟩ = some (.string (tx k)) ∧ w'.cell? ⟨w.heap.size, 1, none⟩ = some (.int .i64 v.k) ∧ w'.cell? ⟨w.heap.size, 2, none⟩ = some (.int .i64 v.n) ∧ w'.cell? ⟨w.heap.size, 3, none⟩ = some (.string (tx v.s)) ∧ w'.cell? ⟨w.heap.size, 4, none⟩ = some (.int .i64 v.x) ∧ w'.cell? ⟨w.heap.size, 5, none⟩ = some (.int .i64 v.y) ∧ w'.cell? ⟨w.heap.size, 6, none⟩ = some (.int .i64 e.k) ∧ w'.cell? ⟨w.heap.size, 7, none⟩ = some (.int .i64 e.n) ∧ w'.cell? ⟨w.heap.size, 8, none⟩ = some (.string (tx e.s)) ∧ w'.cell? ⟨w.heap.size, 9, none⟩ = some (.int .i64 e.x) ∧ w'.cell? ⟨w.heap.size, 10, none⟩ = some (.int .i64 e.y)) (go_keep)
            (first
            | (go_at_call 10
               refine (of_any (ifL a b c) Al cl _ (HL16.out.next (below_drewN (Below.refl w16.heap.size w16) 1)) hll).mono ?_
               rintro eo w17 ⟨Ap, cp, rfl, hop, hb⟩
               have hW : Below w16.heap.size w16 _ := below_drewN (Below.refl _ _) 1
               have HB17 := Lib.hid (Below.next (below_drewN HB16.out 1) hb)
               have HE17 := Lib.hid ((HE16.out.next hW).next hb)
               have HL17 := Lib.hid ((HL16.out.next hW).next hb)
               have HRb117 := Lib.hid ((HRb116.out.next hW).next hb)
               have HS17 := Lib.hid ((HS16.out.next hW).next hb)
               have HRb217 := Lib.hid ((HRb216.out.next hW).next hb)
               have HP17 : Hid (Nds w17 Ap (ifL a b c)) := Nds.of_own hop
               have hszm : w16.heap.size ≤ w17.heap.size := Nat.le_trans hW.size hb.size
               have hneE1 : w16.heap.size ≠ w.heap.size := by have := HE16.out.lt; omega
               have hneE2 : w17.heap.size ≠ w.heap.size := by have := HE17.out.lt; omega
               have hneRb11 : w16.heap.size ≠ b1 := by have := HRb116.out.lt; omega
               have hneRb12 : w17.heap.size ≠ b1 := by have := HRb117.out.lt; omega
               have hneRb21 : w16.heap.size ≠ b2 := by have := HRb216.out.lt; omega
               have hneRb22 : w17.heap.size ≠ b2 := by have := HRb217.out.lt; omega
               have mE0 := HE17.out.c 0 _ rfl; have mE1 := HE17.out.c 1 _ rfl; have mE2 := HE17.out.c 2 _ rfl; have mE3 := HE17.out.c 3 _ rfl; have mE4 := HE17.out.c 4 _ rfl; have mE5 := HE17.out.c 5 _ rfl; have mE6 := HE17.out.c 6 _ rfl; have mE7 := HE17.out.c 7 _ rfl; have mE8 := HE17.out.c 8 _ rfl; have mE9 := HE17.out.c 9 _ rfl; have mE10 := HE17.out.c 10 _ rfl; have hltEm := HE17.out.lt
               have mRb10 := HRb117.out.c 0 _ rfl; have mRb11 := HRb117.out.c 1 _ rfl; have mRb12 := HRb117.out.c 2 _ rfl; have mRb13 := HRb117.out.c 3 _ rfl; have mRb14 := HRb117.out.c 4 _ rfl; have mRb15 := HRb117.out.c 5 _ rfl; have mRb16 := HRb117.out.c 6 _ rfl; have hltRb1m := HRb117.out.lt
               have mRb20 := HRb217.out.c 0 _ rfl; have mRb21 := HRb217.out.c 1 _ rfl; have mRb22 := HRb217.out.c 2 _ rfl; have mRb23 := HRb217.out.c 3 _ rfl; have mRb24 := HRb217.out.c 4 _ rfl; have mRb25 := HRb217.out.c 5 _ rfl; have mRb26 := HRb217.out.c 6 _ rfl; have hltRb2m := HRb217.out.lt
               clear hop hb hW)
            | (go_at_call 10
               refine (of_any (ifL a b c) Al cl _ (HL16.out.next ((below_drewN (Below.refl w16.heap.size w16) 1).alloc (Nat.le_refl _) (.cells #[.int .i64 0, .int .i64 0, .string ⟨#[]⟩, .int .i64 0, .int .i64 0, .slice none 0 0, .int .i64 0] 36))) hll).mono ?_
               rintro eo w17 ⟨Ap, cp, rfl, hop, hb⟩
               have hW : Below w16.heap.size w16 _ := (below_drewN (Below.refl _ _) 1).alloc (Nat.le_refl _) (.cells #[.int .i64 0, .int .i64 0, .string ⟨#[]⟩, .int .i64 0, .int .i64 0, .slice none 0 0, .int .i64 0] 36)
               have HB17 := Lib.hid (Below.next ((below_drewN HB16.out 1).alloc HB16.out.size (.cells #[.int .i64 0, .int .i64 0, .string ⟨#[]⟩, .int .i64 0, .int .i64 0, .slice none 0 0, .int .i64 0] 36)) hb)
               have HE17 := Lib.hid ((HE16.out.next hW).next hb)
               have HL17 := Lib.hid ((HL16.out.next hW).next hb)
               have HRb117 := Lib.hid ((HRb116.out.next hW).next hb)
               have HS17 := Lib.hid ((HS16.out.next hW).next hb)
               have HRb217 := Lib.hid ((HRb216.out.next hW).next hb)
               have HP17 : Hid (Nds w17 Ap (ifL a b c)) := Nds.of_own hop
               have hszm : w16.heap.size ≤ w17.heap.size := Nat.le_trans hW.size hb.size
               have hneE1 : w16.heap.size ≠ w.heap.size := by have := HE16.out.lt; omega
               have hneE2 : w17.heap.size ≠ w.heap.size := by have := HE17.out.lt; omega
               have hneRb11 : w16.heap.size ≠ b1 := by have := HRb116.out.lt; omega
               have hneRb12 : w17.heap.size ≠ b1 := by have := HRb117.out.lt; omega
               have hneRb21 : w16.heap.size ≠ b2 := by have := HRb216.out.lt; omega
               have hneRb22 : w17.heap.size ≠ b2 := by have := HRb217.out.lt; omega
               have HZ17 : Hid (Blk w17 w16.heap.size rz7) := (Blk.made (w16.drewN 1) 36 rz7 rfl).next hb
               have hzlt := HZ17.out.lt
               have mE0 := HE17.out.c 0 _ rfl; have mE1 := HE17.out.c 1 _ rfl; have mE2 := HE17.out.c 2 _ rfl; have mE3 := HE17.out.c 3 _ rfl; have mE4 := HE17.out.c 4 _ rfl; have mE5 := HE17.out.c 5 _ rfl; have mE6 := HE17.out.c 6 _ rfl; have mE7 := HE17.out.c 7 _ rfl; have mE8 := HE17.out.c 8 _ rfl; have mE9 := HE17.out.c 9 _ rfl; have mE10 := HE17.out.c 10 _ rfl; have hltEm := HE17.out.lt
               have mRb10 := HRb117.out.c 0 _ rfl; have mRb11 := HRb117.out.c 1 _ rfl; have mRb12 := HRb117.out.c 2 _ rfl; have mRb13 := HRb117.out.c 3 _ rfl; have mRb14 := HRb117.out.c 4 _ rfl; have mRb15 := HRb117.out.c 5 _ rfl; have mRb16 := HRb117.out.c 6 _ rfl; have hltRb1m := HRb117.out.lt
               have mRb20 := HRb217.out.c 0 _ rfl; have mRb21 := HRb217.out.c 1 _ rfl; have mRb22 := HRb217.out.c 2 _ rfl; have mRb23 := HRb217.out.c 3 _ rfl; have mRb24 := HRb217.out.c 4 _ rfl; have mRb25 := HRb217.out.c 5 _ rfl; have mRb26 := HRb217.out.c 6 _ rfl; have hltRb2m := HRb217.out.lt
               clear hop hb hW)
            | (go_at_call 11
               refine (HRU.out (ifL a b c) (3001) _ HB17.out Ap cp HP17.out (by omega)).mono ?_
               rintro eo w18 ⟨hb, hq⟩
               rw [hy] at hq
               have hW : Below w17.heap.size w17 _ := Below.refl _ _
               obtain ⟨hx0, rfl⟩ := hq
               have HX0 := Lib.hid hx0
               clear hx0
               have HB18 := Lib.hid (Below.next HB17.out hb)
               have HE18 := Lib.hid ((HE17.out.next hW).next hb)
               have HL18 := Lib.hid ((HL17.out.next hW).next hb)
               have HRb118 := Lib.hid ((HRb117.out.next hW).next hb)
               have HS18 := Lib.hid ((HS17.out.next hW).next hb)
               have HRb218 := Lib.hid ((HRb217.out.next hW).next hb)
               try have HZ18 := Lib.hid (HZ17.out.next hb)
               try (have zc0 := HZ18.out.c 0 _ rfl; have zf0 := HZ18.out.f 0 _ rfl; have zc1 := HZ18.out.c 1 _ rfl; have zf1 := HZ18.out.f 1 _ rfl; have zc2 := HZ18.out.c 2 _ rfl; have zf2 := HZ18.out.f 2 _ rfl; have zc3 := HZ18.out.c 3 _ rfl; have zf3 := HZ18.out.f 3 _ rfl; have zc4 := HZ18.out.c 4 _ rfl; have zf4 := HZ18.out.f 4 _ rfl; have zc5 := HZ18.out.c 5 _ rfl; have zf5 := HZ18.out.f 5 _ rfl; have zc6 := HZ18.out.c 6 _ rfl; have zf6 := HZ18.out.f 6 _ rfl)
               try (have hltz := HZ18.out.lt)
               have hszn : w17.heap.size ≤ w18.heap.size := Nat.le_trans hW.size hb.size
               have nE0 := HE18.out.c 0 _ rfl; have nE1 := HE18.out.c 1 _ rfl; have nE2 := HE18.out.c 2 _ rfl; have nE3 := HE18.out.c 3 _ rfl; have nE4 := HE18.out.c 4 _ rfl; have nE5 := HE18.out.c 5 _ rfl; have nE6 := HE18.out.c 6 _ rfl; have nE7 := HE18.out.c 7 _ rfl; have nE8 := HE18.out.c 8 _ rfl; have nE9 := HE18.out.c 9 _ rfl; have nE10 := HE18.out.c 10 _ rfl; have hltEn := HE18.out.lt
               have nRb10 := HRb118.out.c 0 _ rfl; have nRb11 := HRb118.out.c 1 _ rfl; have nRb12 := HRb118.out.c 2 _ rfl; have nRb13 := HRb118.out.c 3 _ rfl; have nRb14 := HRb118.out.c 4 _ rfl; have nRb15 := HRb118.out.c 5 _ rfl; have nRb16 := HRb118.out.c 6 _ rfl; have hltRb1n := HRb118.out.lt
               have nRb20 := HRb218.out.c 0 _ rfl; have nRb21 := HRb218.out.c 1 _ rfl; have nRb22 := HRb218.out.c 2 _ rfl; have nRb23 := HRb218.out.c 3 _ rfl; have nRb24 := HRb218.out.c 4 _ rfl; have nRb25 := HRb218.out.c 5 _ rfl; have nRb26 := HRb218.out.c 6 _ rfl; have hltRb2n := HRb218.out.lt
               clear hb hW)
            | (go_at_call 11
               refine (HRU.out (ifL a b c) (3001) _ (Below.next HB17.out (box1 w17 (.cells #[.int .i64 0, .int .i64 0, .string ⟨#[]⟩, .int .i64 0, .int .i64 0, .slice none 0 0, .int .i64 0] 36))) Ap cp (HP17.out.next (box1 w17 (.cells #[.int .i64 0, .int .i64 0, .string ⟨#[]⟩, .int .i64 0, .int .i64 0, .slice none 0 0, .int .i64 0] 36))) (by omega)).mono ?_
               rintro eo w18 ⟨hb, hq⟩
               rw [hy] at hq
               have hW : Below w17.heap.size w17 _ := box1 w17 (.cells #[.int .i64 0, .int .i64 0, .string ⟨#[]⟩, .int .i64 0, .int .i64 0, .slice none 0 0, .int .i64 0] 36)
               obtain ⟨hx0, rfl⟩ := hq
               have HX0 := Lib.hid hx0
               clear hx0
               have HB18 := Lib.hid (Below.next (Below.next HB17.out (box1 w17 (.cells #[.int .i64 0, .int .i64 0, .string ⟨#[]⟩, .int .i64 0, .int .i64 0, .slice none 0 0, .int .i64 0] 36))) hb)
               have HE18 := Lib.hid ((HE17.out.next hW).next hb)
               have HL18 := Lib.hid ((HL17.out.next hW).next hb)
               have HRb118 := Lib.hid ((HRb117.out.next hW).next hb)
               have HS18 := Lib.hid ((HS17.out.next hW).next hb)
               have HRb218 := Lib.hid ((HRb217.out.next hW).next hb)
               have HZ18 : Hid (Blk w18 w17.heap.size rz7) := (Blk.made w17 36 rz7 rfl).next hb
               try (have zc0 := HZ18.out.c 0 _ rfl; have zf0 := HZ18.out.f 0 _ rfl; have zc1 := HZ18.out.c 1 _ rfl; have zf1 := HZ18.out.f 1 _ rfl; have zc2 := HZ18.out.c 2 _ rfl; have zf2 := HZ18.out.f 2 _ rfl; have zc3 := HZ18.out.c 3 _ rfl; have zf3 := HZ18.out.f 3 _ rfl; have zc4 := HZ18.out.c 4 _ rfl; have zf4 := HZ18.out.f 4 _ rfl; have zc5 := HZ18.out.c 5 _ rfl; have zf5 := HZ18.out.f 5 _ rfl; have zc6 := HZ18.out.c 6 _ rfl; have zf6 := HZ18.out.f 6 _ rfl)
               try (have hltz := HZ18.out.lt)
               have hszn : w17.heap.size ≤ w18.heap.size := Nat.le_trans hW.size hb.size
               have nE0 := HE18.out.c 0 _ rfl; have nE1 := HE18.out.c 1 _ rfl; have nE2 := HE18.out.c 2 _ rfl; have nE3 := HE18.out.c 3 _ rfl; have nE4 := HE18.out.c 4 _ rfl; have nE5 := HE18.out.c 5 _ rfl; have nE6 := HE18.out.c 6 _ rfl; have nE7 := HE18.out.c 7 _ rfl; have nE8 := HE18.out.c 8 _ rfl; have nE9 := HE18.out.c 9 _ rfl; have nE10 := HE18.out.c 10 _ rfl; have hltEn := HE18.out.lt
               have nRb10 := HRb118.out.c 0 _ rfl; have nRb11 := HRb118.out.c 1 _ rfl; have nRb12 := HRb118.out.c 2 _ rfl; have nRb13 := HRb118.out.c 3 _ rfl; have nRb14 := HRb118.out.c 4 _ rfl; have nRb15 := HRb118.out.c 5 _ rfl; have nRb16 := HRb118.out.c 6 _ rfl; have hltRb1n := HRb118.out.lt
               have nRb20 := HRb218.out.c 0 _ rfl; have nRb21 := HRb218.out.c 1 _ rfl; have nRb22 := HRb218.out.c 2 _ rfl; have nRb23 := HRb218.out.c 3 _ rfl; have nRb24 := HRb218.out.c 4 _ rfl; have nRb25 := HRb218.out.c 5 _ rfl; have nRb26 := HRb218.out.c 6 _ rfl; have hltRb2n := HRb218.out.lt
               clear hb hW))
          all_goals (rename_i hHd; clear hHd)
          all_goals go_wp2_with fail
          all_goals go_meet
          · exact ⟨w18.heap.size, rfl, rfl, Below.next HB18.out (box1 w18 _), HE18.out.next (box1 w18 _), HL18.out.next (box1 w18 _), HRb118.out.next (box1 w18 _), HS18.out.next (box1 w18 _), HRb218.out.next (box1 w18 _), Blk.made w18 36 [.int .i64 0, .int .i64 0, .string ⟨#[]⟩, .int .i64 0, .int .i64 0, .slice none 0 0, .int .i64 0] rfl, HX0.out⟩
          · have hp : (((((((w18.setCell ⟨w17.heap.size, 0, none⟩ (.int .i64 0)).setCell ⟨w17.heap.size, 1, none⟩ (.int .i64 0)).setCell ⟨w17.heap.size, 2, none⟩ (.string ⟨#[]⟩)).setCell ⟨w17.heap.size, 3, none⟩ (.int .i64 0)).setCell ⟨w17.heap.size, 4, none⟩ (.int .i64 0)).setCell ⟨w17.heap.size, 5, none⟩ (.slice none 0 0)).setCell ⟨w17.heap.size, 6, none⟩ (.int .i64 0)) = putL w18 w17.heap.size 0 [.int .i64 0, .int .i64 0, .string ⟨#[]⟩, .int .i64 0, .int .i64 0, .slice none 0 0, .int .i64 0] := rfl
            rw [hp]
            clear hp
            have hzle : w16.heap.size ≤ w17.heap.size := by omega
            have k1 := below_puts (B := w17.heap.size) [.int .i64 0, .int .i64 0, .string ⟨#[]⟩, .int .i64 0, .int .i64 0, .slice none 0 0, .int .i64 0] 0 HB18.out (by have := HB16.out.size; omega)
            have kE := blk_puts_other (C := w17.heap.size) (by omega) [.int .i64 0, .int .i64 0, .string ⟨#[]⟩, .int .i64 0, .int .i64 0, .slice none 0 0, .int .i64 0] 0 HE18.out
            have kL := nds_far (z := w17.heap.size) HL16.out HL18.out hzle [.int .i64 0, .int .i64 0, .string ⟨#[]⟩, .int .i64 0, .int .i64 0, .slice none 0 0, .int .i64 0] 0
            have kRb1 := blk_puts_other (C := w17.heap.size) (by omega) [.int .i64 0, .int .i64 0, .string ⟨#[]⟩, .int .i64 0, .int .i64 0, .slice none 0 0, .int .i64 0] 0 HRb118.out
            have kS := prs_far (z := w17.heap.size) HS16.out HS18.out hzle [.int .i64 0, .int .i64 0, .string ⟨#[]⟩, .int .i64 0, .int .i64 0, .slice none 0 0, .int .i64 0] 0
            have kRb2 := blk_puts_other (C := w17.heap.size) (by omega) [.int .i64 0, .int .i64 0, .string ⟨#[]⟩, .int .i64 0, .int .i64 0, .slice none 0 0, .int .i64 0] 0 HRb218.out
            have kz : Blk (putL w18 w17.heap.size 0 [.int .i64 0, .int .i64 0, .string ⟨#[]⟩, .int .i64 0, .int .i64 0, .slice none 0 0, .int .i64 0]) w17.heap.size [.int .i64 0, .int .i64 0, .string ⟨#[]⟩, .int .i64 0, .int .i64 0, .slice none 0 0, .int .i64 0] := blk_puts [.int .i64 0, .int .i64 0, .string ⟨#[]⟩, .int .i64 0, .int .i64 0, .slice none 0 0, .int .i64 0] 0 HZ18.out (Nat.le_refl 7)
            generalize putL w18 w17.heap.size 0 [.int .i64 0, .int .i64 0, .string ⟨#[]⟩, .int .i64 0, .int .i64 0, .slice none 0 0, .int .i64 0] = wq at *
            exact ⟨w17.heap.size, rfl, rfl, k1, kE, kL, kRb1, kS, kRb2, kz, HX0.out⟩
          · have hp : (((((((w18.setCell ⟨w16.heap.size, 0, none⟩ (.int .i64 0)).setCell ⟨w16.heap.size, 1, none⟩ (.int .i64 0)).setCell ⟨w16.heap.size, 2, none⟩ (.string ⟨#[]⟩)).setCell ⟨w16.heap.size, 3, none⟩ (.int .i64 0)).setCell ⟨w16.heap.size, 4, none⟩ (.int .i64 0)).setCell ⟨w16.heap.size, 5, none⟩ (.slice none 0 0)).setCell ⟨w16.heap.size, 6, none⟩ (.int .i64 0)) = putL w18 w16.heap.size 0 [.int .i64 0, .int .i64 0, .string ⟨#[]⟩, .int .i64 0, .int .i64 0, .slice none 0 0, .int .i64 0] := rfl
            rw [hp]
            clear hp
            have hzle : w16.heap.size ≤ w16.heap.size := by omega
            have k1 := below_puts (B := w16.heap.size) [.int .i64 0, .int .i64 0, .string ⟨#[]⟩, .int .i64 0, .int .i64 0, .slice none 0 0, .int .i64 0] 0 HB18.out (by have := HB16.out.size; omega)
            have kE := blk_puts_other (C := w16.heap.size) (by omega) [.int .i64 0, .int .i64 0, .string ⟨#[]⟩, .int .i64 0, .int .i64 0, .slice none 0 0, .int .i64 0] 0 HE18.out
            have kL := nds_far (z := w16.heap.size) HL16.out HL18.out hzle [.int .i64 0, .int .i64 0, .string ⟨#[]⟩, .int .i64 0, .int .i64 0, .slice none 0 0, .int .i64 0] 0
            have kRb1 := blk_puts_other (C := w16.heap.size) (by omega) [.int .i64 0, .int .i64 0, .string ⟨#[]⟩, .int .i64 0, .int .i64 0, .slice none 0 0, .int .i64 0] 0 HRb118.out
            have kS := prs_far (z := w16.heap.size) HS16.out HS18.out hzle [.int .i64 0, .int .i64 0, .string ⟨#[]⟩, .int .i64 0, .int .i64 0, .slice none 0 0, .int .i64 0] 0
            have kRb2 := blk_puts_other (C := w16.heap.size) (by omega) [.int .i64 0, .int .i64 0, .string ⟨#[]⟩, .int .i64 0, .int .i64 0, .slice none 0 0, .int .i64 0] 0 HRb218.out
            have kz : Blk (putL w18 w16.heap.size 0 [.int .i64 0, .int .i64 0, .string ⟨#[]⟩, .int .i64 0, .int .i64 0, .slice none 0 0, .int .i64 0]) w16.heap.size [.int .i64 0, .int .i64 0, .string ⟨#[]⟩, .int .i64 0, .int .i64 0, .slice none 0 0, .int .i64 0] := blk_puts [.int .i64 0, .int .i64 0, .string ⟨#[]⟩, .int .i64 0, .int .i64 0, .slice none 0 0, .int .i64 0] 0 HZ18.out (Nat.le_refl 7)
            generalize putL w18 w16.heap.size 0 [.int .i64 0, .int .i64 0, .string ⟨#[]⟩, .int .i64 0, .int .i64 0, .slice none 0 0, .int .i64 0] = wq at *
            exact ⟨w16.heap.size, rfl, rfl, k1, kE, kL, kRb1, kS, kRb2, kz, HX0.out⟩
        case rest =>
        obtain ⟨b3, rfl, rfl, hB, hE, hL, hRb1, hS, hRb2, hbx, hx0⟩ := hcut
        have HB17 := Lib.hid hB; have HE17 := Lib.hid hE; have HL17 := Lib.hid hL; have HRb117 := Lib.hid hRb1; have HS17 := Lib.hid hS; have HRb217 := Lib.hid hRb2; have HRb317 := Lib.hid hbx
        have hy1 : (y == 0) = false := by simpa using hx0
        have hy2 : (y != 0) = true := by simpa using hx0
        clear hB hE hL hRb1 hS hRb2 hbx  HB16 HE16 HL16 HRb116 HS16 HRb216
        generalize wc = w17 at *
        have hltRb1_ := HRb117.out.lt
        have qRb10 := HRb117.out.c 0 _ rfl
        have qRb11 := HRb117.out.c 1 _ rfl
        have qRb12 := HRb117.out.c 2 _ rfl
        have qRb13 := HRb117.out.c 3 _ rfl
        have qRb14 := HRb117.out.c 4 _ rfl
        have qRb15 := HRb117.out.c 5 _ rfl
        have qRb16 := HRb117.out.c 6 _ rfl
        have hltRb2_ := HRb217.out.lt
        have qRb20 := HRb217.out.c 0 _ rfl
        have qRb21 := HRb217.out.c 1 _ rfl
        have qRb22 := HRb217.out.c 2 _ rfl
        have qRb23 := HRb217.out.c 3 _ rfl
        have qRb24 := HRb217.out.c 4 _ rfl
        have qRb25 := HRb217.out.c 5 _ rfl
        have qRb26 := HRb217.out.c 6 _ rfl
        have hltRb3_ := HRb317.out.lt
        have qRb30 := HRb317.out.c 0 _ rfl
        have qRb31 := HRb317.out.c 1 _ rfl
        have qRb32 := HRb317.out.c 2 _ rfl
        have qRb33 := HRb317.out.c 3 _ rfl
        have qRb34 := HRb317.out.c 4 _ rfl
        have qRb35 := HRb317.out.c 5 _ rfl
        have qRb36 := HRb317.out.c 6 _ rfl
        rcases HYX.out with rfl | rfl
        · have hq1 : (y == y) = true := by simp
          go_wp2_with (fail)
          go_ret
          exact ⟨by simp, HB17.out⟩
        · by_cases hxx : x = 22
          · subst hxx
            go_wp2_with (fail)
            go_ret
            exact ⟨by simp, HB17.out⟩
          · have hq1 : ((22 : Int) == x) = false := by rw [beq_eq_false_iff_ne]; omega
            have hq2 : (x == 22) = false := by rw [beq_eq_false_iff_ne]; omega
            go_wp2_with (fail)
            go_ret
            exact ⟨by simp, HB17.out⟩
      · have hS2 := (rnX_left hx).2.2.1
        rcases H4 with ⟨hmany, hy⟩ | ⟨hmany, S3, hy, hout⟩
        · have HMM := Lib.hid hmany
          clear hmany
          rw [show ((3000 + 1 : Nat) : Int) = 3001 by rfl] at hy
          have hltRb1_ := HRb115.out.lt
          have qRb10 := HRb115.out.c 0 _ rfl
          have qRb11 := HRb115.out.c 1 _ rfl
          have qRb12 := HRb115.out.c 2 _ rfl
          have qRb13 := HRb115.out.c 3 _ rfl
          have qRb14 := HRb115.out.c 4 _ rfl
          have qRb15 := HRb115.out.c 5 _ rfl
          have qRb16 := HRb115.out.c 6 _ rfl
          go_upto_region 13 with fail
          go_cut [13, 14] from 92 to 100 (fun sr se wx => ∃ (b2 : Nat) (A2 : Option Addr) (c2 : Nat), sr = .pointer (some ⟨b2, 0, none⟩) ∧ se = .int .i64 0 ∧ Below w.heap.size w wx ∧ Blk wx w.heap.size [.string (tx k), .int .i64 v.k, .int .i64 v.n, .string (tx v.s), .int .i64 v.x, .int .i64 v.y, .int .i64 e.k, .int .i64 e.n, .string (tx e.s), .int .i64 e.x, .int .i64 e.y] ∧ Nds wx Al (ifL a b c) ∧ Blk wx b1 [.int .i64 u.k, .int .i64 u.n, .string (tx u.s), .int .i64 u.x, .int .i64 u.y, .slice Ao S.out.length co, .int .i64 (m : Int)] ∧ Prs wx Ao S.out ∧ Blk wx b2 [.int .i64 t.k, .int .i64 t.n, .string (tx t.s), .int .i64 t.x, .int .i64 t.y, .slice A2 S2.out.length c2, .int .i64 (j : Int)] ∧ Prs wx A2 S2.out)
          case first =>
            have hltE_ := HE15.out.lt
            have qE0 := HE15.out.c 0 _ rfl
            have qE1 := HE15.out.c 1 _ rfl
            have qE2 := HE15.out.c 2 _ rfl
            have qE3 := HE15.out.c 3 _ rfl
            have qE4 := HE15.out.c 4 _ rfl
            have qE5 := HE15.out.c 5 _ rfl
            have qE6 := HE15.out.c 6 _ rfl
            have qE7 := HE15.out.c 7 _ rfl
            have qE8 := HE15.out.c 8 _ rfl
            have qE9 := HE15.out.c 9 _ rfl
            have qE10 := HE15.out.c 10 _ rfl
            have hltRb1_ := HRb115.out.lt
            have qRb10 := HRb115.out.c 0 _ rfl
            have qRb11 := HRb115.out.c 1 _ rfl
            have qRb12 := HRb115.out.c 2 _ rfl
            have qRb13 := HRb115.out.c 3 _ rfl
            have qRb14 := HRb115.out.c 4 _ rfl
            have qRb15 := HRb115.out.c 5 _ rfl
            have qRb16 := HRb115.out.c 6 _ rfl
            go_region_held3 (fun w' => w'.cell? ⟨w.heap.size, 0, none⟩ = some (.string (tx k)) ∧ w'.cell? ⟨w.heap.size, 1, none⟩ = some (.int .i64 v.k) ∧ w'.cell? ⟨w.heap.size, 2, none⟩ = some (.int .i64 v.n) ∧ w'.cell? ⟨w.heap.size, 3, none⟩ = some (.string (tx v.s)) ∧ w'.cell? ⟨w.heap.size, 4, none⟩ = some (.int .i64 v.x) ∧ w'.cell? ⟨w.heap.size, 5, none⟩ = some (.int .i64 v.y) ∧ w'.cell? ⟨w.heap.size, 6, none⟩ = some (.int .i64 e.k) ∧ w'.cell? ⟨w.heap.size, 7, none⟩ = some (.int .i64 e.n) ∧ w'.cell? ⟨w.heap.size, 8, none⟩ = some (.string (tx e.s)) ∧ w'.cell? ⟨w.heap.size, 9, none⟩ = some (.int .i64 e.x) ∧ w'.cell? ⟨w.heap.size, 10, none⟩ = some (.int .i64 e.y) ∧ w'.cell? ⟨b1, 6, none⟩ = some (.int .i64 (m : Int))) (go_keep)
              (first
              | (go_at_call 10
                 refine (HOFb.out _ (below_drewN HB15.out 1) (by omega)).mono ?_
                 rintro eo w16 ⟨Ap, cp, rfl, hop, hb⟩
                 have hW : Below w15.heap.size w15 _ := below_drewN (Below.refl _ _) 1
                 have HB16 := Lib.hid (Below.next (below_drewN HB15.out 1) hb)
                 have HE16 := Lib.hid ((HE15.out.next hW).next hb)
                 have HL16 := Lib.hid ((HL15.out.next hW).next hb)
                 have HRb116 := Lib.hid ((HRb115.out.next hW).next hb)
                 have HS16 := Lib.hid ((HS15.out.next hW).next hb)
                 have HP16 : Hid (Nds w16 Ap b) := Nds.of_own hop
                 have hszm : w15.heap.size ≤ w16.heap.size := Nat.le_trans hW.size hb.size
                 have hneE1 : w15.heap.size ≠ w.heap.size := by have := HE15.out.lt; omega
                 have hneE2 : w16.heap.size ≠ w.heap.size := by have := HE16.out.lt; omega
                 have hneRb11 : w15.heap.size ≠ b1 := by have := HRb115.out.lt; omega
                 have hneRb12 : w16.heap.size ≠ b1 := by have := HRb116.out.lt; omega
                 have mE0 := HE16.out.c 0 _ rfl; have mE1 := HE16.out.c 1 _ rfl; have mE2 := HE16.out.c 2 _ rfl; have mE3 := HE16.out.c 3 _ rfl; have mE4 := HE16.out.c 4 _ rfl; have mE5 := HE16.out.c 5 _ rfl; have mE6 := HE16.out.c 6 _ rfl; have mE7 := HE16.out.c 7 _ rfl; have mE8 := HE16.out.c 8 _ rfl; have mE9 := HE16.out.c 9 _ rfl; have mE10 := HE16.out.c 10 _ rfl; have hltEm := HE16.out.lt
                 have mRb10 := HRb116.out.c 0 _ rfl; have mRb11 := HRb116.out.c 1 _ rfl; have mRb12 := HRb116.out.c 2 _ rfl; have mRb13 := HRb116.out.c 3 _ rfl; have mRb14 := HRb116.out.c 4 _ rfl; have mRb15 := HRb116.out.c 5 _ rfl; have mRb16 := HRb116.out.c 6 _ rfl; have hltRb1m := HRb116.out.lt
                 clear hop hb hW)
              | (go_at_call 10
                 refine (HOFb.out _ ((below_drewN HB15.out 1).alloc HB15.out.size (.cells #[.int .i64 0, .int .i64 0, .string ⟨#[]⟩, .int .i64 0, .int .i64 0, .slice none 0 0, .int .i64 0] 36)) (by omega)).mono ?_
                 rintro eo w16 ⟨Ap, cp, rfl, hop, hb⟩
                 have hW : Below w15.heap.size w15 _ := (below_drewN (Below.refl _ _) 1).alloc (Nat.le_refl _) (.cells #[.int .i64 0, .int .i64 0, .string ⟨#[]⟩, .int .i64 0, .int .i64 0, .slice none 0 0, .int .i64 0] 36)
                 have HB16 := Lib.hid (Below.next ((below_drewN HB15.out 1).alloc HB15.out.size (.cells #[.int .i64 0, .int .i64 0, .string ⟨#[]⟩, .int .i64 0, .int .i64 0, .slice none 0 0, .int .i64 0] 36)) hb)
                 have HE16 := Lib.hid ((HE15.out.next hW).next hb)
                 have HL16 := Lib.hid ((HL15.out.next hW).next hb)
                 have HRb116 := Lib.hid ((HRb115.out.next hW).next hb)
                 have HS16 := Lib.hid ((HS15.out.next hW).next hb)
                 have HP16 : Hid (Nds w16 Ap b) := Nds.of_own hop
                 have hszm : w15.heap.size ≤ w16.heap.size := Nat.le_trans hW.size hb.size
                 have hneE1 : w15.heap.size ≠ w.heap.size := by have := HE15.out.lt; omega
                 have hneE2 : w16.heap.size ≠ w.heap.size := by have := HE16.out.lt; omega
                 have hneRb11 : w15.heap.size ≠ b1 := by have := HRb115.out.lt; omega
                 have hneRb12 : w16.heap.size ≠ b1 := by have := HRb116.out.lt; omega
                 have HZ16 : Hid (Blk w16 w15.heap.size rz7) := (Blk.made (w15.drewN 1) 36 rz7 rfl).next hb
                 have hzlt := HZ16.out.lt
                 have mE0 := HE16.out.c 0 _ rfl; have mE1 := HE16.out.c 1 _ rfl; have mE2 := HE16.out.c 2 _ rfl; have mE3 := HE16.out.c 3 _ rfl; have mE4 := HE16.out.c 4 _ rfl; have mE5 := HE16.out.c 5 _ rfl; have mE6 := HE16.out.c 6 _ rfl; have mE7 := HE16.out.c 7 _ rfl; have mE8 := HE16.out.c 8 _ rfl; have mE9 := HE16.out.c 9 _ rfl; have mE10 := HE16.out.c 10 _ rfl; have hltEm := HE16.out.lt
                 have mRb10 := HRb116.out.c 0 _ rfl; have mRb11 := HRb116.out.c 1 _ rfl; have mRb12 := HRb116.out.c 2 _ rfl; have mRb13 := HRb116.out.c 3 _ rfl; have mRb14 := HRb116.out.c 4 _ rfl; have mRb15 := HRb116.out.c 5 _ rfl; have mRb16 := HRb116.out.c 6 _ rfl; have hltRb1m := HRb116.out.lt
                 clear hop hb hW)
              | (go_at_call 11
                 refine (HRU.out b ((m : Int)) _ HB16.out Ap cp HP16.out (by omega)).mono ?_
                 rintro eo w17 ⟨hb, hq⟩
                 rw [hx] at hq
                 have hW : Below w16.heap.size w16 _ := Below.refl _ _
                 obtain ⟨A2, c2, ho, rfl⟩ := hq
                 have HN17 : Hid (Prs w17 A2 S2.out) := Prs.of_own ho
                 try have HF := Lib.hid (own_far (lo := w15.heap.size) ho hzlt)
                 clear ho
                 have HB17 := Lib.hid (Below.next HB16.out hb)
                 have HE17 := Lib.hid ((HE16.out.next hW).next hb)
                 have HL17 := Lib.hid ((HL16.out.next hW).next hb)
                 have HRb117 := Lib.hid ((HRb116.out.next hW).next hb)
                 have HS17 := Lib.hid ((HS16.out.next hW).next hb)
                 try have HZ17 := Lib.hid (HZ16.out.next hb)
                 try (have zc0 := HZ17.out.c 0 _ rfl; have zf0 := HZ17.out.f 0 _ rfl; have zc1 := HZ17.out.c 1 _ rfl; have zf1 := HZ17.out.f 1 _ rfl; have zc2 := HZ17.out.c 2 _ rfl; have zf2 := HZ17.out.f 2 _ rfl; have zc3 := HZ17.out.c 3 _ rfl; have zf3 := HZ17.out.f 3 _ rfl; have zc4 := HZ17.out.c 4 _ rfl; have zf4 := HZ17.out.f 4 _ rfl; have zc5 := HZ17.out.c 5 _ rfl; have zf5 := HZ17.out.f 5 _ rfl; have zc6 := HZ17.out.c 6 _ rfl; have zf6 := HZ17.out.f 6 _ rfl)
                 try (have hltz := HZ17.out.lt)
                 have hszn : w16.heap.size ≤ w17.heap.size := Nat.le_trans hW.size hb.size
                 have nE0 := HE17.out.c 0 _ rfl; have nE1 := HE17.out.c 1 _ rfl; have nE2 := HE17.out.c 2 _ rfl; have nE3 := HE17.out.c 3 _ rfl; have nE4 := HE17.out.c 4 _ rfl; have nE5 := HE17.out.c 5 _ rfl; have nE6 := HE17.out.c 6 _ rfl; have nE7 := HE17.out.c 7 _ rfl; have nE8 := HE17.out.c 8 _ rfl; have nE9 := HE17.out.c 9 _ rfl; have nE10 := HE17.out.c 10 _ rfl; have hltEn := HE17.out.lt
                 have nRb10 := HRb117.out.c 0 _ rfl; have nRb11 := HRb117.out.c 1 _ rfl; have nRb12 := HRb117.out.c 2 _ rfl; have nRb13 := HRb117.out.c 3 _ rfl; have nRb14 := HRb117.out.c 4 _ rfl; have nRb15 := HRb117.out.c 5 _ rfl; have nRb16 := HRb117.out.c 6 _ rfl; have hltRb1n := HRb117.out.lt
                 clear hb hW)
              | (go_at_call 11
                 refine (HRU.out b ((m : Int)) _ (Below.next HB16.out (box1 w16 (.cells #[.int .i64 0, .int .i64 0, .string ⟨#[]⟩, .int .i64 0, .int .i64 0, .slice none 0 0, .int .i64 0] 36))) Ap cp (HP16.out.next (box1 w16 (.cells #[.int .i64 0, .int .i64 0, .string ⟨#[]⟩, .int .i64 0, .int .i64 0, .slice none 0 0, .int .i64 0] 36))) (by omega)).mono ?_
                 rintro eo w17 ⟨hb, hq⟩
                 rw [hx] at hq
                 have hW : Below w16.heap.size w16 _ := box1 w16 (.cells #[.int .i64 0, .int .i64 0, .string ⟨#[]⟩, .int .i64 0, .int .i64 0, .slice none 0 0, .int .i64 0] 36)
                 obtain ⟨A2, c2, ho, rfl⟩ := hq
                 have HN17 : Hid (Prs w17 A2 S2.out) := Prs.of_own ho
                 have HF := Lib.hid (own_far (lo := w16.heap.size) ho (by rw [World.size_alloc]; omega))
                 clear ho
                 have HB17 := Lib.hid (Below.next (Below.next HB16.out (box1 w16 (.cells #[.int .i64 0, .int .i64 0, .string ⟨#[]⟩, .int .i64 0, .int .i64 0, .slice none 0 0, .int .i64 0] 36))) hb)
                 have HE17 := Lib.hid ((HE16.out.next hW).next hb)
                 have HL17 := Lib.hid ((HL16.out.next hW).next hb)
                 have HRb117 := Lib.hid ((HRb116.out.next hW).next hb)
                 have HS17 := Lib.hid ((HS16.out.next hW).next hb)
                 have HZ17 : Hid (Blk w17 w16.heap.size rz7) := (Blk.made w16 36 rz7 rfl).next hb
                 try (have zc0 := HZ17.out.c 0 _ rfl; have zf0 := HZ17.out.f 0 _ rfl; have zc1 := HZ17.out.c 1 _ rfl; have zf1 := HZ17.out.f 1 _ rfl; have zc2 := HZ17.out.c 2 _ rfl; have zf2 := HZ17.out.f 2 _ rfl; have zc3 := HZ17.out.c 3 _ rfl; have zf3 := HZ17.out.f 3 _ rfl; have zc4 := HZ17.out.c 4 _ rfl; have zf4 := HZ17.out.f 4 _ rfl; have zc5 := HZ17.out.c 5 _ rfl; have zf5 := HZ17.out.f 5 _ rfl; have zc6 := HZ17.out.c 6 _ rfl; have zf6 := HZ17.out.f 6 _ rfl)
                 try (have hltz := HZ17.out.lt)
                 have hszn : w16.heap.size ≤ w17.heap.size := Nat.le_trans hW.size hb.size
                 have nE0 := HE17.out.c 0 _ rfl; have nE1 := HE17.out.c 1 _ rfl; have nE2 := HE17.out.c 2 _ rfl; have nE3 := HE17.out.c 3 _ rfl; have nE4 := HE17.out.c 4 _ rfl; have nE5 := HE17.out.c 5 _ rfl; have nE6 := HE17.out.c 6 _ rfl; have nE7 := HE17.out.c 7 _ rfl; have nE8 := HE17.out.c 8 _ rfl; have nE9 := HE17.out.c 9 _ rfl; have nE10 := HE17.out.c 10 _ rfl; have hltEn := HE17.out.lt
                 have nRb10 := HRb117.out.c 0 _ rfl; have nRb11 := HRb117.out.c 1 _ rfl; have nRb12 := HRb117.out.c 2 _ rfl; have nRb13 := HRb117.out.c 3 _ rfl; have nRb14 := HRb117.out.c 4 _ rfl; have nRb15 := HRb117.out.c 5 _ rfl; have nRb16 := HRb117.out.c 6 _ rfl; have hltRb1n := HRb117.out.lt
                 clear hb hW))
            all_goals (rename_i hHd; clear hHd)
            all_goals go_wp2_with fail
            all_goals go_meet
            · exact ⟨w17.heap.size, A2, c2, rfl, rfl, Below.next HB17.out (box1 w17 _), HE17.out.next (box1 w17 _), HL17.out.next (box1 w17 _), HRb117.out.next (box1 w17 _), HS17.out.next (box1 w17 _), Blk.made w17 36 [.int .i64 t.k, .int .i64 t.n, .string (tx t.s), .int .i64 t.x, .int .i64 t.y, .slice A2 S2.out.length c2, .int .i64 (j : Int)] rfl, HN17.out.next (box1 w17 _)⟩
            · have hp : (((((((w17.setCell ⟨w16.heap.size, 0, none⟩ (.int .i64 t.k)).setCell ⟨w16.heap.size, 1, none⟩ (.int .i64 t.n)).setCell ⟨w16.heap.size, 2, none⟩ (.string (tx t.s))).setCell ⟨w16.heap.size, 3, none⟩ (.int .i64 t.x)).setCell ⟨w16.heap.size, 4, none⟩ (.int .i64 t.y)).setCell ⟨w16.heap.size, 5, none⟩ (.slice A2 S2.out.length c2)).setCell ⟨w16.heap.size, 6, none⟩ (.int .i64 (j : Int))) = putL w17 w16.heap.size 0 [.int .i64 t.k, .int .i64 t.n, .string (tx t.s), .int .i64 t.x, .int .i64 t.y, .slice A2 S2.out.length c2, .int .i64 (j : Int)] := rfl
              rw [hp]
              clear hp
              have hzle : w15.heap.size ≤ w16.heap.size := by omega
              have k1 := below_puts (B := w16.heap.size) [.int .i64 t.k, .int .i64 t.n, .string (tx t.s), .int .i64 t.x, .int .i64 t.y, .slice A2 S2.out.length c2, .int .i64 (j : Int)] 0 HB17.out (by have := HB15.out.size; omega)
              have kE := blk_puts_other (C := w16.heap.size) (by omega) [.int .i64 t.k, .int .i64 t.n, .string (tx t.s), .int .i64 t.x, .int .i64 t.y, .slice A2 S2.out.length c2, .int .i64 (j : Int)] 0 HE17.out
              have kL := nds_far (z := w16.heap.size) HL15.out HL17.out hzle [.int .i64 t.k, .int .i64 t.n, .string (tx t.s), .int .i64 t.x, .int .i64 t.y, .slice A2 S2.out.length c2, .int .i64 (j : Int)] 0
              have kRb1 := blk_puts_other (C := w16.heap.size) (by omega) [.int .i64 t.k, .int .i64 t.n, .string (tx t.s), .int .i64 t.x, .int .i64 t.y, .slice A2 S2.out.length c2, .int .i64 (j : Int)] 0 HRb117.out
              have kS := prs_far (z := w16.heap.size) HS15.out HS17.out hzle [.int .i64 t.k, .int .i64 t.n, .string (tx t.s), .int .i64 t.x, .int .i64 t.y, .slice A2 S2.out.length c2, .int .i64 (j : Int)] 0
              have kz : Blk (putL w17 w16.heap.size 0 [.int .i64 t.k, .int .i64 t.n, .string (tx t.s), .int .i64 t.x, .int .i64 t.y, .slice A2 S2.out.length c2, .int .i64 (j : Int)]) w16.heap.size [.int .i64 t.k, .int .i64 t.n, .string (tx t.s), .int .i64 t.x, .int .i64 t.y, .slice A2 S2.out.length c2, .int .i64 (j : Int)] := blk_puts [.int .i64 t.k, .int .i64 t.n, .string (tx t.s), .int .i64 t.x, .int .i64 t.y, .slice A2 S2.out.length c2, .int .i64 (j : Int)] 0 HZ17.out (Nat.le_refl 7)
              have kn := prs_puts (z := w16.heap.size) [.int .i64 t.k, .int .i64 t.n, .string (tx t.s), .int .i64 t.x, .int .i64 t.y, .slice A2 S2.out.length c2, .int .i64 (j : Int)] 0 HN17.out HF.out
              generalize putL w17 w16.heap.size 0 [.int .i64 t.k, .int .i64 t.n, .string (tx t.s), .int .i64 t.x, .int .i64 t.y, .slice A2 S2.out.length c2, .int .i64 (j : Int)] = wq at *
              exact ⟨w16.heap.size, A2, c2, rfl, rfl, k1, kE, kL, kRb1, kS, kz, kn⟩
            · have hp : (((((((w17.setCell ⟨w15.heap.size, 0, none⟩ (.int .i64 t.k)).setCell ⟨w15.heap.size, 1, none⟩ (.int .i64 t.n)).setCell ⟨w15.heap.size, 2, none⟩ (.string (tx t.s))).setCell ⟨w15.heap.size, 3, none⟩ (.int .i64 t.x)).setCell ⟨w15.heap.size, 4, none⟩ (.int .i64 t.y)).setCell ⟨w15.heap.size, 5, none⟩ (.slice A2 S2.out.length c2)).setCell ⟨w15.heap.size, 6, none⟩ (.int .i64 (j : Int))) = putL w17 w15.heap.size 0 [.int .i64 t.k, .int .i64 t.n, .string (tx t.s), .int .i64 t.x, .int .i64 t.y, .slice A2 S2.out.length c2, .int .i64 (j : Int)] := rfl
              rw [hp]
              clear hp
              have hzle : w15.heap.size ≤ w15.heap.size := by omega
              have k1 := below_puts (B := w15.heap.size) [.int .i64 t.k, .int .i64 t.n, .string (tx t.s), .int .i64 t.x, .int .i64 t.y, .slice A2 S2.out.length c2, .int .i64 (j : Int)] 0 HB17.out (by have := HB15.out.size; omega)
              have kE := blk_puts_other (C := w15.heap.size) (by omega) [.int .i64 t.k, .int .i64 t.n, .string (tx t.s), .int .i64 t.x, .int .i64 t.y, .slice A2 S2.out.length c2, .int .i64 (j : Int)] 0 HE17.out
              have kL := nds_far (z := w15.heap.size) HL15.out HL17.out hzle [.int .i64 t.k, .int .i64 t.n, .string (tx t.s), .int .i64 t.x, .int .i64 t.y, .slice A2 S2.out.length c2, .int .i64 (j : Int)] 0
              have kRb1 := blk_puts_other (C := w15.heap.size) (by omega) [.int .i64 t.k, .int .i64 t.n, .string (tx t.s), .int .i64 t.x, .int .i64 t.y, .slice A2 S2.out.length c2, .int .i64 (j : Int)] 0 HRb117.out
              have kS := prs_far (z := w15.heap.size) HS15.out HS17.out hzle [.int .i64 t.k, .int .i64 t.n, .string (tx t.s), .int .i64 t.x, .int .i64 t.y, .slice A2 S2.out.length c2, .int .i64 (j : Int)] 0
              have kz : Blk (putL w17 w15.heap.size 0 [.int .i64 t.k, .int .i64 t.n, .string (tx t.s), .int .i64 t.x, .int .i64 t.y, .slice A2 S2.out.length c2, .int .i64 (j : Int)]) w15.heap.size [.int .i64 t.k, .int .i64 t.n, .string (tx t.s), .int .i64 t.x, .int .i64 t.y, .slice A2 S2.out.length c2, .int .i64 (j : Int)] := blk_puts [.int .i64 t.k, .int .i64 t.n, .string (tx t.s), .int .i64 t.x, .int .i64 t.y, .slice A2 S2.out.length c2, .int .i64 (j : Int)] 0 HZ17.out (Nat.le_refl 7)
              have kn := prs_puts (z := w15.heap.size) [.int .i64 t.k, .int .i64 t.n, .string (tx t.s), .int .i64 t.x, .int .i64 t.y, .slice A2 S2.out.length c2, .int .i64 (j : Int)] 0 HN17.out HF.out
              generalize putL w17 w15.heap.size 0 [.int .i64 t.k, .int .i64 t.n, .string (tx t.s), .int .i64 t.x, .int .i64 t.y, .slice A2 S2.out.length c2, .int .i64 (j : Int)] = wq at *
              exact ⟨w15.heap.size, A2, c2, rfl, rfl, k1, kE, kL, kRb1, kS, kz, kn⟩
          case rest =>
          obtain ⟨b2, A2, c2, rfl, rfl, hB, hE, hL, hRb1, hS, hbx, hN⟩ := hcut
          have HB16 := Lib.hid hB; have HE16 := Lib.hid hE; have HL16 := Lib.hid hL; have HRb116 := Lib.hid hRb1; have HS16 := Lib.hid hS; have HRb216 := Lib.hid hbx; have HT16 := Lib.hid hN
          clear hB hE hL hRb1 hS hbx hN HB15 HE15 HL15 HRb115 HS15
          generalize wc = w16 at *
          go_upto_region 14 with fail
          go_cut [15, 16] from 101 to 107 (fun sr se wx => ∃ (b3 : Nat), sr = .pointer (some ⟨b3, 0, none⟩) ∧ se = .int .i64 (22 : Int) ∧ Below w.heap.size w wx ∧ Blk wx w.heap.size [.string (tx k), .int .i64 v.k, .int .i64 v.n, .string (tx v.s), .int .i64 v.x, .int .i64 v.y, .int .i64 e.k, .int .i64 e.n, .string (tx e.s), .int .i64 e.x, .int .i64 e.y] ∧ Nds wx Al (ifL a b c) ∧ Blk wx b1 [.int .i64 u.k, .int .i64 u.n, .string (tx u.s), .int .i64 u.x, .int .i64 u.y, .slice Ao S.out.length co, .int .i64 (m : Int)] ∧ Prs wx Ao S.out ∧ Blk wx b2 [.int .i64 t.k, .int .i64 t.n, .string (tx t.s), .int .i64 t.x, .int .i64 t.y, .slice A2 S2.out.length c2, .int .i64 (j : Int)] ∧ Prs wx A2 S2.out ∧ Blk wx b3 [.int .i64 0, .int .i64 0, .string ⟨#[]⟩, .int .i64 0, .int .i64 0, .slice none 0 0, .int .i64 0] ∧ (22 : Int) ≠ 0)
          case first =>
            have hltE_ := HE16.out.lt
            have qE0 := HE16.out.c 0 _ rfl
            have qE1 := HE16.out.c 1 _ rfl
            have qE2 := HE16.out.c 2 _ rfl
            have qE3 := HE16.out.c 3 _ rfl
            have qE4 := HE16.out.c 4 _ rfl
            have qE5 := HE16.out.c 5 _ rfl
            have qE6 := HE16.out.c 6 _ rfl
            have qE7 := HE16.out.c 7 _ rfl
            have qE8 := HE16.out.c 8 _ rfl
            have qE9 := HE16.out.c 9 _ rfl
            have qE10 := HE16.out.c 10 _ rfl
            have hltRb1_ := HRb116.out.lt
            have qRb10 := HRb116.out.c 0 _ rfl
            have qRb11 := HRb116.out.c 1 _ rfl
            have qRb12 := HRb116.out.c 2 _ rfl
            have qRb13 := HRb116.out.c 3 _ rfl
            have qRb14 := HRb116.out.c 4 _ rfl
            have qRb15 := HRb116.out.c 5 _ rfl
            have qRb16 := HRb116.out.c 6 _ rfl
            have hltRb2_ := HRb216.out.lt
            have qRb20 := HRb216.out.c 0 _ rfl
            have qRb21 := HRb216.out.c 1 _ rfl
            have qRb22 := HRb216.out.c 2 _ rfl
            have qRb23 := HRb216.out.c 3 _ rfl
            have qRb24 := HRb216.out.c 4 _ rfl
            have qRb25 := HRb216.out.c 5 _ rfl
            have qRb26 := HRb216.out.c 6 _ rfl
            go_region_held3 (fun w' => w'.cell? ⟨w.heap.size, 0, none⟩ = some (.string (tx k)) ∧ w'.cell? ⟨w.heap.size, 1, none⟩ = some (.int .i64 v.k) ∧ w'.cell? ⟨w.heap.size, 2, none⟩ = some (.int .i64 v.n) ∧ w'.cell? ⟨w.heap.size, 3, none⟩ = some (.string (tx v.s)) ∧ w'.cell? ⟨w.heap.size, 4, none⟩ = some (.int .i64 v.x) ∧ w'.cell? ⟨w.heap.size, 5, none⟩ = some (.int .i64 v.y) ∧ w'.cell? ⟨w.heap.size, 6, none⟩ = some (.int .i64 e.k) ∧ w'.cell? ⟨w.heap.size, 7, none⟩ = some (.int .i64 e.n) ∧ w'.cell? ⟨w.heap.size, 8, none⟩ = some (.string (tx e.s)) ∧ w'.cell? ⟨w.heap.size, 9, none⟩ = some (.int .i64 e.x) ∧ w'.cell? ⟨w.heap.size, 10, none⟩ = some (.int .i64 e.y)) (go_keep)
              (first
              | (go_at_call 10
                 refine (of_any (ifL a b c) Al cl _ (HL16.out.next (below_drewN (Below.refl w16.heap.size w16) 1)) hll).mono ?_
                 rintro eo w17 ⟨Ap, cp, rfl, hop, hb⟩
                 have hW : Below w16.heap.size w16 _ := below_drewN (Below.refl _ _) 1
                 have HB17 := Lib.hid (Below.next (below_drewN HB16.out 1) hb)
                 have HE17 := Lib.hid ((HE16.out.next hW).next hb)
                 have HL17 := Lib.hid ((HL16.out.next hW).next hb)
                 have HRb117 := Lib.hid ((HRb116.out.next hW).next hb)
                 have HS17 := Lib.hid ((HS16.out.next hW).next hb)
                 have HRb217 := Lib.hid ((HRb216.out.next hW).next hb)
                 have HT17 := Lib.hid ((HT16.out.next hW).next hb)
                 have HP17 : Hid (Nds w17 Ap (ifL a b c)) := Nds.of_own hop
                 have hszm : w16.heap.size ≤ w17.heap.size := Nat.le_trans hW.size hb.size
                 have hneE1 : w16.heap.size ≠ w.heap.size := by have := HE16.out.lt; omega
                 have hneE2 : w17.heap.size ≠ w.heap.size := by have := HE17.out.lt; omega
                 have hneRb11 : w16.heap.size ≠ b1 := by have := HRb116.out.lt; omega
                 have hneRb12 : w17.heap.size ≠ b1 := by have := HRb117.out.lt; omega
                 have hneRb21 : w16.heap.size ≠ b2 := by have := HRb216.out.lt; omega
                 have hneRb22 : w17.heap.size ≠ b2 := by have := HRb217.out.lt; omega
                 have mE0 := HE17.out.c 0 _ rfl; have mE1 := HE17.out.c 1 _ rfl; have mE2 := HE17.out.c 2 _ rfl; have mE3 := HE17.out.c 3 _ rfl; have mE4 := HE17.out.c 4 _ rfl; have mE5 := HE17.out.c 5 _ rfl; have mE6 := HE17.out.c 6 _ rfl; have mE7 := HE17.out.c 7 _ rfl; have mE8 := HE17.out.c 8 _ rfl; have mE9 := HE17.out.c 9 _ rfl; have mE10 := HE17.out.c 10 _ rfl; have hltEm := HE17.out.lt
                 have mRb10 := HRb117.out.c 0 _ rfl; have mRb11 := HRb117.out.c 1 _ rfl; have mRb12 := HRb117.out.c 2 _ rfl; have mRb13 := HRb117.out.c 3 _ rfl; have mRb14 := HRb117.out.c 4 _ rfl; have mRb15 := HRb117.out.c 5 _ rfl; have mRb16 := HRb117.out.c 6 _ rfl; have hltRb1m := HRb117.out.lt
                 have mRb20 := HRb217.out.c 0 _ rfl; have mRb21 := HRb217.out.c 1 _ rfl; have mRb22 := HRb217.out.c 2 _ rfl; have mRb23 := HRb217.out.c 3 _ rfl; have mRb24 := HRb217.out.c 4 _ rfl; have mRb25 := HRb217.out.c 5 _ rfl; have mRb26 := HRb217.out.c 6 _ rfl; have hltRb2m := HRb217.out.lt
                 clear hop hb hW)
              | (go_at_call 10
                 refine (of_any (ifL a b c) Al cl _ (HL16.out.next ((below_drewN (Below.refl w16.heap.size w16) 1).alloc (Nat.le_refl _) (.cells #[.int .i64 0, .int .i64 0, .string ⟨#[]⟩, .int .i64 0, .int .i64 0, .slice none 0 0, .int .i64 0] 36))) hll).mono ?_
                 rintro eo w17 ⟨Ap, cp, rfl, hop, hb⟩
                 have hW : Below w16.heap.size w16 _ := (below_drewN (Below.refl _ _) 1).alloc (Nat.le_refl _) (.cells #[.int .i64 0, .int .i64 0, .string ⟨#[]⟩, .int .i64 0, .int .i64 0, .slice none 0 0, .int .i64 0] 36)
                 have HB17 := Lib.hid (Below.next ((below_drewN HB16.out 1).alloc HB16.out.size (.cells #[.int .i64 0, .int .i64 0, .string ⟨#[]⟩, .int .i64 0, .int .i64 0, .slice none 0 0, .int .i64 0] 36)) hb)
                 have HE17 := Lib.hid ((HE16.out.next hW).next hb)
                 have HL17 := Lib.hid ((HL16.out.next hW).next hb)
                 have HRb117 := Lib.hid ((HRb116.out.next hW).next hb)
                 have HS17 := Lib.hid ((HS16.out.next hW).next hb)
                 have HRb217 := Lib.hid ((HRb216.out.next hW).next hb)
                 have HT17 := Lib.hid ((HT16.out.next hW).next hb)
                 have HP17 : Hid (Nds w17 Ap (ifL a b c)) := Nds.of_own hop
                 have hszm : w16.heap.size ≤ w17.heap.size := Nat.le_trans hW.size hb.size
                 have hneE1 : w16.heap.size ≠ w.heap.size := by have := HE16.out.lt; omega
                 have hneE2 : w17.heap.size ≠ w.heap.size := by have := HE17.out.lt; omega
                 have hneRb11 : w16.heap.size ≠ b1 := by have := HRb116.out.lt; omega
                 have hneRb12 : w17.heap.size ≠ b1 := by have := HRb117.out.lt; omega
                 have hneRb21 : w16.heap.size ≠ b2 := by have := HRb216.out.lt; omega
                 have hneRb22 : w17.heap.size ≠ b2 := by have := HRb217.out.lt; omega
                 have HZ17 : Hid (Blk w17 w16.heap.size rz7) := (Blk.made (w16.drewN 1) 36 rz7 rfl).next hb
                 have hzlt := HZ17.out.lt
                 have mE0 := HE17.out.c 0 _ rfl; have mE1 := HE17.out.c 1 _ rfl; have mE2 := HE17.out.c 2 _ rfl; have mE3 := HE17.out.c 3 _ rfl; have mE4 := HE17.out.c 4 _ rfl; have mE5 := HE17.out.c 5 _ rfl; have mE6 := HE17.out.c 6 _ rfl; have mE7 := HE17.out.c 7 _ rfl; have mE8 := HE17.out.c 8 _ rfl; have mE9 := HE17.out.c 9 _ rfl; have mE10 := HE17.out.c 10 _ rfl; have hltEm := HE17.out.lt
                 have mRb10 := HRb117.out.c 0 _ rfl; have mRb11 := HRb117.out.c 1 _ rfl; have mRb12 := HRb117.out.c 2 _ rfl; have mRb13 := HRb117.out.c 3 _ rfl; have mRb14 := HRb117.out.c 4 _ rfl; have mRb15 := HRb117.out.c 5 _ rfl; have mRb16 := HRb117.out.c 6 _ rfl; have hltRb1m := HRb117.out.lt
                 have mRb20 := HRb217.out.c 0 _ rfl; have mRb21 := HRb217.out.c 1 _ rfl; have mRb22 := HRb217.out.c 2 _ rfl; have mRb23 := HRb217.out.c 3 _ rfl; have mRb24 := HRb217.out.c 4 _ rfl; have mRb25 := HRb217.out.c 5 _ rfl; have mRb26 := HRb217.out.c 6 _ rfl; have hltRb2m := HRb217.out.lt
                 clear hop hb hW)
              | (go_at_call 11
                 refine (HRU.out (ifL a b c) (3001) _ HB17.out Ap cp HP17.out (by omega)).mono ?_
                 rintro eo w18 ⟨hb, hq⟩
                 rw [hy] at hq
                 have hW : Below w17.heap.size w17 _ := Below.refl _ _
                 obtain ⟨hx0, rfl⟩ := hq
                 have HX0 := Lib.hid hx0
                 clear hx0
                 have HB18 := Lib.hid (Below.next HB17.out hb)
                 have HE18 := Lib.hid ((HE17.out.next hW).next hb)
                 have HL18 := Lib.hid ((HL17.out.next hW).next hb)
                 have HRb118 := Lib.hid ((HRb117.out.next hW).next hb)
                 have HS18 := Lib.hid ((HS17.out.next hW).next hb)
                 have HRb218 := Lib.hid ((HRb217.out.next hW).next hb)
                 have HT18 := Lib.hid ((HT17.out.next hW).next hb)
                 try have HZ18 := Lib.hid (HZ17.out.next hb)
                 try (have zc0 := HZ18.out.c 0 _ rfl; have zf0 := HZ18.out.f 0 _ rfl; have zc1 := HZ18.out.c 1 _ rfl; have zf1 := HZ18.out.f 1 _ rfl; have zc2 := HZ18.out.c 2 _ rfl; have zf2 := HZ18.out.f 2 _ rfl; have zc3 := HZ18.out.c 3 _ rfl; have zf3 := HZ18.out.f 3 _ rfl; have zc4 := HZ18.out.c 4 _ rfl; have zf4 := HZ18.out.f 4 _ rfl; have zc5 := HZ18.out.c 5 _ rfl; have zf5 := HZ18.out.f 5 _ rfl; have zc6 := HZ18.out.c 6 _ rfl; have zf6 := HZ18.out.f 6 _ rfl)
                 try (have hltz := HZ18.out.lt)
                 have hszn : w17.heap.size ≤ w18.heap.size := Nat.le_trans hW.size hb.size
                 have nE0 := HE18.out.c 0 _ rfl; have nE1 := HE18.out.c 1 _ rfl; have nE2 := HE18.out.c 2 _ rfl; have nE3 := HE18.out.c 3 _ rfl; have nE4 := HE18.out.c 4 _ rfl; have nE5 := HE18.out.c 5 _ rfl; have nE6 := HE18.out.c 6 _ rfl; have nE7 := HE18.out.c 7 _ rfl; have nE8 := HE18.out.c 8 _ rfl; have nE9 := HE18.out.c 9 _ rfl; have nE10 := HE18.out.c 10 _ rfl; have hltEn := HE18.out.lt
                 have nRb10 := HRb118.out.c 0 _ rfl; have nRb11 := HRb118.out.c 1 _ rfl; have nRb12 := HRb118.out.c 2 _ rfl; have nRb13 := HRb118.out.c 3 _ rfl; have nRb14 := HRb118.out.c 4 _ rfl; have nRb15 := HRb118.out.c 5 _ rfl; have nRb16 := HRb118.out.c 6 _ rfl; have hltRb1n := HRb118.out.lt
                 have nRb20 := HRb218.out.c 0 _ rfl; have nRb21 := HRb218.out.c 1 _ rfl; have nRb22 := HRb218.out.c 2 _ rfl; have nRb23 := HRb218.out.c 3 _ rfl; have nRb24 := HRb218.out.c 4 _ rfl; have nRb25 := HRb218.out.c 5 _ rfl; have nRb26 := HRb218.out.c 6 _ rfl; have hltRb2n := HRb218.out.lt
                 clear hb hW)
              | (go_at_call 11
                 refine (HRU.out (ifL a b c) (3001) _ (Below.next HB17.out (box1 w17 (.cells #[.int .i64 0, .int .i64 0, .string ⟨#[]⟩, .int .i64 0, .int .i64 0, .slice none 0 0, .int .i64 0] 36))) Ap cp (HP17.out.next (box1 w17 (.cells #[.int .i64 0, .int .i64 0, .string ⟨#[]⟩, .int .i64 0, .int .i64 0, .slice none 0 0, .int .i64 0] 36))) (by omega)).mono ?_
                 rintro eo w18 ⟨hb, hq⟩
                 rw [hy] at hq
                 have hW : Below w17.heap.size w17 _ := box1 w17 (.cells #[.int .i64 0, .int .i64 0, .string ⟨#[]⟩, .int .i64 0, .int .i64 0, .slice none 0 0, .int .i64 0] 36)
                 obtain ⟨hx0, rfl⟩ := hq
                 have HX0 := Lib.hid hx0
                 clear hx0
                 have HB18 := Lib.hid (Below.next (Below.next HB17.out (box1 w17 (.cells #[.int .i64 0, .int .i64 0, .string ⟨#[]⟩, .int .i64 0, .int .i64 0, .slice none 0 0, .int .i64 0] 36))) hb)
                 have HE18 := Lib.hid ((HE17.out.next hW).next hb)
                 have HL18 := Lib.hid ((HL17.out.next hW).next hb)
                 have HRb118 := Lib.hid ((HRb117.out.next hW).next hb)
                 have HS18 := Lib.hid ((HS17.out.next hW).next hb)
                 have HRb218 := Lib.hid ((HRb217.out.next hW).next hb)
                 have HT18 := Lib.hid ((HT17.out.next hW).next hb)
                 have HZ18 : Hid (Blk w18 w17.heap.size rz7) := (Blk.made w17 36 rz7 rfl).next hb
                 try (have zc0 := HZ18.out.c 0 _ rfl; have zf0 := HZ18.out.f 0 _ rfl; have zc1 := HZ18.out.c 1 _ rfl; have zf1 := HZ18.out.f 1 _ rfl; have zc2 := HZ18.out.c 2 _ rfl; have zf2 := HZ18.out.f 2 _ rfl; have zc3 := HZ18.out.c 3 _ rfl; have zf3 := HZ18.out.f 3 _ rfl; have zc4 := HZ18.out.c 4 _ rfl; have zf4 := HZ18.out.f 4 _ rfl; have zc5 := HZ18.out.c 5 _ rfl; have zf5 := HZ18.out.f 5 _ rfl; have zc6 := HZ18.out.c 6 _ rfl; have zf6 := HZ18.out.f 6 _ rfl)
                 try (have hltz := HZ18.out.lt)
                 have hszn : w17.heap.size ≤ w18.heap.size := Nat.le_trans hW.size hb.size
                 have nE0 := HE18.out.c 0 _ rfl; have nE1 := HE18.out.c 1 _ rfl; have nE2 := HE18.out.c 2 _ rfl; have nE3 := HE18.out.c 3 _ rfl; have nE4 := HE18.out.c 4 _ rfl; have nE5 := HE18.out.c 5 _ rfl; have nE6 := HE18.out.c 6 _ rfl; have nE7 := HE18.out.c 7 _ rfl; have nE8 := HE18.out.c 8 _ rfl; have nE9 := HE18.out.c 9 _ rfl; have nE10 := HE18.out.c 10 _ rfl; have hltEn := HE18.out.lt
                 have nRb10 := HRb118.out.c 0 _ rfl; have nRb11 := HRb118.out.c 1 _ rfl; have nRb12 := HRb118.out.c 2 _ rfl; have nRb13 := HRb118.out.c 3 _ rfl; have nRb14 := HRb118.out.c 4 _ rfl; have nRb15 := HRb118.out.c 5 _ rfl; have nRb16 := HRb118.out.c 6 _ rfl; have hltRb1n := HRb118.out.lt
                 have nRb20 := HRb218.out.c 0 _ rfl; have nRb21 := HRb218.out.c 1 _ rfl; have nRb22 := HRb218.out.c 2 _ rfl; have nRb23 := HRb218.out.c 3 _ rfl; have nRb24 := HRb218.out.c 4 _ rfl; have nRb25 := HRb218.out.c 5 _ rfl; have nRb26 := HRb218.out.c 6 _ rfl; have hltRb2n := HRb218.out.lt
                 clear hb hW))
            all_goals (rename_i hHd; clear hHd)
            all_goals go_wp2_with fail
            all_goals go_meet
            · exact ⟨w18.heap.size, rfl, rfl, Below.next HB18.out (box1 w18 _), HE18.out.next (box1 w18 _), HL18.out.next (box1 w18 _), HRb118.out.next (box1 w18 _), HS18.out.next (box1 w18 _), HRb218.out.next (box1 w18 _), HT18.out.next (box1 w18 _), Blk.made w18 36 [.int .i64 0, .int .i64 0, .string ⟨#[]⟩, .int .i64 0, .int .i64 0, .slice none 0 0, .int .i64 0] rfl, HX0.out⟩
            · have hp : (((((((w18.setCell ⟨w17.heap.size, 0, none⟩ (.int .i64 0)).setCell ⟨w17.heap.size, 1, none⟩ (.int .i64 0)).setCell ⟨w17.heap.size, 2, none⟩ (.string ⟨#[]⟩)).setCell ⟨w17.heap.size, 3, none⟩ (.int .i64 0)).setCell ⟨w17.heap.size, 4, none⟩ (.int .i64 0)).setCell ⟨w17.heap.size, 5, none⟩ (.slice none 0 0)).setCell ⟨w17.heap.size, 6, none⟩ (.int .i64 0)) = putL w18 w17.heap.size 0 [.int .i64 0, .int .i64 0, .string ⟨#[]⟩, .int .i64 0, .int .i64 0, .slice none 0 0, .int .i64 0] := rfl
              rw [hp]
              clear hp
              have hzle : w16.heap.size ≤ w17.heap.size := by omega
              have k1 := below_puts (B := w17.heap.size) [.int .i64 0, .int .i64 0, .string ⟨#[]⟩, .int .i64 0, .int .i64 0, .slice none 0 0, .int .i64 0] 0 HB18.out (by have := HB16.out.size; omega)
              have kE := blk_puts_other (C := w17.heap.size) (by omega) [.int .i64 0, .int .i64 0, .string ⟨#[]⟩, .int .i64 0, .int .i64 0, .slice none 0 0, .int .i64 0] 0 HE18.out
              have kL := nds_far (z := w17.heap.size) HL16.out HL18.out hzle [.int .i64 0, .int .i64 0, .string ⟨#[]⟩, .int .i64 0, .int .i64 0, .slice none 0 0, .int .i64 0] 0
              have kRb1 := blk_puts_other (C := w17.heap.size) (by omega) [.int .i64 0, .int .i64 0, .string ⟨#[]⟩, .int .i64 0, .int .i64 0, .slice none 0 0, .int .i64 0] 0 HRb118.out
              have kS := prs_far (z := w17.heap.size) HS16.out HS18.out hzle [.int .i64 0, .int .i64 0, .string ⟨#[]⟩, .int .i64 0, .int .i64 0, .slice none 0 0, .int .i64 0] 0
              have kRb2 := blk_puts_other (C := w17.heap.size) (by omega) [.int .i64 0, .int .i64 0, .string ⟨#[]⟩, .int .i64 0, .int .i64 0, .slice none 0 0, .int .i64 0] 0 HRb218.out
              have kT := prs_far (z := w17.heap.size) HT16.out HT18.out hzle [.int .i64 0, .int .i64 0, .string ⟨#[]⟩, .int .i64 0, .int .i64 0, .slice none 0 0, .int .i64 0] 0
              have kz : Blk (putL w18 w17.heap.size 0 [.int .i64 0, .int .i64 0, .string ⟨#[]⟩, .int .i64 0, .int .i64 0, .slice none 0 0, .int .i64 0]) w17.heap.size [.int .i64 0, .int .i64 0, .string ⟨#[]⟩, .int .i64 0, .int .i64 0, .slice none 0 0, .int .i64 0] := blk_puts [.int .i64 0, .int .i64 0, .string ⟨#[]⟩, .int .i64 0, .int .i64 0, .slice none 0 0, .int .i64 0] 0 HZ18.out (Nat.le_refl 7)
              generalize putL w18 w17.heap.size 0 [.int .i64 0, .int .i64 0, .string ⟨#[]⟩, .int .i64 0, .int .i64 0, .slice none 0 0, .int .i64 0] = wq at *
              exact ⟨w17.heap.size, rfl, rfl, k1, kE, kL, kRb1, kS, kRb2, kT, kz, HX0.out⟩
            · have hp : (((((((w18.setCell ⟨w16.heap.size, 0, none⟩ (.int .i64 0)).setCell ⟨w16.heap.size, 1, none⟩ (.int .i64 0)).setCell ⟨w16.heap.size, 2, none⟩ (.string ⟨#[]⟩)).setCell ⟨w16.heap.size, 3, none⟩ (.int .i64 0)).setCell ⟨w16.heap.size, 4, none⟩ (.int .i64 0)).setCell ⟨w16.heap.size, 5, none⟩ (.slice none 0 0)).setCell ⟨w16.heap.size, 6, none⟩ (.int .i64 0)) = putL w18 w16.heap.size 0 [.int .i64 0, .int .i64 0, .string ⟨#[]⟩, .int .i64 0, .int .i64 0, .slice none 0 0, .int .i64 0] := rfl
              rw [hp]
              clear hp
              have hzle : w16.heap.size ≤ w16.heap.size := by omega
              have k1 := below_puts (B := w16.heap.size) [.int .i64 0, .int .i64 0, .string ⟨#[]⟩, .int .i64 0, .int .i64 0, .slice none 0 0, .int .i64 0] 0 HB18.out (by have := HB16.out.size; omega)
              have kE := blk_puts_other (C := w16.heap.size) (by omega) [.int .i64 0, .int .i64 0, .string ⟨#[]⟩, .int .i64 0, .int .i64 0, .slice none 0 0, .int .i64 0] 0 HE18.out
              have kL := nds_far (z := w16.heap.size) HL16.out HL18.out hzle [.int .i64 0, .int .i64 0, .string ⟨#[]⟩, .int .i64 0, .int .i64 0, .slice none 0 0, .int .i64 0] 0
              have kRb1 := blk_puts_other (C := w16.heap.size) (by omega) [.int .i64 0, .int .i64 0, .string ⟨#[]⟩, .int .i64 0, .int .i64 0, .slice none 0 0, .int .i64 0] 0 HRb118.out
              have kS := prs_far (z := w16.heap.size) HS16.out HS18.out hzle [.int .i64 0, .int .i64 0, .string ⟨#[]⟩, .int .i64 0, .int .i64 0, .slice none 0 0, .int .i64 0] 0
              have kRb2 := blk_puts_other (C := w16.heap.size) (by omega) [.int .i64 0, .int .i64 0, .string ⟨#[]⟩, .int .i64 0, .int .i64 0, .slice none 0 0, .int .i64 0] 0 HRb218.out
              have kT := prs_far (z := w16.heap.size) HT16.out HT18.out hzle [.int .i64 0, .int .i64 0, .string ⟨#[]⟩, .int .i64 0, .int .i64 0, .slice none 0 0, .int .i64 0] 0
              have kz : Blk (putL w18 w16.heap.size 0 [.int .i64 0, .int .i64 0, .string ⟨#[]⟩, .int .i64 0, .int .i64 0, .slice none 0 0, .int .i64 0]) w16.heap.size [.int .i64 0, .int .i64 0, .string ⟨#[]⟩, .int .i64 0, .int .i64 0, .slice none 0 0, .int .i64 0] := blk_puts [.int .i64 0, .int .i64 0, .string ⟨#[]⟩, .int .i64 0, .int .i64 0, .slice none 0 0, .int .i64 0] 0 HZ18.out (Nat.le_refl 7)
              generalize putL w18 w16.heap.size 0 [.int .i64 0, .int .i64 0, .string ⟨#[]⟩, .int .i64 0, .int .i64 0, .slice none 0 0, .int .i64 0] = wq at *
              exact ⟨w16.heap.size, rfl, rfl, k1, kE, kL, kRb1, kS, kRb2, kT, kz, HX0.out⟩
          case rest =>
          obtain ⟨b3, rfl, rfl, hB, hE, hL, hRb1, hS, hRb2, hT, hbx, hx0⟩ := hcut
          have HB17 := Lib.hid hB; have HE17 := Lib.hid hE; have HL17 := Lib.hid hL; have HRb117 := Lib.hid hRb1; have HS17 := Lib.hid hS; have HRb217 := Lib.hid hRb2; have HT17 := Lib.hid hT; have HRb317 := Lib.hid hbx
          clear hB hE hL hRb1 hS hRb2 hT hbx  HB16 HE16 HL16 HRb116 HS16 HRb216 HT16
          generalize wc = w17 at *
          have hltRb1_ := HRb117.out.lt
          have qRb10 := HRb117.out.c 0 _ rfl
          have qRb11 := HRb117.out.c 1 _ rfl
          have qRb12 := HRb117.out.c 2 _ rfl
          have qRb13 := HRb117.out.c 3 _ rfl
          have qRb14 := HRb117.out.c 4 _ rfl
          have qRb15 := HRb117.out.c 5 _ rfl
          have qRb16 := HRb117.out.c 6 _ rfl
          have hltRb2_ := HRb217.out.lt
          have qRb20 := HRb217.out.c 0 _ rfl
          have qRb21 := HRb217.out.c 1 _ rfl
          have qRb22 := HRb217.out.c 2 _ rfl
          have qRb23 := HRb217.out.c 3 _ rfl
          have qRb24 := HRb217.out.c 4 _ rfl
          have qRb25 := HRb217.out.c 5 _ rfl
          have qRb26 := HRb217.out.c 6 _ rfl
          have hltRb3_ := HRb317.out.lt
          have qRb30 := HRb317.out.c 0 _ rfl
          have qRb31 := HRb317.out.c 1 _ rfl
          have qRb32 := HRb317.out.c 2 _ rfl
          have qRb33 := HRb317.out.c 3 _ rfl
          have qRb34 := HRb317.out.c 4 _ rfl
          have qRb35 := HRb317.out.c 5 _ rfl
          have qRb36 := HRb317.out.c 6 _ rfl
          have hlm := HMM.out
          go_wp2_with (fail)
          go_ret
          exact ⟨by simp, HB17.out⟩
        · have HMM := Lib.hid hmany; have HOUT := Lib.hid hout
          clear hmany hout
          rw [show ((3000 + 1 : Nat) : Int) = 3001 by rfl] at hy
          have hltRb1_ := HRb115.out.lt
          have qRb10 := HRb115.out.c 0 _ rfl
          have qRb11 := HRb115.out.c 1 _ rfl
          have qRb12 := HRb115.out.c 2 _ rfl
          have qRb13 := HRb115.out.c 3 _ rfl
          have qRb14 := HRb115.out.c 4 _ rfl
          have qRb15 := HRb115.out.c 5 _ rfl
          have qRb16 := HRb115.out.c 6 _ rfl
          go_upto_region 13 with fail
          go_cut [13, 14] from 92 to 100 (fun sr se wx => ∃ (b2 : Nat) (A2 : Option Addr) (c2 : Nat), sr = .pointer (some ⟨b2, 0, none⟩) ∧ se = .int .i64 0 ∧ Below w.heap.size w wx ∧ Blk wx w.heap.size [.string (tx k), .int .i64 v.k, .int .i64 v.n, .string (tx v.s), .int .i64 v.x, .int .i64 v.y, .int .i64 e.k, .int .i64 e.n, .string (tx e.s), .int .i64 e.x, .int .i64 e.y] ∧ Nds wx Al (ifL a b c) ∧ Blk wx b1 [.int .i64 u.k, .int .i64 u.n, .string (tx u.s), .int .i64 u.x, .int .i64 u.y, .slice Ao S.out.length co, .int .i64 (m : Int)] ∧ Prs wx Ao S.out ∧ Blk wx b2 [.int .i64 t.k, .int .i64 t.n, .string (tx t.s), .int .i64 t.x, .int .i64 t.y, .slice A2 S2.out.length c2, .int .i64 (j : Int)] ∧ Prs wx A2 S2.out)
          case first =>
            have hltE_ := HE15.out.lt
            have qE0 := HE15.out.c 0 _ rfl
            have qE1 := HE15.out.c 1 _ rfl
            have qE2 := HE15.out.c 2 _ rfl
            have qE3 := HE15.out.c 3 _ rfl
            have qE4 := HE15.out.c 4 _ rfl
            have qE5 := HE15.out.c 5 _ rfl
            have qE6 := HE15.out.c 6 _ rfl
            have qE7 := HE15.out.c 7 _ rfl
            have qE8 := HE15.out.c 8 _ rfl
            have qE9 := HE15.out.c 9 _ rfl
            have qE10 := HE15.out.c 10 _ rfl
            have hltRb1_ := HRb115.out.lt
            have qRb10 := HRb115.out.c 0 _ rfl
            have qRb11 := HRb115.out.c 1 _ rfl
            have qRb12 := HRb115.out.c 2 _ rfl
            have qRb13 := HRb115.out.c 3 _ rfl
            have qRb14 := HRb115.out.c 4 _ rfl
            have qRb15 := HRb115.out.c 5 _ rfl
            have qRb16 := HRb115.out.c 6 _ rfl
            go_region_held3 (fun w' => w'.cell? ⟨w.heap.size, 0, none⟩ = some (.string (tx k)) ∧ w'.cell? ⟨w.heap.size, 1, none⟩ = some (.int .i64 v.k) ∧ w'.cell? ⟨w.heap.size, 2, none⟩ = some (.int .i64 v.n) ∧ w'.cell? ⟨w.heap.size, 3, none⟩ = some (.string (tx v.s)) ∧ w'.cell? ⟨w.heap.size, 4, none⟩ = some (.int .i64 v.x) ∧ w'.cell? ⟨w.heap.size, 5, none⟩ = some (.int .i64 v.y) ∧ w'.cell? ⟨w.heap.size, 6, none⟩ = some (.int .i64 e.k) ∧ w'.cell? ⟨w.heap.size, 7, none⟩ = some (.int .i64 e.n) ∧ w'.cell? ⟨w.heap.size, 8, none⟩ = some (.string (tx e.s)) ∧ w'.cell? ⟨w.heap.size, 9, none⟩ = some (.int .i64 e.x) ∧ w'.cell? ⟨w.heap.size, 10, none⟩ = some (.int .i64 e.y) ∧ w'.cell? ⟨b1, 6, none⟩ = some (.int .i64 (m : Int))) (go_keep)
              (first
              | (go_at_call 10
                 refine (HOFb.out _ (below_drewN HB15.out 1) (by omega)).mono ?_
                 rintro eo w16 ⟨Ap, cp, rfl, hop, hb⟩
                 have hW : Below w15.heap.size w15 _ := below_drewN (Below.refl _ _) 1
                 have HB16 := Lib.hid (Below.next (below_drewN HB15.out 1) hb)
                 have HE16 := Lib.hid ((HE15.out.next hW).next hb)
                 have HL16 := Lib.hid ((HL15.out.next hW).next hb)
                 have HRb116 := Lib.hid ((HRb115.out.next hW).next hb)
                 have HS16 := Lib.hid ((HS15.out.next hW).next hb)
                 have HP16 : Hid (Nds w16 Ap b) := Nds.of_own hop
                 have hszm : w15.heap.size ≤ w16.heap.size := Nat.le_trans hW.size hb.size
                 have hneE1 : w15.heap.size ≠ w.heap.size := by have := HE15.out.lt; omega
                 have hneE2 : w16.heap.size ≠ w.heap.size := by have := HE16.out.lt; omega
                 have hneRb11 : w15.heap.size ≠ b1 := by have := HRb115.out.lt; omega
                 have hneRb12 : w16.heap.size ≠ b1 := by have := HRb116.out.lt; omega
                 have mE0 := HE16.out.c 0 _ rfl; have mE1 := HE16.out.c 1 _ rfl; have mE2 := HE16.out.c 2 _ rfl; have mE3 := HE16.out.c 3 _ rfl; have mE4 := HE16.out.c 4 _ rfl; have mE5 := HE16.out.c 5 _ rfl; have mE6 := HE16.out.c 6 _ rfl; have mE7 := HE16.out.c 7 _ rfl; have mE8 := HE16.out.c 8 _ rfl; have mE9 := HE16.out.c 9 _ rfl; have mE10 := HE16.out.c 10 _ rfl; have hltEm := HE16.out.lt
                 have mRb10 := HRb116.out.c 0 _ rfl; have mRb11 := HRb116.out.c 1 _ rfl; have mRb12 := HRb116.out.c 2 _ rfl; have mRb13 := HRb116.out.c 3 _ rfl; have mRb14 := HRb116.out.c 4 _ rfl; have mRb15 := HRb116.out.c 5 _ rfl; have mRb16 := HRb116.out.c 6 _ rfl; have hltRb1m := HRb116.out.lt
                 clear hop hb hW)
              | (go_at_call 10
                 refine (HOFb.out _ ((below_drewN HB15.out 1).alloc HB15.out.size (.cells #[.int .i64 0, .int .i64 0, .string ⟨#[]⟩, .int .i64 0, .int .i64 0, .slice none 0 0, .int .i64 0] 36)) (by omega)).mono ?_
                 rintro eo w16 ⟨Ap, cp, rfl, hop, hb⟩
                 have hW : Below w15.heap.size w15 _ := (below_drewN (Below.refl _ _) 1).alloc (Nat.le_refl _) (.cells #[.int .i64 0, .int .i64 0, .string ⟨#[]⟩, .int .i64 0, .int .i64 0, .slice none 0 0, .int .i64 0] 36)
                 have HB16 := Lib.hid (Below.next ((below_drewN HB15.out 1).alloc HB15.out.size (.cells #[.int .i64 0, .int .i64 0, .string ⟨#[]⟩, .int .i64 0, .int .i64 0, .slice none 0 0, .int .i64 0] 36)) hb)
                 have HE16 := Lib.hid ((HE15.out.next hW).next hb)
                 have HL16 := Lib.hid ((HL15.out.next hW).next hb)
                 have HRb116 := Lib.hid ((HRb115.out.next hW).next hb)
                 have HS16 := Lib.hid ((HS15.out.next hW).next hb)
                 have HP16 : Hid (Nds w16 Ap b) := Nds.of_own hop
                 have hszm : w15.heap.size ≤ w16.heap.size := Nat.le_trans hW.size hb.size
                 have hneE1 : w15.heap.size ≠ w.heap.size := by have := HE15.out.lt; omega
                 have hneE2 : w16.heap.size ≠ w.heap.size := by have := HE16.out.lt; omega
                 have hneRb11 : w15.heap.size ≠ b1 := by have := HRb115.out.lt; omega
                 have hneRb12 : w16.heap.size ≠ b1 := by have := HRb116.out.lt; omega
                 have HZ16 : Hid (Blk w16 w15.heap.size rz7) := (Blk.made (w15.drewN 1) 36 rz7 rfl).next hb
                 have hzlt := HZ16.out.lt
                 have mE0 := HE16.out.c 0 _ rfl; have mE1 := HE16.out.c 1 _ rfl; have mE2 := HE16.out.c 2 _ rfl; have mE3 := HE16.out.c 3 _ rfl; have mE4 := HE16.out.c 4 _ rfl; have mE5 := HE16.out.c 5 _ rfl; have mE6 := HE16.out.c 6 _ rfl; have mE7 := HE16.out.c 7 _ rfl; have mE8 := HE16.out.c 8 _ rfl; have mE9 := HE16.out.c 9 _ rfl; have mE10 := HE16.out.c 10 _ rfl; have hltEm := HE16.out.lt
                 have mRb10 := HRb116.out.c 0 _ rfl; have mRb11 := HRb116.out.c 1 _ rfl; have mRb12 := HRb116.out.c 2 _ rfl; have mRb13 := HRb116.out.c 3 _ rfl; have mRb14 := HRb116.out.c 4 _ rfl; have mRb15 := HRb116.out.c 5 _ rfl; have mRb16 := HRb116.out.c 6 _ rfl; have hltRb1m := HRb116.out.lt
                 clear hop hb hW)
              | (go_at_call 11
                 refine (HRU.out b ((m : Int)) _ HB16.out Ap cp HP16.out (by omega)).mono ?_
                 rintro eo w17 ⟨hb, hq⟩
                 rw [hx] at hq
                 have hW : Below w16.heap.size w16 _ := Below.refl _ _
                 obtain ⟨A2, c2, ho, rfl⟩ := hq
                 have HN17 : Hid (Prs w17 A2 S2.out) := Prs.of_own ho
                 try have HF := Lib.hid (own_far (lo := w15.heap.size) ho hzlt)
                 clear ho
                 have HB17 := Lib.hid (Below.next HB16.out hb)
                 have HE17 := Lib.hid ((HE16.out.next hW).next hb)
                 have HL17 := Lib.hid ((HL16.out.next hW).next hb)
                 have HRb117 := Lib.hid ((HRb116.out.next hW).next hb)
                 have HS17 := Lib.hid ((HS16.out.next hW).next hb)
                 try have HZ17 := Lib.hid (HZ16.out.next hb)
                 try (have zc0 := HZ17.out.c 0 _ rfl; have zf0 := HZ17.out.f 0 _ rfl; have zc1 := HZ17.out.c 1 _ rfl; have zf1 := HZ17.out.f 1 _ rfl; have zc2 := HZ17.out.c 2 _ rfl; have zf2 := HZ17.out.f 2 _ rfl; have zc3 := HZ17.out.c 3 _ rfl; have zf3 := HZ17.out.f 3 _ rfl; have zc4 := HZ17.out.c 4 _ rfl; have zf4 := HZ17.out.f 4 _ rfl; have zc5 := HZ17.out.c 5 _ rfl; have zf5 := HZ17.out.f 5 _ rfl; have zc6 := HZ17.out.c 6 _ rfl; have zf6 := HZ17.out.f 6 _ rfl)
                 try (have hltz := HZ17.out.lt)
                 have hszn : w16.heap.size ≤ w17.heap.size := Nat.le_trans hW.size hb.size
                 have nE0 := HE17.out.c 0 _ rfl; have nE1 := HE17.out.c 1 _ rfl; have nE2 := HE17.out.c 2 _ rfl; have nE3 := HE17.out.c 3 _ rfl; have nE4 := HE17.out.c 4 _ rfl; have nE5 := HE17.out.c 5 _ rfl; have nE6 := HE17.out.c 6 _ rfl; have nE7 := HE17.out.c 7 _ rfl; have nE8 := HE17.out.c 8 _ rfl; have nE9 := HE17.out.c 9 _ rfl; have nE10 := HE17.out.c 10 _ rfl; have hltEn := HE17.out.lt
                 have nRb10 := HRb117.out.c 0 _ rfl; have nRb11 := HRb117.out.c 1 _ rfl; have nRb12 := HRb117.out.c 2 _ rfl; have nRb13 := HRb117.out.c 3 _ rfl; have nRb14 := HRb117.out.c 4 _ rfl; have nRb15 := HRb117.out.c 5 _ rfl; have nRb16 := HRb117.out.c 6 _ rfl; have hltRb1n := HRb117.out.lt
                 clear hb hW)
              | (go_at_call 11
                 refine (HRU.out b ((m : Int)) _ (Below.next HB16.out (box1 w16 (.cells #[.int .i64 0, .int .i64 0, .string ⟨#[]⟩, .int .i64 0, .int .i64 0, .slice none 0 0, .int .i64 0] 36))) Ap cp (HP16.out.next (box1 w16 (.cells #[.int .i64 0, .int .i64 0, .string ⟨#[]⟩, .int .i64 0, .int .i64 0, .slice none 0 0, .int .i64 0] 36))) (by omega)).mono ?_
                 rintro eo w17 ⟨hb, hq⟩
                 rw [hx] at hq
                 have hW : Below w16.heap.size w16 _ := box1 w16 (.cells #[.int .i64 0, .int .i64 0, .string ⟨#[]⟩, .int .i64 0, .int .i64 0, .slice none 0 0, .int .i64 0] 36)
                 obtain ⟨A2, c2, ho, rfl⟩ := hq
                 have HN17 : Hid (Prs w17 A2 S2.out) := Prs.of_own ho
                 have HF := Lib.hid (own_far (lo := w16.heap.size) ho (by rw [World.size_alloc]; omega))
                 clear ho
                 have HB17 := Lib.hid (Below.next (Below.next HB16.out (box1 w16 (.cells #[.int .i64 0, .int .i64 0, .string ⟨#[]⟩, .int .i64 0, .int .i64 0, .slice none 0 0, .int .i64 0] 36))) hb)
                 have HE17 := Lib.hid ((HE16.out.next hW).next hb)
                 have HL17 := Lib.hid ((HL16.out.next hW).next hb)
                 have HRb117 := Lib.hid ((HRb116.out.next hW).next hb)
                 have HS17 := Lib.hid ((HS16.out.next hW).next hb)
                 have HZ17 : Hid (Blk w17 w16.heap.size rz7) := (Blk.made w16 36 rz7 rfl).next hb
                 try (have zc0 := HZ17.out.c 0 _ rfl; have zf0 := HZ17.out.f 0 _ rfl; have zc1 := HZ17.out.c 1 _ rfl; have zf1 := HZ17.out.f 1 _ rfl; have zc2 := HZ17.out.c 2 _ rfl; have zf2 := HZ17.out.f 2 _ rfl; have zc3 := HZ17.out.c 3 _ rfl; have zf3 := HZ17.out.f 3 _ rfl; have zc4 := HZ17.out.c 4 _ rfl; have zf4 := HZ17.out.f 4 _ rfl; have zc5 := HZ17.out.c 5 _ rfl; have zf5 := HZ17.out.f 5 _ rfl; have zc6 := HZ17.out.c 6 _ rfl; have zf6 := HZ17.out.f 6 _ rfl)
                 try (have hltz := HZ17.out.lt)
                 have hszn : w16.heap.size ≤ w17.heap.size := Nat.le_trans hW.size hb.size
                 have nE0 := HE17.out.c 0 _ rfl; have nE1 := HE17.out.c 1 _ rfl; have nE2 := HE17.out.c 2 _ rfl; have nE3 := HE17.out.c 3 _ rfl; have nE4 := HE17.out.c 4 _ rfl; have nE5 := HE17.out.c 5 _ rfl; have nE6 := HE17.out.c 6 _ rfl; have nE7 := HE17.out.c 7 _ rfl; have nE8 := HE17.out.c 8 _ rfl; have nE9 := HE17.out.c 9 _ rfl; have nE10 := HE17.out.c 10 _ rfl; have hltEn := HE17.out.lt
                 have nRb10 := HRb117.out.c 0 _ rfl; have nRb11 := HRb117.out.c 1 _ rfl; have nRb12 := HRb117.out.c 2 _ rfl; have nRb13 := HRb117.out.c 3 _ rfl; have nRb14 := HRb117.out.c 4 _ rfl; have nRb15 := HRb117.out.c 5 _ rfl; have nRb16 := HRb117.out.c 6 _ rfl; have hltRb1n := HRb117.out.lt
                 clear hb hW))
            all_goals (rename_i hHd; clear hHd)
            all_goals go_wp2_with fail
            all_goals go_meet
            · exact ⟨w17.heap.size, A2, c2, rfl, rfl, Below.next HB17.out (box1 w17 _), HE17.out.next (box1 w17 _), HL17.out.next (box1 w17 _), HRb117.out.next (box1 w17 _), HS17.out.next (box1 w17 _), Blk.made w17 36 [.int .i64 t.k, .int .i64 t.n, .string (tx t.s), .int .i64 t.x, .int .i64 t.y, .slice A2 S2.out.length c2, .int .i64 (j : Int)] rfl, HN17.out.next (box1 w17 _)⟩
            · have hp : (((((((w17.setCell ⟨w16.heap.size, 0, none⟩ (.int .i64 t.k)).setCell ⟨w16.heap.size, 1, none⟩ (.int .i64 t.n)).setCell ⟨w16.heap.size, 2, none⟩ (.string (tx t.s))).setCell ⟨w16.heap.size, 3, none⟩ (.int .i64 t.x)).setCell ⟨w16.heap.size, 4, none⟩ (.int .i64 t.y)).setCell ⟨w16.heap.size, 5, none⟩ (.slice A2 S2.out.length c2)).setCell ⟨w16.heap.size, 6, none⟩ (.int .i64 (j : Int))) = putL w17 w16.heap.size 0 [.int .i64 t.k, .int .i64 t.n, .string (tx t.s), .int .i64 t.x, .int .i64 t.y, .slice A2 S2.out.length c2, .int .i64 (j : Int)] := rfl
              rw [hp]
              clear hp
              have hzle : w15.heap.size ≤ w16.heap.size := by omega
              have k1 := below_puts (B := w16.heap.size) [.int .i64 t.k, .int .i64 t.n, .string (tx t.s), .int .i64 t.x, .int .i64 t.y, .slice A2 S2.out.length c2, .int .i64 (j : Int)] 0 HB17.out (by have := HB15.out.size; omega)
              have kE := blk_puts_other (C := w16.heap.size) (by omega) [.int .i64 t.k, .int .i64 t.n, .string (tx t.s), .int .i64 t.x, .int .i64 t.y, .slice A2 S2.out.length c2, .int .i64 (j : Int)] 0 HE17.out
              have kL := nds_far (z := w16.heap.size) HL15.out HL17.out hzle [.int .i64 t.k, .int .i64 t.n, .string (tx t.s), .int .i64 t.x, .int .i64 t.y, .slice A2 S2.out.length c2, .int .i64 (j : Int)] 0
              have kRb1 := blk_puts_other (C := w16.heap.size) (by omega) [.int .i64 t.k, .int .i64 t.n, .string (tx t.s), .int .i64 t.x, .int .i64 t.y, .slice A2 S2.out.length c2, .int .i64 (j : Int)] 0 HRb117.out
              have kS := prs_far (z := w16.heap.size) HS15.out HS17.out hzle [.int .i64 t.k, .int .i64 t.n, .string (tx t.s), .int .i64 t.x, .int .i64 t.y, .slice A2 S2.out.length c2, .int .i64 (j : Int)] 0
              have kz : Blk (putL w17 w16.heap.size 0 [.int .i64 t.k, .int .i64 t.n, .string (tx t.s), .int .i64 t.x, .int .i64 t.y, .slice A2 S2.out.length c2, .int .i64 (j : Int)]) w16.heap.size [.int .i64 t.k, .int .i64 t.n, .string (tx t.s), .int .i64 t.x, .int .i64 t.y, .slice A2 S2.out.length c2, .int .i64 (j : Int)] := blk_puts [.int .i64 t.k, .int .i64 t.n, .string (tx t.s), .int .i64 t.x, .int .i64 t.y, .slice A2 S2.out.length c2, .int .i64 (j : Int)] 0 HZ17.out (Nat.le_refl 7)
              have kn := prs_puts (z := w16.heap.size) [.int .i64 t.k, .int .i64 t.n, .string (tx t.s), .int .i64 t.x, .int .i64 t.y, .slice A2 S2.out.length c2, .int .i64 (j : Int)] 0 HN17.out HF.out
              generalize putL w17 w16.heap.size 0 [.int .i64 t.k, .int .i64 t.n, .string (tx t.s), .int .i64 t.x, .int .i64 t.y, .slice A2 S2.out.length c2, .int .i64 (j : Int)] = wq at *
              exact ⟨w16.heap.size, A2, c2, rfl, rfl, k1, kE, kL, kRb1, kS, kz, kn⟩
            · have hp : (((((((w17.setCell ⟨w15.heap.size, 0, none⟩ (.int .i64 t.k)).setCell ⟨w15.heap.size, 1, none⟩ (.int .i64 t.n)).setCell ⟨w15.heap.size, 2, none⟩ (.string (tx t.s))).setCell ⟨w15.heap.size, 3, none⟩ (.int .i64 t.x)).setCell ⟨w15.heap.size, 4, none⟩ (.int .i64 t.y)).setCell ⟨w15.heap.size, 5, none⟩ (.slice A2 S2.out.length c2)).setCell ⟨w15.heap.size, 6, none⟩ (.int .i64 (j : Int))) = putL w17 w15.heap.size 0 [.int .i64 t.k, .int .i64 t.n, .string (tx t.s), .int .i64 t.x, .int .i64 t.y, .slice A2 S2.out.length c2, .int .i64 (j : Int)] := rfl
              rw [hp]
              clear hp
              have hzle : w15.heap.size ≤ w15.heap.size := by omega
              have k1 := below_puts (B := w15.heap.size) [.int .i64 t.k, .int .i64 t.n, .string (tx t.s), .int .i64 t.x, .int .i64 t.y, .slice A2 S2.out.length c2, .int .i64 (j : Int)] 0 HB17.out (by have := HB15.out.size; omega)
              have kE := blk_puts_other (C := w15.heap.size) (by omega) [.int .i64 t.k, .int .i64 t.n, .string (tx t.s), .int .i64 t.x, .int .i64 t.y, .slice A2 S2.out.length c2, .int .i64 (j : Int)] 0 HE17.out
              have kL := nds_far (z := w15.heap.size) HL15.out HL17.out hzle [.int .i64 t.k, .int .i64 t.n, .string (tx t.s), .int .i64 t.x, .int .i64 t.y, .slice A2 S2.out.length c2, .int .i64 (j : Int)] 0
              have kRb1 := blk_puts_other (C := w15.heap.size) (by omega) [.int .i64 t.k, .int .i64 t.n, .string (tx t.s), .int .i64 t.x, .int .i64 t.y, .slice A2 S2.out.length c2, .int .i64 (j : Int)] 0 HRb117.out
              have kS := prs_far (z := w15.heap.size) HS15.out HS17.out hzle [.int .i64 t.k, .int .i64 t.n, .string (tx t.s), .int .i64 t.x, .int .i64 t.y, .slice A2 S2.out.length c2, .int .i64 (j : Int)] 0
              have kz : Blk (putL w17 w15.heap.size 0 [.int .i64 t.k, .int .i64 t.n, .string (tx t.s), .int .i64 t.x, .int .i64 t.y, .slice A2 S2.out.length c2, .int .i64 (j : Int)]) w15.heap.size [.int .i64 t.k, .int .i64 t.n, .string (tx t.s), .int .i64 t.x, .int .i64 t.y, .slice A2 S2.out.length c2, .int .i64 (j : Int)] := blk_puts [.int .i64 t.k, .int .i64 t.n, .string (tx t.s), .int .i64 t.x, .int .i64 t.y, .slice A2 S2.out.length c2, .int .i64 (j : Int)] 0 HZ17.out (Nat.le_refl 7)
              have kn := prs_puts (z := w15.heap.size) [.int .i64 t.k, .int .i64 t.n, .string (tx t.s), .int .i64 t.x, .int .i64 t.y, .slice A2 S2.out.length c2, .int .i64 (j : Int)] 0 HN17.out HF.out
              generalize putL w17 w15.heap.size 0 [.int .i64 t.k, .int .i64 t.n, .string (tx t.s), .int .i64 t.x, .int .i64 t.y, .slice A2 S2.out.length c2, .int .i64 (j : Int)] = wq at *
              exact ⟨w15.heap.size, A2, c2, rfl, rfl, k1, kE, kL, kRb1, kS, kz, kn⟩
          case rest =>
          obtain ⟨b2, A2, c2, rfl, rfl, hB, hE, hL, hRb1, hS, hbx, hN⟩ := hcut
          have HB16 := Lib.hid hB; have HE16 := Lib.hid hE; have HL16 := Lib.hid hL; have HRb116 := Lib.hid hRb1; have HS16 := Lib.hid hS; have HRb216 := Lib.hid hbx; have HT16 := Lib.hid hN
          clear hB hE hL hRb1 hS hbx hN HB15 HE15 HL15 HRb115 HS15
          generalize wc = w16 at *
          go_upto_region 14 with fail
          go_cut [15, 16] from 101 to 107 (fun sr se wx => ∃ (b3 : Nat) (A3 : Option Addr) (c3 : Nat), sr = .pointer (some ⟨b3, 0, none⟩) ∧ se = .int .i64 0 ∧ Below w.heap.size w wx ∧ Blk wx w.heap.size [.string (tx k), .int .i64 v.k, .int .i64 v.n, .string (tx v.s), .int .i64 v.x, .int .i64 v.y, .int .i64 e.k, .int .i64 e.n, .string (tx e.s), .int .i64 e.x, .int .i64 e.y] ∧ Nds wx Al (ifL a b c) ∧ Blk wx b1 [.int .i64 u.k, .int .i64 u.n, .string (tx u.s), .int .i64 u.x, .int .i64 u.y, .slice Ao S.out.length co, .int .i64 (m : Int)] ∧ Prs wx Ao S.out ∧ Blk wx b2 [.int .i64 t.k, .int .i64 t.n, .string (tx t.s), .int .i64 t.x, .int .i64 t.y, .slice A2 S2.out.length c2, .int .i64 (j : Int)] ∧ Prs wx A2 S2.out ∧ Blk wx b3 [.int .i64 t.k, .int .i64 t.n, .string (tx t.s), .int .i64 t.x, .int .i64 t.y, .slice A3 S3.out.length c3, .int .i64 (j : Int)] ∧ Prs wx A3 S3.out)
          case first =>
            have hltE_ := HE16.out.lt
            have qE0 := HE16.out.c 0 _ rfl
            have qE1 := HE16.out.c 1 _ rfl
            have qE2 := HE16.out.c 2 _ rfl
            have qE3 := HE16.out.c 3 _ rfl
            have qE4 := HE16.out.c 4 _ rfl
            have qE5 := HE16.out.c 5 _ rfl
            have qE6 := HE16.out.c 6 _ rfl
            have qE7 := HE16.out.c 7 _ rfl
            have qE8 := HE16.out.c 8 _ rfl
            have qE9 := HE16.out.c 9 _ rfl
            have qE10 := HE16.out.c 10 _ rfl
            have hltRb1_ := HRb116.out.lt
            have qRb10 := HRb116.out.c 0 _ rfl
            have qRb11 := HRb116.out.c 1 _ rfl
            have qRb12 := HRb116.out.c 2 _ rfl
            have qRb13 := HRb116.out.c 3 _ rfl
            have qRb14 := HRb116.out.c 4 _ rfl
            have qRb15 := HRb116.out.c 5 _ rfl
            have qRb16 := HRb116.out.c 6 _ rfl
            have hltRb2_ := HRb216.out.lt
            have qRb20 := HRb216.out.c 0 _ rfl
            have qRb21 := HRb216.out.c 1 _ rfl
            have qRb22 := HRb216.out.c 2 _ rfl
            have qRb23 := HRb216.out.c 3 _ rfl
            have qRb24 := HRb216.out.c 4 _ rfl
            have qRb25 := HRb216.out.c 5 _ rfl
            have qRb26 := HRb216.out.c 6 _ rfl
            go_region_held3 (fun w' => w'.cell? ⟨w.heap.size, 0, none⟩ = some (.string (tx k)) ∧ w'.cell? ⟨w.heap.size, 1, none⟩ = some (.int .i64 v.k) ∧ w'.cell? ⟨w.heap.size, 2, none⟩ = some (.int .i64 v.n) ∧ w'.cell? ⟨w.heap.size, 3, none⟩ = some (.string (tx v.s)) ∧ w'.cell? ⟨w.heap.size, 4, none⟩ = some (.int .i64 v.x) ∧ w'.cell? ⟨w.heap.size, 5, none⟩ = some (.int .i64 v.y) ∧ w'.cell? ⟨w.heap.size, 6, none⟩ = some (.int .i64 e.k) ∧ w'.cell? ⟨w.heap.size, 7, none⟩ = some (.int .i64 e.n) ∧ w'.cell? ⟨w.heap.size, 8, none⟩ = some (.string (tx e.s)) ∧ w'.cell? ⟨w.heap.size, 9, none⟩ = some (.int .i64 e.x) ∧ w'.cell? ⟨w.heap.size, 10, none⟩ = some (.int .i64 e.y)) (go_keep)
              (first
              | (go_at_call 10
                 refine (of_any (ifL a b c) Al cl _ (HL16.out.next (below_drewN (Below.refl w16.heap.size w16) 1)) hll).mono ?_
                 rintro eo w17 ⟨Ap, cp, rfl, hop, hb⟩
                 have hW : Below w16.heap.size w16 _ := below_drewN (Below.refl _ _) 1
                 have HB17 := Lib.hid (Below.next (below_drewN HB16.out 1) hb)
                 have HE17 := Lib.hid ((HE16.out.next hW).next hb)
                 have HL17 := Lib.hid ((HL16.out.next hW).next hb)
                 have HRb117 := Lib.hid ((HRb116.out.next hW).next hb)
                 have HS17 := Lib.hid ((HS16.out.next hW).next hb)
                 have HRb217 := Lib.hid ((HRb216.out.next hW).next hb)
                 have HT17 := Lib.hid ((HT16.out.next hW).next hb)
                 have HP17 : Hid (Nds w17 Ap (ifL a b c)) := Nds.of_own hop
                 have hszm : w16.heap.size ≤ w17.heap.size := Nat.le_trans hW.size hb.size
                 have hneE1 : w16.heap.size ≠ w.heap.size := by have := HE16.out.lt; omega
                 have hneE2 : w17.heap.size ≠ w.heap.size := by have := HE17.out.lt; omega
                 have hneRb11 : w16.heap.size ≠ b1 := by have := HRb116.out.lt; omega
                 have hneRb12 : w17.heap.size ≠ b1 := by have := HRb117.out.lt; omega
                 have hneRb21 : w16.heap.size ≠ b2 := by have := HRb216.out.lt; omega
                 have hneRb22 : w17.heap.size ≠ b2 := by have := HRb217.out.lt; omega
                 have mE0 := HE17.out.c 0 _ rfl; have mE1 := HE17.out.c 1 _ rfl; have mE2 := HE17.out.c 2 _ rfl; have mE3 := HE17.out.c 3 _ rfl; have mE4 := HE17.out.c 4 _ rfl; have mE5 := HE17.out.c 5 _ rfl; have mE6 := HE17.out.c 6 _ rfl; have mE7 := HE17.out.c 7 _ rfl; have mE8 := HE17.out.c 8 _ rfl; have mE9 := HE17.out.c 9 _ rfl; have mE10 := HE17.out.c 10 _ rfl; have hltEm := HE17.out.lt
                 have mRb10 := HRb117.out.c 0 _ rfl; have mRb11 := HRb117.out.c 1 _ rfl; have mRb12 := HRb117.out.c 2 _ rfl; have mRb13 := HRb117.out.c 3 _ rfl; have mRb14 := HRb117.out.c 4 _ rfl; have mRb15 := HRb117.out.c 5 _ rfl; have mRb16 := HRb117.out.c 6 _ rfl; have hltRb1m := HRb117.out.lt
                 have mRb20 := HRb217.out.c 0 _ rfl; have mRb21 := HRb217.out.c 1 _ rfl; have mRb22 := HRb217.out.c 2 _ rfl; have mRb23 := HRb217.out.c 3 _ rfl; have mRb24 := HRb217.out.c 4 _ rfl; have mRb25 := HRb217.out.c 5 _ rfl; have mRb26 := HRb217.out.c 6 _ rfl; have hltRb2m := HRb217.out.lt
                 clear hop hb hW)
              | (go_at_call 10
                 refine (of_any (ifL a b c) Al cl _ (HL16.out.next ((below_drewN (Below.refl w16.heap.size w16) 1).alloc (Nat.le_refl _) (.cells #[.int .i64 0, .int .i64 0, .string ⟨#[]⟩, .int .i64 0, .int .i64 0, .slice none 0 0, .int .i64 0] 36))) hll).mono ?_
                 rintro eo w17 ⟨Ap, cp, rfl, hop, hb⟩
                 have hW : Below w16.heap.size w16 _ := (below_drewN (Below.refl _ _) 1).alloc (Nat.le_refl _) (.cells #[.int .i64 0, .int .i64 0, .string ⟨#[]⟩, .int .i64 0, .int .i64 0, .slice none 0 0, .int .i64 0] 36)
                 have HB17 := Lib.hid (Below.next ((below_drewN HB16.out 1).alloc HB16.out.size (.cells #[.int .i64 0, .int .i64 0, .string ⟨#[]⟩, .int .i64 0, .int .i64 0, .slice none 0 0, .int .i64 0] 36)) hb)
                 have HE17 := Lib.hid ((HE16.out.next hW).next hb)
                 have HL17 := Lib.hid ((HL16.out.next hW).next hb)
                 have HRb117 := Lib.hid ((HRb116.out.next hW).next hb)
                 have HS17 := Lib.hid ((HS16.out.next hW).next hb)
                 have HRb217 := Lib.hid ((HRb216.out.next hW).next hb)
                 have HT17 := Lib.hid ((HT16.out.next hW).next hb)
                 have HP17 : Hid (Nds w17 Ap (ifL a b c)) := Nds.of_own hop
                 have hszm : w16.heap.size ≤ w17.heap.size := Nat.le_trans hW.size hb.size
                 have hneE1 : w16.heap.size ≠ w.heap.size := by have := HE16.out.lt; omega
                 have hneE2 : w17.heap.size ≠ w.heap.size := by have := HE17.out.lt; omega
                 have hneRb11 : w16.heap.size ≠ b1 := by have := HRb116.out.lt; omega
                 have hneRb12 : w17.heap.size ≠ b1 := by have := HRb117.out.lt; omega
                 have hneRb21 : w16.heap.size ≠ b2 := by have := HRb216.out.lt; omega
                 have hneRb22 : w17.heap.size ≠ b2 := by have := HRb217.out.lt; omega
                 have HZ17 : Hid (Blk w17 w16.heap.size rz7) := (Blk.made (w16.drewN 1) 36 rz7 rfl).next hb
                 have hzlt := HZ17.out.lt
                 have mE0 := HE17.out.c 0 _ rfl; have mE1 := HE17.out.c 1 _ rfl; have mE2 := HE17.out.c 2 _ rfl; have mE3 := HE17.out.c 3 _ rfl; have mE4 := HE17.out.c 4 _ rfl; have mE5 := HE17.out.c 5 _ rfl; have mE6 := HE17.out.c 6 _ rfl; have mE7 := HE17.out.c 7 _ rfl; have mE8 := HE17.out.c 8 _ rfl; have mE9 := HE17.out.c 9 _ rfl; have mE10 := HE17.out.c 10 _ rfl; have hltEm := HE17.out.lt
                 have mRb10 := HRb117.out.c 0 _ rfl; have mRb11 := HRb117.out.c 1 _ rfl; have mRb12 := HRb117.out.c 2 _ rfl; have mRb13 := HRb117.out.c 3 _ rfl; have mRb14 := HRb117.out.c 4 _ rfl; have mRb15 := HRb117.out.c 5 _ rfl; have mRb16 := HRb117.out.c 6 _ rfl; have hltRb1m := HRb117.out.lt
                 have mRb20 := HRb217.out.c 0 _ rfl; have mRb21 := HRb217.out.c 1 _ rfl; have mRb22 := HRb217.out.c 2 _ rfl; have mRb23 := HRb217.out.c 3 _ rfl; have mRb24 := HRb217.out.c 4 _ rfl; have mRb25 := HRb217.out.c 5 _ rfl; have mRb26 := HRb217.out.c 6 _ rfl; have hltRb2m := HRb217.out.lt
                 clear hop hb hW)
              | (go_at_call 11
                 refine (HRU.out (ifL a b c) (3001) _ HB17.out Ap cp HP17.out (by omega)).mono ?_
                 rintro eo w18 ⟨hb, hq⟩
                 rw [hy] at hq
                 have hW : Below w17.heap.size w17 _ := Below.refl _ _
                 obtain ⟨A3, c3, ho, rfl⟩ := hq
                 have HN18 : Hid (Prs w18 A3 S3.out) := Prs.of_own ho
                 try have HF := Lib.hid (own_far (lo := w16.heap.size) ho hzlt)
                 clear ho
                 have HB18 := Lib.hid (Below.next HB17.out hb)
                 have HE18 := Lib.hid ((HE17.out.next hW).next hb)
                 have HL18 := Lib.hid ((HL17.out.next hW).next hb)
                 have HRb118 := Lib.hid ((HRb117.out.next hW).next hb)
                 have HS18 := Lib.hid ((HS17.out.next hW).next hb)
                 have HRb218 := Lib.hid ((HRb217.out.next hW).next hb)
                 have HT18 := Lib.hid ((HT17.out.next hW).next hb)
                 try have HZ18 := Lib.hid (HZ17.out.next hb)
                 try (have zc0 := HZ18.out.c 0 _ rfl; have zf0 := HZ18.out.f 0 _ rfl; have zc1 := HZ18.out.c 1 _ rfl; have zf1 := HZ18.out.f 1 _ rfl; have zc2 := HZ18.out.c 2 _ rfl; have zf2 := HZ18.out.f 2 _ rfl; have zc3 := HZ18.out.c 3 _ rfl; have zf3 := HZ18.out.f 3 _ rfl; have zc4 := HZ18.out.c 4 _ rfl; have zf4 := HZ18.out.f 4 _ rfl; have zc5 := HZ18.out.c 5 _ rfl; have zf5 := HZ18.out.f 5 _ rfl; have zc6 := HZ18.out.c 6 _ rfl; have zf6 := HZ18.out.f 6 _ rfl)
                 try (have hltz := HZ18.out.lt)
                 have hszn : w17.heap.size ≤ w18.heap.size := Nat.le_trans hW.size hb.size
                 have nE0 := HE18.out.c 0 _ rfl; have nE1 := HE18.out.c 1 _ rfl; have nE2 := HE18.out.c 2 _ rfl; have nE3 := HE18.out.c 3 _ rfl; have nE4 := HE18.out.c 4 _ rfl; have nE5 := HE18.out.c 5 _ rfl; have nE6 := HE18.out.c 6 _ rfl; have nE7 := HE18.out.c 7 _ rfl; have nE8 := HE18.out.c 8 _ rfl; have nE9 := HE18.out.c 9 _ rfl; have nE10 := HE18.out.c 10 _ rfl; have hltEn := HE18.out.lt
                 have nRb10 := HRb118.out.c 0 _ rfl; have nRb11 := HRb118.out.c 1 _ rfl; have nRb12 := HRb118.out.c 2 _ rfl; have nRb13 := HRb118.out.c 3 _ rfl; have nRb14 := HRb118.out.c 4 _ rfl; have nRb15 := HRb118.out.c 5 _ rfl; have nRb16 := HRb118.out.c 6 _ rfl; have hltRb1n := HRb118.out.lt
                 have nRb20 := HRb218.out.c 0 _ rfl; have nRb21 := HRb218.out.c 1 _ rfl; have nRb22 := HRb218.out.c 2 _ rfl; have nRb23 := HRb218.out.c 3 _ rfl; have nRb24 := HRb218.out.c 4 _ rfl; have nRb25 := HRb218.out.c 5 _ rfl; have nRb26 := HRb218.out.c 6 _ rfl; have hltRb2n := HRb218.out.lt
                 clear hb hW)
              | (go_at_call 11
                 refine (HRU.out (ifL a b c) (3001) _ (Below.next HB17.out (box1 w17 (.cells #[.int .i64 0, .int .i64 0, .string ⟨#[]⟩, .int .i64 0, .int .i64 0, .slice none 0 0, .int .i64 0] 36))) Ap cp (HP17.out.next (box1 w17 (.cells #[.int .i64 0, .int .i64 0, .string ⟨#[]⟩, .int .i64 0, .int .i64 0, .slice none 0 0, .int .i64 0] 36))) (by omega)).mono ?_
                 rintro eo w18 ⟨hb, hq⟩
                 rw [hy] at hq
                 have hW : Below w17.heap.size w17 _ := box1 w17 (.cells #[.int .i64 0, .int .i64 0, .string ⟨#[]⟩, .int .i64 0, .int .i64 0, .slice none 0 0, .int .i64 0] 36)
                 obtain ⟨A3, c3, ho, rfl⟩ := hq
                 have HN18 : Hid (Prs w18 A3 S3.out) := Prs.of_own ho
                 have HF := Lib.hid (own_far (lo := w17.heap.size) ho (by rw [World.size_alloc]; omega))
                 clear ho
                 have HB18 := Lib.hid (Below.next (Below.next HB17.out (box1 w17 (.cells #[.int .i64 0, .int .i64 0, .string ⟨#[]⟩, .int .i64 0, .int .i64 0, .slice none 0 0, .int .i64 0] 36))) hb)
                 have HE18 := Lib.hid ((HE17.out.next hW).next hb)
                 have HL18 := Lib.hid ((HL17.out.next hW).next hb)
                 have HRb118 := Lib.hid ((HRb117.out.next hW).next hb)
                 have HS18 := Lib.hid ((HS17.out.next hW).next hb)
                 have HRb218 := Lib.hid ((HRb217.out.next hW).next hb)
                 have HT18 := Lib.hid ((HT17.out.next hW).next hb)
                 have HZ18 : Hid (Blk w18 w17.heap.size rz7) := (Blk.made w17 36 rz7 rfl).next hb
                 try (have zc0 := HZ18.out.c 0 _ rfl; have zf0 := HZ18.out.f 0 _ rfl; have zc1 := HZ18.out.c 1 _ rfl; have zf1 := HZ18.out.f 1 _ rfl; have zc2 := HZ18.out.c 2 _ rfl; have zf2 := HZ18.out.f 2 _ rfl; have zc3 := HZ18.out.c 3 _ rfl; have zf3 := HZ18.out.f 3 _ rfl; have zc4 := HZ18.out.c 4 _ rfl; have zf4 := HZ18.out.f 4 _ rfl; have zc5 := HZ18.out.c 5 _ rfl; have zf5 := HZ18.out.f 5 _ rfl; have zc6 := HZ18.out.c 6 _ rfl; have zf6 := HZ18.out.f 6 _ rfl)
                 try (have hltz := HZ18.out.lt)
                 have hszn : w17.heap.size ≤ w18.heap.size := Nat.le_trans hW.size hb.size
                 have nE0 := HE18.out.c 0 _ rfl; have nE1 := HE18.out.c 1 _ rfl; have nE2 := HE18.out.c 2 _ rfl; have nE3 := HE18.out.c 3 _ rfl; have nE4 := HE18.out.c 4 _ rfl; have nE5 := HE18.out.c 5 _ rfl; have nE6 := HE18.out.c 6 _ rfl; have nE7 := HE18.out.c 7 _ rfl; have nE8 := HE18.out.c 8 _ rfl; have nE9 := HE18.out.c 9 _ rfl; have nE10 := HE18.out.c 10 _ rfl; have hltEn := HE18.out.lt
                 have nRb10 := HRb118.out.c 0 _ rfl; have nRb11 := HRb118.out.c 1 _ rfl; have nRb12 := HRb118.out.c 2 _ rfl; have nRb13 := HRb118.out.c 3 _ rfl; have nRb14 := HRb118.out.c 4 _ rfl; have nRb15 := HRb118.out.c 5 _ rfl; have nRb16 := HRb118.out.c 6 _ rfl; have hltRb1n := HRb118.out.lt
                 have nRb20 := HRb218.out.c 0 _ rfl; have nRb21 := HRb218.out.c 1 _ rfl; have nRb22 := HRb218.out.c 2 _ rfl; have nRb23 := HRb218.out.c 3 _ rfl; have nRb24 := HRb218.out.c 4 _ rfl; have nRb25 := HRb218.out.c 5 _ rfl; have nRb26 := HRb218.out.c 6 _ rfl; have hltRb2n := HRb218.out.lt
                 clear hb hW))
            all_goals (rename_i hHd; clear hHd)
            all_goals go_wp2_with fail
            all_goals go_meet
            · exact ⟨w18.heap.size, A3, c3, rfl, rfl, Below.next HB18.out (box1 w18 _), HE18.out.next (box1 w18 _), HL18.out.next (box1 w18 _), HRb118.out.next (box1 w18 _), HS18.out.next (box1 w18 _), HRb218.out.next (box1 w18 _), HT18.out.next (box1 w18 _), Blk.made w18 36 [.int .i64 t.k, .int .i64 t.n, .string (tx t.s), .int .i64 t.x, .int .i64 t.y, .slice A3 S3.out.length c3, .int .i64 (j : Int)] rfl, HN18.out.next (box1 w18 _)⟩
            · have hp : (((((((w18.setCell ⟨w17.heap.size, 0, none⟩ (.int .i64 t.k)).setCell ⟨w17.heap.size, 1, none⟩ (.int .i64 t.n)).setCell ⟨w17.heap.size, 2, none⟩ (.string (tx t.s))).setCell ⟨w17.heap.size, 3, none⟩ (.int .i64 t.x)).setCell ⟨w17.heap.size, 4, none⟩ (.int .i64 t.y)).setCell ⟨w17.heap.size, 5, none⟩ (.slice A3 S3.out.length c3)).setCell ⟨w17.heap.size, 6, none⟩ (.int .i64 (j : Int))) = putL w18 w17.heap.size 0 [.int .i64 t.k, .int .i64 t.n, .string (tx t.s), .int .i64 t.x, .int .i64 t.y, .slice A3 S3.out.length c3, .int .i64 (j : Int)] := rfl
              rw [hp]
              clear hp
              have hzle : w16.heap.size ≤ w17.heap.size := by omega
              have k1 := below_puts (B := w17.heap.size) [.int .i64 t.k, .int .i64 t.n, .string (tx t.s), .int .i64 t.x, .int .i64 t.y, .slice A3 S3.out.length c3, .int .i64 (j : Int)] 0 HB18.out (by have := HB16.out.size; omega)
              have kE := blk_puts_other (C := w17.heap.size) (by omega) [.int .i64 t.k, .int .i64 t.n, .string (tx t.s), .int .i64 t.x, .int .i64 t.y, .slice A3 S3.out.length c3, .int .i64 (j : Int)] 0 HE18.out
              have kL := nds_far (z := w17.heap.size) HL16.out HL18.out hzle [.int .i64 t.k, .int .i64 t.n, .string (tx t.s), .int .i64 t.x, .int .i64 t.y, .slice A3 S3.out.length c3, .int .i64 (j : Int)] 0
              have kRb1 := blk_puts_other (C := w17.heap.size) (by omega) [.int .i64 t.k, .int .i64 t.n, .string (tx t.s), .int .i64 t.x, .int .i64 t.y, .slice A3 S3.out.length c3, .int .i64 (j : Int)] 0 HRb118.out
              have kS := prs_far (z := w17.heap.size) HS16.out HS18.out hzle [.int .i64 t.k, .int .i64 t.n, .string (tx t.s), .int .i64 t.x, .int .i64 t.y, .slice A3 S3.out.length c3, .int .i64 (j : Int)] 0
              have kRb2 := blk_puts_other (C := w17.heap.size) (by omega) [.int .i64 t.k, .int .i64 t.n, .string (tx t.s), .int .i64 t.x, .int .i64 t.y, .slice A3 S3.out.length c3, .int .i64 (j : Int)] 0 HRb218.out
              have kT := prs_far (z := w17.heap.size) HT16.out HT18.out hzle [.int .i64 t.k, .int .i64 t.n, .string (tx t.s), .int .i64 t.x, .int .i64 t.y, .slice A3 S3.out.length c3, .int .i64 (j : Int)] 0
              have kz : Blk (putL w18 w17.heap.size 0 [.int .i64 t.k, .int .i64 t.n, .string (tx t.s), .int .i64 t.x, .int .i64 t.y, .slice A3 S3.out.length c3, .int .i64 (j : Int)]) w17.heap.size [.int .i64 t.k, .int .i64 t.n, .string (tx t.s), .int .i64 t.x, .int .i64 t.y, .slice A3 S3.out.length c3, .int .i64 (j : Int)] := blk_puts [.int .i64 t.k, .int .i64 t.n, .string (tx t.s), .int .i64 t.x, .int .i64 t.y, .slice A3 S3.out.length c3, .int .i64 (j : Int)] 0 HZ18.out (Nat.le_refl 7)
              have kn := prs_puts (z := w17.heap.size) [.int .i64 t.k, .int .i64 t.n, .string (tx t.s), .int .i64 t.x, .int .i64 t.y, .slice A3 S3.out.length c3, .int .i64 (j : Int)] 0 HN18.out HF.out
              generalize putL w18 w17.heap.size 0 [.int .i64 t.k, .int .i64 t.n, .string (tx t.s), .int .i64 t.x, .int .i64 t.y, .slice A3 S3.out.length c3, .int .i64 (j : Int)] = wq at *
              exact ⟨w17.heap.size, A3, c3, rfl, rfl, k1, kE, kL, kRb1, kS, kRb2, kT, kz, kn⟩
            · have hp : (((((((w18.setCell ⟨w16.heap.size, 0, none⟩ (.int .i64 t.k)).setCell ⟨w16.heap.size, 1, none⟩ (.int .i64 t.n)).setCell ⟨w16.heap.size, 2, none⟩ (.string (tx t.s))).setCell ⟨w16.heap.size, 3, none⟩ (.int .i64 t.x)).setCell ⟨w16.heap.size, 4, none⟩ (.int .i64 t.y)).setCell ⟨w16.heap.size, 5, none⟩ (.slice A3 S3.out.length c3)).setCell ⟨w16.heap.size, 6, none⟩ (.int .i64 (j : Int))) = putL w18 w16.heap.size 0 [.int .i64 t.k, .int .i64 t.n, .string (tx t.s), .int .i64 t.x, .int .i64 t.y, .slice A3 S3.out.length c3, .int .i64 (j : Int)] := rfl
              rw [hp]
              clear hp
              have hzle : w16.heap.size ≤ w16.heap.size := by omega
              have k1 := below_puts (B := w16.heap.size) [.int .i64 t.k, .int .i64 t.n, .string (tx t.s), .int .i64 t.x, .int .i64 t.y, .slice A3 S3.out.length c3, .int .i64 (j : Int)] 0 HB18.out (by have := HB16.out.size; omega)
              have kE := blk_puts_other (C := w16.heap.size) (by omega) [.int .i64 t.k, .int .i64 t.n, .string (tx t.s), .int .i64 t.x, .int .i64 t.y, .slice A3 S3.out.length c3, .int .i64 (j : Int)] 0 HE18.out
              have kL := nds_far (z := w16.heap.size) HL16.out HL18.out hzle [.int .i64 t.k, .int .i64 t.n, .string (tx t.s), .int .i64 t.x, .int .i64 t.y, .slice A3 S3.out.length c3, .int .i64 (j : Int)] 0
              have kRb1 := blk_puts_other (C := w16.heap.size) (by omega) [.int .i64 t.k, .int .i64 t.n, .string (tx t.s), .int .i64 t.x, .int .i64 t.y, .slice A3 S3.out.length c3, .int .i64 (j : Int)] 0 HRb118.out
              have kS := prs_far (z := w16.heap.size) HS16.out HS18.out hzle [.int .i64 t.k, .int .i64 t.n, .string (tx t.s), .int .i64 t.x, .int .i64 t.y, .slice A3 S3.out.length c3, .int .i64 (j : Int)] 0
              have kRb2 := blk_puts_other (C := w16.heap.size) (by omega) [.int .i64 t.k, .int .i64 t.n, .string (tx t.s), .int .i64 t.x, .int .i64 t.y, .slice A3 S3.out.length c3, .int .i64 (j : Int)] 0 HRb218.out
              have kT := prs_far (z := w16.heap.size) HT16.out HT18.out hzle [.int .i64 t.k, .int .i64 t.n, .string (tx t.s), .int .i64 t.x, .int .i64 t.y, .slice A3 S3.out.length c3, .int .i64 (j : Int)] 0
              have kz : Blk (putL w18 w16.heap.size 0 [.int .i64 t.k, .int .i64 t.n, .string (tx t.s), .int .i64 t.x, .int .i64 t.y, .slice A3 S3.out.length c3, .int .i64 (j : Int)]) w16.heap.size [.int .i64 t.k, .int .i64 t.n, .string (tx t.s), .int .i64 t.x, .int .i64 t.y, .slice A3 S3.out.length c3, .int .i64 (j : Int)] := blk_puts [.int .i64 t.k, .int .i64 t.n, .string (tx t.s), .int .i64 t.x, .int .i64 t.y, .slice A3 S3.out.length c3, .int .i64 (j : Int)] 0 HZ18.out (Nat.le_refl 7)
              have kn := prs_puts (z := w16.heap.size) [.int .i64 t.k, .int .i64 t.n, .string (tx t.s), .int .i64 t.x, .int .i64 t.y, .slice A3 S3.out.length c3, .int .i64 (j : Int)] 0 HN18.out HF.out
              generalize putL w18 w16.heap.size 0 [.int .i64 t.k, .int .i64 t.n, .string (tx t.s), .int .i64 t.x, .int .i64 t.y, .slice A3 S3.out.length c3, .int .i64 (j : Int)] = wq at *
              exact ⟨w16.heap.size, A3, c3, rfl, rfl, k1, kE, kL, kRb1, kS, kRb2, kT, kz, kn⟩
          case rest =>
          obtain ⟨b3, A3, c3, rfl, rfl, hB, hE, hL, hRb1, hS, hRb2, hT, hbx, hN⟩ := hcut
          have HB17 := Lib.hid hB; have HE17 := Lib.hid hE; have HL17 := Lib.hid hL; have HRb117 := Lib.hid hRb1; have HS17 := Lib.hid hS; have HRb217 := Lib.hid hRb2; have HT17 := Lib.hid hT; have HRb317 := Lib.hid hbx; have HU17 := Lib.hid hN
          clear hB hE hL hRb1 hS hRb2 hT hbx hN HB16 HE16 HL16 HRb116 HS16 HRb216 HT16
          generalize wc = w17 at *
          have hltRb1_ := HRb117.out.lt
          have qRb10 := HRb117.out.c 0 _ rfl
          have qRb11 := HRb117.out.c 1 _ rfl
          have qRb12 := HRb117.out.c 2 _ rfl
          have qRb13 := HRb117.out.c 3 _ rfl
          have qRb14 := HRb117.out.c 4 _ rfl
          have qRb15 := HRb117.out.c 5 _ rfl
          have qRb16 := HRb117.out.c 6 _ rfl
          have hltRb2_ := HRb217.out.lt
          have qRb20 := HRb217.out.c 0 _ rfl
          have qRb21 := HRb217.out.c 1 _ rfl
          have qRb22 := HRb217.out.c 2 _ rfl
          have qRb23 := HRb217.out.c 3 _ rfl
          have qRb24 := HRb217.out.c 4 _ rfl
          have qRb25 := HRb217.out.c 5 _ rfl
          have qRb26 := HRb217.out.c 6 _ rfl
          have hltRb3_ := HRb317.out.lt
          have qRb30 := HRb317.out.c 0 _ rfl
          have qRb31 := HRb317.out.c 1 _ rfl
          have qRb32 := HRb317.out.c 2 _ rfl
          have qRb33 := HRb317.out.c 3 _ rfl
          have qRb34 := HRb317.out.c 4 _ rfl
          have qRb35 := HRb317.out.c 5 _ rfl
          have qRb36 := HRb317.out.c 6 _ rfl
          have hlm := HMM.out
          have HO0 : Hid ((w17.drewN 1).ownsRow w17.heap.size 58 6 (.slice none 0 0) 0 []) := World.ownsRow_nil _ _ _ _
          have HW0 : Hid (Below w17.heap.size w17 (w17.drewN 1)) := below_drewN (Below.refl _ _) 1
          obtain ⟨i0, hi0, hi1, hi2, hi3⟩ := info_parts infoP
          have HI0 := Lib.hid hi0; have HI1 := Lib.hid hi1; have HI2 := Lib.hid hi2; have HI3 := Lib.hid hi3
          clear hi0 hi1 hi2 hi3
          go_upto_region 20 with fail
          go_region_law (first
            | (refine step_app _ rfl (.tmp 135) (.tmp 137) 34 rfl w17.heap.size 58 i0 (.agg (pcl ([], vz)).toArray) 6 64 Tryz.underlying34 HI0.out HI1.out HI2.out HI3.out rfl (by decide) (.slice none 0 0) (0) ([]) (by simp [Act.eval]) HO0.out Ao S.out.length co (pcells S.out) (by simp [Act.eval]) (pcells_len _) (prs_news (HS17.out.next (below_drewN (Below.refl _ _) 1))) (pcells_one _) (by unfold maxLen; omega) (by omega) HW0.out.size ?_
               intro v1 y1 ho hg
               have HW1 := Lib.hid (HW0.out.grown hg HW0.out.size (fun q hq => (HO0.out.lt q hq).1)); have HO1 := Lib.hid ho
               have uA0 := (HRb117.out.next HW1.out).c 5 _ rfl; have uB0 := (HRb217.out.next HW1.out).c 5 _ rfl; have uC0 := (HRb117.out.next HW1.out).lt; have uD0 := (HRb217.out.next HW1.out).lt
               clear ho hg)
            | (refine step_app _ rfl (.tmp 138) (.tmp 140) 34 rfl w17.heap.size 58 i0 (.agg (pcl ([], vz)).toArray) 6 64 Tryz.underlying34 HI0.out HI1.out HI2.out HI3.out rfl (by decide) v1 (0 + S.out.length) ([] ++ pcells S.out) (by simp [Act.eval]) HO1.out A2 S2.out.length c2 (pcells S2.out) (by simp [Act.eval]) (pcells_len _) (prs_news (HT17.out.next HW1.out)) (pcells_one _) (by unfold maxLen; omega) (by omega) HW1.out.size ?_
               intro v2 y2 ho hg
               have HW2 := Lib.hid (HW1.out.grown hg HW1.out.size (fun q hq => (HO1.out.lt q hq).1)); have HO2 := Lib.hid ho
               have uA1 := (HRb117.out.next HW2.out).c 5 _ rfl; have uB1 := (HRb217.out.next HW2.out).c 5 _ rfl; have uC1 := (HRb117.out.next HW2.out).lt; have uD1 := (HRb217.out.next HW2.out).lt
               clear ho hg))
          all_goals
            obtain ⟨Ap4, cp4, hv4⟩ := own_slice HO2.out
            have hl4 : 0 + S.out.length + S2.out.length = S3.out.length := by rw [HOUT.out, List.length_append]; omega
            have HN4 : Hid (Prs y2 Ap4 S3.out) := by
              have h := HO2.out
              rw [hl4, pcells_app, ← HOUT.out, hv4, hl4] at h
              exact Prs.of_own h
            subst hv4
            rw [hl4]
            have hb := HW2.out
            clear HW0 HW1 HW2 HO0 HO1 HO2 HI0 HI1 HI2 HI3 uA0 uB0 uC0 uD0 uA1 uB1 uC1 uD1
            generalize y2 = w18 at *
            have HB18 := Lib.hid (Below.next HB17.out hb)
            have HE18 := Lib.hid (HE17.out.next hb)
            have HL18 := Lib.hid (HL17.out.next hb)
            have HRb118 := Lib.hid (HRb117.out.next hb)
            have HS18 := Lib.hid (HS17.out.next hb)
            have HRb218 := Lib.hid (HRb217.out.next hb)
            have HT18 := Lib.hid (HT17.out.next hb)
            have HRb318 := Lib.hid (HRb317.out.next hb)
            have HU18 := Lib.hid (HU17.out.next hb)
            clear HB17 HE17 HL17 HRb117 HS17 HRb217 HT17 HRb317 HU17 hltRb1_ hltRb2_ hltRb3_ qRb10 qRb11 qRb12 qRb13 qRb14 qRb15 qRb16 qRb20 qRb21 qRb22 qRb23 qRb24 qRb25 qRb26 qRb30 qRb31 qRb32 qRb33 qRb34 qRb35 qRb36 hb
            have hltRb1_ := HRb118.out.lt
            have qRb10 := HRb118.out.c 0 _ rfl
            have qRb11 := HRb118.out.c 1 _ rfl
            have qRb12 := HRb118.out.c 2 _ rfl
            have qRb13 := HRb118.out.c 3 _ rfl
            have qRb14 := HRb118.out.c 4 _ rfl
            have qRb15 := HRb118.out.c 5 _ rfl
            have qRb16 := HRb118.out.c 6 _ rfl
            have hltRb2_ := HRb218.out.lt
            have qRb20 := HRb218.out.c 0 _ rfl
            have qRb21 := HRb218.out.c 1 _ rfl
            have qRb22 := HRb218.out.c 2 _ rfl
            have qRb23 := HRb218.out.c 3 _ rfl
            have qRb24 := HRb218.out.c 4 _ rfl
            have qRb25 := HRb218.out.c 5 _ rfl
            have qRb26 := HRb218.out.c 6 _ rfl
            have hltRb3_ := HRb318.out.lt
            have qRb30 := HRb318.out.c 0 _ rfl
            have qRb31 := HRb318.out.c 1 _ rfl
            have qRb32 := HRb318.out.c 2 _ rfl
            have qRb33 := HRb318.out.c 3 _ rfl
            have qRb34 := HRb318.out.c 4 _ rfl
            have qRb35 := HRb318.out.c 5 _ rfl
            have qRb36 := HRb318.out.c 6 _ rfl
            have hEV : ∀ W, (binOp .eql 26 (.agg #[.int .i64 t.k, .int .i64 t.n, .string (tx t.s), .int .i64 t.x, .int .i64 t.y]) (.agg #[.int .i64 t.k, .int .i64 t.n, .string (tx t.s), .int .i64 t.x, .int .i64 t.y])).run Tryz.prog W = .ok (.bool true) W := fun W => by
              have h := eql_va t t W
              rwa [show decide (t = t) = true from decide_eq_true rfl] at h
            have hS3 : S3.out.length ≤ 4294967296 := by omega
            go_wp2_with (fail)
            refine (same_pairs S3.out A3 Ap4 c3 cp4 _ HU18.out HN4.out hS3).mono ?_
            rintro e w19 ⟨rfl, hb⟩
            have HB19 := Lib.hid (Below.next HB18.out hb)
            have HE19 := Lib.hid (HE18.out.next hb)
            have HL19 := Lib.hid (HL18.out.next hb)
            have HRb119 := Lib.hid (HRb118.out.next hb)
            have HS19 := Lib.hid (HS18.out.next hb)
            have HRb219 := Lib.hid (HRb218.out.next hb)
            have HT19 := Lib.hid (HT18.out.next hb)
            have HRb319 := Lib.hid (HRb318.out.next hb)
            have HU19 := Lib.hid (HU18.out.next hb)
            clear HB18 HE18 HL18 HRb118 HS18 HRb218 HT18 HRb318 HU18 hltRb1_ qRb10 qRb11 qRb12 qRb13 qRb14 qRb15 qRb16 hltRb2_ qRb20 qRb21 qRb22 qRb23 qRb24 qRb25 qRb26 hltRb3_ qRb30 qRb31 qRb32 qRb33 qRb34 qRb35 qRb36 hb
            go_wp2_with (fail)
            go_ret
            exact ⟨by simp, HB19.out⟩
end Go.Proofs.YtcdjincaedpodaaGreatDoor.Ev

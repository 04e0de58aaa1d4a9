/-
  Small texts of this claim, together: DkLaw, DkDone, DkKeeps, DkNames, DkCopy, DkCopies, RdMem, RdFind, DkRooms.
-/
import Derived.Test.YtchmepalhldpcaaQ1
import Derived.Test.YtchmepalhldpcaaQDkWrite
import Derived.BigQuiet
import Derived.Deep.Onto
import Derived.Lib.SliceRun
import Derived.Carry
import Derived.Deep.AppendLies
import Derived.Deep.RegionLaw
import Derived.Deep.Cut
import Derived.IntWalk
namespace Go.Proofs.Ytchmepalhldpcaa.Dk
open Go.ChangeShapes Go.WideShapes Go.ChangeAt Go.RowKit Go.ChangeMaps Go.Maps Go.MapKept Ov
theorem TurnsTo.over {w w1 w2 : World} {O : Nat → Prop} {d sz : Nat} {L : List (List UInt8 × List UInt8)} (h : TurnsTo O d sz L w1 w2) (k : Below w.heap.size w w1) : TurnsTo O d sz L w w2 := by
 obtain ⟨O', h1, h2, h3⟩ := h
 exact ⟨O', h1, (Below.kp O k).trans h2 fun _ => .inl, fun b hb => (h3 b hb).imp id fun h => Nat.le_trans k.size h⟩
theorem TurnsTo.below {w w1 w2 : World} {O : Nat → Prop} {d sz : Nat} {L : List (List UInt8 × List UInt8)} (h : TurnsTo O d sz L w1 w2) (k : Below w.heap.size w w1) (hO : ∀ b, O b → w.heap.size ≤ b) : Below w.heap.size w w2 := by
 obtain ⟨O', _, h2, _⟩ := h
 exact k.trans (h2.below hO k.size)
theorem nO_lo {w : World} {b : Nat} (h : nO w b) : w.heap.size ≤ b := by unfold nO at h; omega
def eA : List (List UInt8 × List UInt8) := [([97], [120, 121, 122])]
theorem wrt1 : wrt 20 [97] [120, 121, 122] [] = (0, eA) := by decide
theorem wrt2 : wrt 20 [98] [] eA = (9, eA) := by decide
theorem us_eA : (20 - us eA : Nat) = 0 := by decide
set_option maxHeartbeats 2000000 in
theorem awake_any (w : World) : Calls Try.prog 4 #[] w (Gives (.bool true) w) := by
 have hn := new_yes 20 (by decide) w
 go_enter Try.func4, Try.ntmps4
 go_wp2_with (fail)
 refine hn.mono ?_
 rintro e w1 ⟨rfl, h1, hb1⟩
 have hw1 := write_any ⟨#[97]⟩ ⟨#[120, 121, 122]⟩ (by decide) w1 h1
 change Calls _ _ _ w1 (WriteQ _ _ 20 (wrt 20 [97] [120, 121, 122] []) w1) at hw1
 rw [wrt1] at hw1
 have HB1 := Lib.hid hb1
 have HW1 := Lib.hid hw1
 clear hn h1 hb1 hw1
 obtain ⟨D, hD⟩ : ∃ D, w.heap.size + 1 = D := ⟨_, rfl⟩
 rw [hD] at HW1 ⊢
 clear hD
 go_wp2_with (fail)
 refine HW1.out.mono ?_
 rintro e w2 ⟨rfl, ht⟩
 have HB2 := Lib.hid (ht.below HB1.out (fun b => nO_lo))
 obtain ⟨O2, h2, _, hO2⟩ := ht
 have hO2' : ∀ b, O2 b → w.heap.size ≤ b := fun b hb => (hO2 b hb).elim nO_lo fun h => Nat.le_trans HB1.out.size h
 have hr := room_any w2 h2
 rw [us_eA] at hr
 have HR := Lib.hid hr; have H2 := Lib.hid h2; have HO2 := Lib.hid hO2'
 clear hO2 hr h2 hO2'
 go_wp2_with (fail)
 refine HR.out.mono ?_
 rintro e w3 ⟨rfl, hb3⟩
 have H3 := H2.out.next hb3
 have hw3 := write_any ⟨#[98]⟩ ⟨#[]⟩ (by decide) w3 H3
 change Calls _ _ _ w3 (WriteQ _ _ 20 (wrt 20 [98] [] eA) w3) at hw3
 rw [wrt2] at hw3
 have HW3 := Lib.hid hw3
 have HB3 := Lib.hid (Below.next HB2.out hb3)
 clear hb3 H3 hw3
 go_wp2_with (fail)
 refine HW3.out.mono ?_
 rintro e w4 ⟨rfl, ht⟩
 have HB4 := Lib.hid (ht.below HB3.out HO2.out)
 clear ht
 go_wp2_with (fail)
 go_ret
 exact ⟨rfl, HB4.out⟩
def FewQ (l : List Ac) (w : World) (e : Ending) (w' : World) : Prop := ∃ b : Bool, e = .returned (.bool b) ∧ Below w.heap.size w w' ∧ (b = true → l.length ≤ 100 ∧ ∀ x ∈ l, x.n.size ≤ 20000 ∧ x.s.size ≤ 20000)
set_option maxRecDepth 100000 in
set_option maxHeartbeats 2000000 in
theorem few_any (A : Option Addr) (c : Nat) (l : List Ac) (w : World) (h : Acs w A l) : Calls Try.prog 5 #[.slice A l.length c] w (FewQ l w) := by
 have HN := Lib.hid h
 clear h
 go_enter Try.func5, Try.ntmps5
 go_wp2_with (fail)
 go_loopg [3, 4] (l.length + 1) (fun kx s3 s4 wr => ∃ (j q m : Nat), j ≤ l.length ∧ j ≤ 101 ∧ q ≤ j * 200000 ∧ l.length + 1 - j ≤ kx ∧ s3 = .int .i64 q ∧ s4 = .int .i64 j ∧ wr = w.drewN m ∧
  Hid (∀ i, i < j → min (ad l i).s.size 100000 + min (ad l i).n.size 100000 ≤ q))
 case atStart => exact ⟨0, 0, 0, Nat.zero_le _, by omega, by omega, by omega, rfl, rfl, rfl, fun i hi => absurd hi (Nat.not_lt_zero _)⟩
 case round =>
  obtain ⟨j, q, m, hj, hj1, hq, hkx, rfl, rfl, rfl, HQ⟩ := hrel
  by_cases hlt : j < l.length ∧ j ≤ 100
  · obtain ⟨hlt, hl1⟩ := hlt
    have hltz : (j : Int) < (l.length : Int) := by omega
    have hl1z : (j : Int) ≤ 100 := by omega
    obtain ⟨G, O, rfl⟩ := HN.out.shape (by omega)
    have hd : Acs (w.drewN m) (some ⟨G, O, none⟩) l := HN.out
    have a1 := hd.cell hlt 1 _ rfl
    have a2 := hd.cell hlt 2 _ rfl
    have HZ := Lib.hid (rfl : (ad l j).s.size = (ad l j).s.size)
    obtain ⟨s0, hs0⟩ : ∃ s0, (ad l j).n = s0 := ⟨_, rfl⟩
    obtain ⟨s1, hs1⟩ : ∃ s1, (ad l j).s = s1 := ⟨_, rfl⟩
    rw [hs0] at a1; rw [hs1] at a2
    have HS0 := Lib.hid hs0; have HS1 := Lib.hid hs1
    clear hs0 hs1 HZ
    obtain ⟨z, hz, hz1⟩ : ∃ z : Nat, min ((s0.size : Nat) : Int) 100000 = (z : Int) ∧ z = min s0.size 100000 := ⟨min s0.size 100000, by omega, rfl⟩
    obtain ⟨y, hy, hy1⟩ : ∃ y : Nat, min ((s1.size : Nat) : Int) 100000 = (y : Int) ∧ y = min s1.size 100000 := ⟨min s1.size 100000, by omega, rfl⟩
    have HZ1 := Lib.hid hz1; have HY1 := Lib.hid hy1
    have hz2 : z ≤ 100000 := by omega
    have hy2 : y ≤ 100000 := by omega
    clear hz1 hy1 hd
    generalize hwo : w.drewN m = wo at *
    have HWO := Lib.hid hwo; clear hwo
    go_wp2_with (fail)
    go_quiet (fail)
    go_wp2_with (fail)
    go_roundg (l.length + 1 - (j + 1))
    case measure => omega
    case rel => exact ⟨j + 1, q + y + z, m + _, by omega, by omega, by omega, Nat.le_refl _, by go_num, by go_num, by rw [← HWO.out, World.drewN_drewN], fun i hi => by
     by_cases hij : i = j
     · subst hij
       rw [HS0.out, HS1.out, ← HZ1.out, ← HY1.out]; omega
     · have := HQ.out i (by omega); omega⟩
  · have hb := below_drewN (Below.refl w.heap.size w) m
    by_cases hjl : j < l.length
    · have hltz : (j : Int) < (l.length : Int) := by omega
      have hj2 : ¬ ((j : Int) ≤ 100) := by omega
      have hl2 : ¬ (l.length : Int) ≤ 100 := by omega
      go_wp2_with (fail)
      go_ret
      exact ⟨false, rfl, hb, fun h => by cases h⟩
    · have hltz : ¬ (j : Int) < (l.length : Int) := by omega
      obtain rfl : j = l.length := by omega
      clear hlt
      by_cases hl2 : ¬ (l.length : Int) ≤ 100
      · go_wp2_with (fail)
        go_ret
        exact ⟨false, rfl, hb, fun h => by cases h⟩
      have hl3 : (l.length : Int) ≤ 100 := by omega
      by_cases hq2 : ¬ (q : Int) ≤ 20000
      · go_wp2_with (fail)
        go_ret
        exact ⟨false, rfl, hb, fun h => by cases h⟩
      have hq3 : (q : Int) ≤ 20000 := by omega
      clear hl2 hq2
      go_wp2_with (fail)
      go_ret
      refine ⟨true, rfl, hb, fun _ => ⟨by omega, fun p hp => ?_⟩⟩
      obtain ⟨i, hi, rfl⟩ := List.getElem_of_mem hp
      have := HQ.out i hi
      rw [ad_at hi] at this
      omega
abbrev Ls : Type := List (List UInt8 × List UInt8)
def stp (sz : Nat) (L : Ls) (x : Ac) : Ls × List UInt8 × Int :=
 if x.o.toNat % 8 = 4 then (L, match gt x.n.data.toList L with | some s => (s, 0) | none => ([], 8))
 else if x.o.toNat % 8 = 5 then (rm x.n.data.toList L, [], if (gt x.n.data.toList L).isSome then 0 else 8)
 else if x.o.toNat % 8 = 6 then ((spo x.n.data.toList x.i x.b L).getD L, [], if (spo x.n.data.toList x.i x.b L).isSome then 1 else 0)
 else if x.o.toNat % 8 = 7 then ([], [], (L.length : Int))
 else ((wrt sz x.n.data.toList x.s.data.toList L).2, [], ((wrt sz x.n.data.toList x.s.data.toList L).1 : Int))
def DoneQ (O : Nat → Prop) (d sz : Nat) (q : Ls × List UInt8 × Int) (w : World) (e : Ending) (w' : World) : Prop :=
 e = .returned (.tuple #[.string (tx q.2.1), .int .i64 q.2.2]) ∧ TurnsTo O d sz q.1 w w'
theorem rem_u8 (x : UInt8) : ((x.toNat : Int)).tmod 8 = ((x.toNat % 8 : Nat) : Int) := by
 rw [Int.tmod_eq_emod_of_nonneg (by omega)]; omega
set_option maxHeartbeats 4000000 in
set_option maxRecDepth 100000 in
theorem done_any {O : Nat → Prop} {d sz : Nat} {L : Ls} (x : Ac) (hn : x.n.size ≤ maxLen) (hs : x.s.size ≤ 2305843009213693952) (w : World) (h : IsD w O d sz L) :
 Calls Try.prog 7 #[.pointer (some ⟨d, 0, none⟩), .agg (acl x).toArray] w (DoneQ O d sz (stp sz L x) w) := by
 obtain ⟨o, n, s, i, b⟩ := x
 have HB := Lib.hid (box1 w (.cells (acl ⟨o, n, s, i, b⟩).toArray 35))
 have HK := Lib.hid (Blk.made w 35 (acl ⟨o, n, s, i, b⟩) rfl)
 have H := Lib.hid (h.next HB.out)
 have hr := rem_u8 o
 have hr8 : o.toNat % 8 < 8 := Nat.mod_lt _ (by omega)
 clear h
 show Calls _ _ #[_, .agg #[.int .u8 (o.toNat : Int), .string n, .string s, .int .i64 i, .int .u8 (b.toNat : Int)]] _ _
 obtain ⟨r, hrr⟩ : ∃ r, o.toNat % 8 = r := ⟨_, rfl⟩
 rw [hrr] at hr hr8
 go_enter Try.func7, Try.ntmps7
 go_upto_region 1 with (fail)
 have k0 := HK.out.c 0 _ rfl; have k1 := HK.out.c 1 _ rfl; have k2 := HK.out.c 2 _ rfl; have k3 := HK.out.c 3 _ rfl; have k4 := HK.out.c 4 _ rfl
 change (w.alloc (.cells #[.int .u8 (o.toNat : Int), .string n, .string s, .int .i64 i, .int .u8 (b.toNat : Int)] 35)).cell? _ = some _ at k0 k1 k2 k3 k4
 change Hid (Below w.heap.size w (w.alloc (.cells #[.int .u8 (o.toNat : Int), .string n, .string s, .int .i64 i, .int .u8 (b.toNat : Int)] 35))) at HB
 change Hid (IsD (w.alloc (.cells #[.int .u8 (o.toNat : Int), .string n, .string s, .int .i64 i, .int .u8 (b.toNat : Int)] 35)) O d sz L) at H
 generalize w.alloc (.cells #[.int .u8 (o.toNat : Int), .string n, .string s, .int .i64 i, .int .u8 (b.toNat : Int)] 35) = w1 at *
 clear HK
 dsimp only at k0 k1 k2 k3 k4
 have hn' : n.size ≤ maxLen := hn
 have hs' : s.size ≤ 2305843009213693952 := hs
 clear hn hs
 go_upto_region 2 with (fail)
 by_cases e4 : r = 4
 · have t4 : ((r : Int) == 4) = true := by rw [e4]; rfl
   have HST : Hid (stp sz L ⟨o, n, s, i, b⟩ = (L, match gt n.data.toList L with | some s => (s, 0) | none => ([], 8))) := Lib.hid (if_pos (hrr.trans e4))
   cases hg : gt n.data.toList L with
   | none =>
     have hc := read_any n hn' w1 H.out
     rw [hg] at hc
     change Calls _ _ _ w1 (Gives (.tuple #[.string ⟨#[]⟩, .int .i64 8]) w1) at hc
     have HC := Lib.hid hc; have HG := Lib.hid hg
     clear hc hg hrr hr hr8 e4
     go_wp2_with (fail)
     refine HC.out.mono ?_
     rintro e w2 ⟨rfl, hb⟩
     have HB2 := Lib.hid hb; clear hb k0 k1 k2 k3 k4
     go_wp2_with (fail)
     go_ret2
     rw [HST.out, HG.out]
     exact ⟨rfl, (H.out.stays HB2.out).over HB.out⟩
   | some s2 =>
     have hc := read_any n hn' w1 H.out
     rw [hg] at hc
     change Calls _ _ _ w1 (Gives (.tuple #[.string (tx s2), .int .i64 0]) w1) at hc
     have HC := Lib.hid hc; have HG := Lib.hid hg
     clear hc hg hrr hr hr8 e4
     go_wp2_with (fail)
     refine HC.out.mono ?_
     rintro e w2 ⟨rfl, hb⟩
     have HB2 := Lib.hid hb; clear hb k0 k1 k2 k3 k4
     go_wp2_with (fail)
     go_ret2
     rw [HST.out, HG.out]
     exact ⟨rfl, (H.out.stays HB2.out).over HB.out⟩
 have t4 : ((r : Int) == 4) = false := beq_eq_false_iff_ne.2 (by omega)
 by_cases e5 : r = 5
 · have t5 : ((r : Int) == 5) = true := by rw [e5]; rfl
   have HST : Hid (stp sz L ⟨o, n, s, i, b⟩ = (rm n.data.toList L, [], if (gt n.data.toList L).isSome then 0 else 8)) := Lib.hid ((if_neg (fun e => e4 (hrr.symm.trans e))).trans (if_pos (hrr.trans e5)))
   have hc := delete_any n hn' w1 H.out
   obtain ⟨v, hv⟩ : ∃ v : Int, (if (gt n.data.toList L).isSome then 0 else 8) = v := ⟨_, rfl⟩
   rw [hv] at hc HST
   have HC := Lib.hid hc
   clear hc hv hrr hr hr8 e4 e5
   go_wp2_with (fail)
   refine HC.out.mono ?_
   rintro e w2 ⟨rfl, ht⟩
   have HT := Lib.hid ht; clear ht k0 k1 k2 k3 k4
   go_wp2_with (fail)
   go_ret2
   rw [HST.out]
   exact ⟨rfl, HT.out.over HB.out⟩
 have t5 : ((r : Int) == 5) = false := beq_eq_false_iff_ne.2 (by omega)
 by_cases e6 : r = 6
 · have t6 : ((r : Int) == 6) = true := by rw [e6]; rfl
   have HST : Hid (stp sz L ⟨o, n, s, i, b⟩ = ((spo n.data.toList i b L).getD L, [], if (spo n.data.toList i b L).isSome then 1 else 0)) := Lib.hid ((if_neg (fun e => e4 (hrr.symm.trans e))).trans ((if_neg (fun e => e5 (hrr.symm.trans e))).trans (if_pos (hrr.trans e6))))
   have HC := Lib.hid (spoil_any n hn' i b w1 H.out)
   clear hrr hr hr8 e4 e5 e6
   cases hg : spo n.data.toList i b L with
   | none =>
     rw [hg] at HC HST
     go_wp2_with (fail)
     refine HC.out.mono ?_
     rintro e w2 ⟨rfl, ht⟩
     have HT := Lib.hid ht; clear ht k0 k1 k2 k3 k4
     go_wp2_with (fail)
     go_ret2
     rw [HST.out]
     exact ⟨rfl, HT.out.over HB.out⟩
   | some L2 =>
     rw [hg] at HC HST
     go_wp2_with (fail)
     refine HC.out.mono ?_
     rintro e w2 ⟨rfl, ht⟩
     have HT := Lib.hid ht; clear ht k0 k1 k2 k3 k4
     go_wp2_with (fail)
     go_ret2
     rw [HST.out]
     exact ⟨rfl, HT.out.over HB.out⟩
 have t6 : ((r : Int) == 6) = false := beq_eq_false_iff_ne.2 (by omega)
 by_cases e7 : r = 7
 · have t7 : ((r : Int) == 7) = true := by rw [e7]; rfl
   have HST : Hid (stp sz L ⟨o, n, s, i, b⟩ = ([], [], (L.length : Int))) := Lib.hid ((if_neg (fun e => e4 (hrr.symm.trans e))).trans ((if_neg (fun e => e5 (hrr.symm.trans e))).trans ((if_neg (fun e => e6 (hrr.symm.trans e))).trans (if_pos (hrr.trans e7)))))
   have HC := Lib.hid (lose_any w1 H.out)
   clear hrr hr hr8 e4 e5 e6 e7
   go_wp2_with (fail)
   refine HC.out.mono ?_
   rintro e w2 ⟨rfl, ht⟩
   have HT := Lib.hid ht; clear ht k0 k1 k2 k3 k4
   go_wp2_with (fail)
   go_ret2
   rw [HST.out]
   exact ⟨rfl, HT.out.over HB.out⟩
 have t7 : ((r : Int) == 7) = false := beq_eq_false_iff_ne.2 (by omega)
 have HST : Hid (stp sz L ⟨o, n, s, i, b⟩ = ((wrt sz n.data.toList s.data.toList L).2, [], ((wrt sz n.data.toList s.data.toList L).1 : Int))) := Lib.hid ((if_neg (fun e => e4 (hrr.symm.trans e))).trans ((if_neg (fun e => e5 (hrr.symm.trans e))).trans ((if_neg (fun e => e6 (hrr.symm.trans e))).trans (if_neg (fun e => e7 (hrr.symm.trans e))))))
 have HC := Lib.hid (write_any n s hs' w1 H.out)
 clear hrr hr hr8 e4 e5 e6 e7
 go_wp2_with (fail)
 refine HC.out.mono ?_
 rintro e w2 ⟨rfl, ht⟩
 have HT := Lib.hid ht; clear ht k0 k1 k2 k3 k4
 go_wp2_with (fail)
 go_ret2
 rw [HST.out]
 exact ⟨rfl, HT.out.over HB.out⟩
def Mine (w : World) (d sz : Nat) (L : Ls) (wr : World) : Prop := ∃ O, IsD wr O d sz L ∧ (∀ b, O b → w.heap.size ≤ b) ∧ Below w.heap.size w wr
theorem IsD.srt {w : World} {O : Nat → Prop} {d sz : Nat} {L : Ls} (h : IsD w O d sz L) : Srt L := by
 obtain ⟨m, E, h, rfl⟩ := h; exact h.sL
theorem Acs.old {w wr : World} {A : Option Addr} {l : List Ac} (h : Acs w A l) (k : Below w.heap.size w wr) : Acs wr A l := h.kp (Below.kp (fun _ => False) k) fun _ _ h => h.elim
theorem tol_eq {a b : ByteArray} : (a.toList == b.toList) = decide (a.data.toList = b.data.toList) := by
 rw [ByteArray.toList_eq, ByteArray.toList_eq]
 by_cases h : a.data.toList = b.data.toList
 · rw [decide_eq_true h, beq_iff_eq.2 h]
 · rw [decide_eq_false h, beq_eq_false_iff_ne.2 h]
end Go.Proofs.Ytchmepalhldpcaa.Dk
namespace Go.Proofs.Ytchmepalhldpcaa.Dk
open Go.ChangeShapes Go.WideShapes Go.ChangeAt Go.RowKit Go.Sort Go.Maps Go.Proofs Ov
theorem keys_plain (mb : Option Nat) (w : World) : Calls Try.prog 23 #[.map mb] w fun e w' => e = .returned (.func (.func 27) #[] #[.pointer (some ⟨w.heap.size, 0, none⟩)]) ∧ w' = w.alloc (.cells #[.map mb] 43) :=
 callsIn_wide.1 (keys_in mb w)
theorem srt_le {α : Type} {l : List (List UInt8 × α)} (h : Srt l) : (l.map (·.1)).Pairwise fun a b => decide (a ≤ b) = true := by
 rw [List.pairwise_map]
 exact h.imp fun hb => decide_eq_true (bf_le hb)
theorem sorted_names {E : List Et} (h : Srt E) {ss : List (List UInt8)} (hp : ss.Perm (strKeys (dm (mp (·.2) E)))) : ss.mergeSort (fun x y => decide (x ≤ y)) = E.map (·.1) := by
 rw [mergeSort_of_perm hp, dm_keys, show (mp (·.2) E).map (·.1) = E.map (·.1) by unfold mp; rw [List.map_map]; rfl]
 exact List.mergeSort_of_pairwise (srt_le h)
theorem sorted_plain {O : Nat → Prop} {d m sz : Nat} {E : List Et} {w : World} (h : Dk w O d m sz E) :
 Calls Try.prog 22 #[.func (.func 27) #[] #[.pointer (some ⟨w.heap.size, 0, none⟩)]] (w.alloc (.cells #[.map (some m)] 43)) fun e w' => ∃ v, e = .returned v ∧
  w'.ownsRow w.heap.size 9 1 v E.length ((E.map (·.1)).map encStr) ∧ Below w.heap.size w w' := by
 have hl : Maps.size (dm (mp (·.2) E)) = E.length := by rw [dm_size]; simp [mp]
 have hn := h.len
 refine (callsIn_wide.1 (sorted_in m E.length (dm (mp (·.2) E)) RV w h.o (by rw [hl]; unfold maxLen; omega) (by rw [hl]; omega))).mono ?_
 rintro e w' ⟨v, ss, rfl, hS, hrow, _, hb⟩
 rw [sorted_names h.s hS] at hrow
 have hs : ss.length = E.length := by rw [hS.length_eq, dm_keys]; simp [mp]
 rw [hs] at hrow
 exact ⟨v, rfl, World.ownsRow.mono hrow (by omega), (box1 w _).trans (hb.mono (by simp))⟩
theorem own_slice {w : World} {base size n : Nat} {e : TypeId} {v : Value} {xs : List Value} (h : w.ownsRow base e size v n xs) : ∃ A c, v = .slice A n c ∧ n ≤ c := by
 rcases h.2 with ⟨rfl, rfl⟩ | ⟨g, cap, cur, rfl, _, _, hc, _⟩
 · exact ⟨none, 0, rfl, Nat.le_refl _⟩
 · exact ⟨_, cap, rfl, hc⟩
def nms (L : List (List UInt8 × List UInt8)) : List Value := L.map fun x => encStr x.1
def NamesQ (L : List (List UInt8 × List UInt8)) (w : World) (e : Ending) (w' : World) : Prop := ∃ v, e = .returned v ∧ w'.ownsRow w.heap.size 9 1 v L.length (nms L) ∧ Below w.heap.size w w'
theorem nms_at (L : List (List UInt8 × List UInt8)) (i : Nat) (h : i < L.length) : (nms L)[i]? = some (.string (tx L[i].1)) := by simp [nms, h]; rfl
set_option maxHeartbeats 4000000 in
set_option maxRecDepth 100000 in
theorem names_any {O : Nat → Prop} {d sz : Nat} {L : List (List UInt8 × List UInt8)} (w : World) (h : IsD w O d sz L) :
 Calls Try.prog 12 #[.pointer (some ⟨d, 0, none⟩)] w (NamesQ L w) := by
 obtain ⟨m, E, h, rfl⟩ := h
 have c1 := h.h.c 1 _ rfl
 have hc := sorted_plain h
 have hlen := h.len
 have hn := h.n
 have e1 : (E.map (·.1)).map encStr = nms (mp (·.1) E) := by unfold nms mp; rw [List.map_map, List.map_map]; rfl
 have e2 : E.length = (mp (·.1) E).length := by simp [mp]
 have hn' : ∀ x ∈ mp (·.1) E, x.1.length ≤ 64 := fun x hx => by
  obtain ⟨y, hy, rfl⟩ := List.mem_map.1 hx
  exact (hn y hy).2
 rw [e1, e2] at hc
 rw [e2] at hlen
 have HC := Lib.hid hc; have HN := Lib.hid hn'
 clear h hc hn hn' e1 e2
 generalize mp (·.1) E = L at *
 go_enter Try.func12, Try.ntmps12
 go_wp2_with (fail)
 refine (keys_plain (some m) w).mono ?_
 rintro e w1 ⟨rfl, hw⟩
 subst hw
 go_wp2_with (fail)
 refine HC.out.mono ?_
 rintro e w1 ⟨v, rfl, hrow, hb⟩
 have HB := Lib.hid hb; have HO := Lib.hid hrow
 obtain ⟨A, c, rfl, hlc⟩ := own_slice hrow
 clear hb hrow HC c1
 go_wp2_with (fail)
 go_loopw [16, 4, 5] (fun I _ _ wr => ∃ i : Nat, i ≤ L.length ∧ I = .int .i64 (i : Int) ∧ wr.ownsRow w.heap.size 9 1 (.slice A L.length c) L.length (nms L) ∧ Below w.heap.size w wr) (fun I _ _ _ => L.length - (intOf I).toNat)
 case atStart => exact ⟨0, by omega, rfl, HO.out, HB.out⟩
 case round =>
  obtain ⟨i, hi, rfl, ho, hb⟩ := hrel
  have HO2 := Lib.hid ho; have HB2 := Lib.hid hb
  clear HO HB hb
  by_cases hlt : i < L.length
  · obtain ⟨g, cap, e⟩ : ∃ g cap, (Value.slice A L.length c) = .slice (some ⟨g, 0, none⟩) L.length cap := by
     rcases ho.2 with ⟨_, h0⟩ | ⟨g, cap, cur, e, _⟩
     · omega
     · exact ⟨g, cap, e⟩
    injection e with e1 _ e2
    subst e1; subst e2
    have hcell := ho.cellAt i (by omega)
    rw [nms_at L i hlt] at hcell
    have hf := ho.frozenAt i
    have hz : L[i].1.length ≤ 64 := HN.out _ (List.getElem_mem _)
    have HS2 : Hid ((nms L).set i (.string (tx L[i].1)) = nms L) := Lib.hid (by
     apply List.ext_getElem?
     intro j
     by_cases e : i = j
     · subst e
       rw [List.getElem?_set_self (by unfold nms; simpa using hlt), nms_at L i hlt]
     · rw [List.getElem?_set_ne e])
    have HG : Hid (w.heap.size ≤ g) := Lib.hid (ho.lt g rfl).1
    have hb2 := HB2.out
    obtain ⟨y, hy⟩ : ∃ y, tx L[i].1 = y := ⟨_, rfl⟩
    have HYC : Hid ((nms L)[i]? = some (.string y)) := Lib.hid (by rw [nms_at L i hlt, hy])
    have hz2 : (tx L[i].1).size ≤ 64 := by rw [tx_size]; exact hz
    rw [hy] at hcell HS2 hz2
    clear hy hz
    have HCL := Lib.hid (clone_any y wr (by omega))
    have HB3 := Lib.hid hb2
    clear ho hb2 hz2
    go_wp2_with (fail)
    refine HCL.out.mono ?_
    rintro e w3 ⟨rfl, hb3⟩
    have ho3 : w3.ownsRow w.heap.size 9 1 (.slice (some ⟨g, 0, none⟩) L.length c) L.length (nms L) := own_kp HO2.out (Below.kp (fun _ => False) hb3) (fun _ _ h => h)
    have hf3 := ho3.frozenAt i
    have hcell3 := ho3.cellAt i (by omega)
    rw [HYC.out] at hcell3
    have HS := Lib.hid (ho3.stored i (.string y))
    have HB4 := Lib.hid (Below.next HB3.out hb3)
    clear ho3 hb3
    go_wp2_with (fail)
    go_roundw
    case rel => exact ⟨i + 1, by omega, by go_num, by have := HS.out.1; rw [HS2.out] at this; exact this, HB4.out.setCell HG.out _⟩
    case measure => simp [intOf]; omega
  · obtain rfl : i = L.length := by omega
    go_wp2_with (fail)
    go_ret
    exact ⟨_, rfl, HO2.out, HB2.out⟩
end Go.Proofs.Ytchmepalhldpcaa.Dk
namespace Go.Proofs.Ytchmepalhldpcaa.Dk
open Go.ChangeShapes Go.WideShapes Go.ChangeAt Go.RowKit Go.ChangeMaps Go.Maps Go.MapKept Ov
section
variable {w wr w2 : World} {sz : Nat} {ds : List (Nat × Ls)}
end
set_option maxHeartbeats 2000000 in
set_option maxRecDepth 100000 in
theorem same_yes (A B : Option Addr) (n c c' : Nat) (t : Nat → ByteArray) (w : World) (hA : Strs w A n t) (hB : Strs w B n t) (hn : n ≤ 1000000) : Calls Try.prog 11 #[.slice A n c, .slice B n c'] w (Gives (.bool true) w) := by
 have HA := Lib.hid hA; have HB := Lib.hid hB
 clear hA hB
 go_enter Try.func11, Try.ntmps11
 go_wp2_with (fail)
 go_loopw [5] (fun I wr => ∃ i m : Nat, i ≤ n ∧ I = .int .i64 (i : Int) ∧ wr = w.drewN m) (fun I _ => n - (intOf I).toNat)
 case atStart => exact ⟨0, 0, by omega, rfl, rfl⟩
 case round =>
  obtain ⟨i, m, hi, rfl, rfl⟩ := hrel
  by_cases hlt : i < n
  · have hltz : (i : Int) < (n : Int) := by omega
    obtain ⟨G, O, rfl, hc⟩ := HA.out (by omega)
    obtain ⟨G2, O2, rfl, hc2⟩ := HB.out (by omega)
    have a0 : (w.drewN m).cell? ⟨G, O + i, none⟩ = some (.string (t i)) := hc i hlt
    have b0 : (w.drewN m).cell? ⟨G2, O2 + i, none⟩ = some (.string (t i)) := hc2 i hlt
    have tt : ((t i).toList == (t i).toList) = true := beq_self_eq_true _
    clear hc hc2
    generalize t i = ti at *
    generalize hwo : w.drewN m = wo at *
    have HWO := Lib.hid hwo; clear hwo
    go_wp2_with (fail)
    go_quiet (fail)
    go_wp2_with (fail)
    go_roundw
    case rel => exact ⟨i + 1, m + _, by omega, by go_num, by rw [← HWO.out, World.drewN_drewN]⟩
    case measure => simp [intOf]; omega
  · obtain rfl : i = n := by omega
    have HBB := Lib.hid (below_drewN (Below.refl w.heap.size w) m)
    go_wp2_with (fail)
    go_ret
    exact ⟨rfl, HBB.out⟩
def nmf (L : Ls) (i : Nat) : ByteArray := tx (L.getD i ([], [])).1
def hdf (L : Ls) (i : Nat) : ByteArray := tx (L.getD i ([], [])).2
def hds (L : Ls) : List Value := L.map fun x => .string (tx x.2)
theorem nmf_at {L : Ls} {i : Nat} (h : i < L.length) : nmf L i = tx L[i].1 := by unfold nmf; simp [List.getD, h]
theorem hdf_at {L : Ls} {i : Nat} (h : i < L.length) : hdf L i = tx L[i].2 := by unfold hdf; simp [List.getD, h]
def RD (w : World) (L : Ls) (v1 v2 : Value) : Prop := ∃ A1 c1 A2 c2, v1 = .slice A1 L.length c1 ∧ v2 = .slice A2 L.length c2 ∧ Strs w A1 L.length (nmf L) ∧ Strs w A2 L.length (hdf L)
def rdv3 (sz : Nat) (v1 v2 : Value) : Value := .agg #[.int .i64 (sz : Int), v1, v2]
section
variable {w w' : World} {L : Ls} {v1 v2 : Value}
theorem RD.next (h : RD w L v1 v2) (k : Below w.heap.size w w') : RD w' L v1 v2 := by
 obtain ⟨A1, c1, A2, c2, rfl, rfl, h1, h2⟩ := h
 exact ⟨A1, c1, A2, c2, rfl, rfl, h1.old k, h2.old k⟩
theorem box_rd (w : World) (sz : Nat) (v1 v2 : Value) : Blk (w.alloc (.cells #[.int .i64 (sz : Int), v1, v2] 31)) w.heap.size [.int .i64 (sz : Int), v1, v2] := Blk.made w 31 [.int .i64 (sz : Int), v1, v2] rfl
theorem strs_row {base n c : Nat} {A : Option Addr} {f : Nat → ByteArray} {xs : List Value} (h : w.ownsRow base 9 1 (.slice A n c) n xs) (hf : ∀ i, i < n → xs[i]? = some (.string (f i))) : Strs w A n f := fun h0 => by
 rcases h.2 with ⟨_, e⟩ | ⟨g, cap, cur, e, _⟩
 · omega
 · injection e with e1 e2 e3
   subst e1; subst e3
   exact ⟨g, 0, rfl, fun i hi => by rw [Nat.zero_add, h.cellAt i (by omega)]; exact hf i hi⟩
end
structure RH (w : World) (lo b : Nat) (sz : Nat) (xs ys : List Value) (v1 v2 : Value) : Prop where
 h : Blk w b [.int .i64 (sz : Int), v1, v2]
 o1 : w.ownsRow lo 9 1 v1 xs.length xs
 o2 : w.ownsRow lo 9 1 v2 ys.length ys
 n1 : v1.ownBlock ≠ some b
 n2 : v2.ownBlock ≠ some b
 n3 : ∀ g, v1.ownBlock = some g → v2.ownBlock ≠ some g
 l : lo ≤ b
section
variable {w w0 w' : World} {lo b sz g c : Nat} {xs ys : List Value} {v1 v2 : Value}
theorem owns_old {n : Nat} {v : Value} {zs : List Value} {base : Nat} {e : TypeId} (h : w.ownsRow base e 1 v n zs) (k : Below w.heap.size w w') : w'.ownsRow base e 1 v n zs := own_kp h (Below.kp (fun _ => False) k) fun _ _ h => h
theorem RH.next (h : RH w lo b sz xs ys v1 v2) (k : Below w.heap.size w w') : RH w' lo b sz xs ys v1 v2 := ⟨h.h.next k, owns_old h.o1 k, owns_old h.o2 k, h.n1, h.n2, h.n3, h.l⟩
theorem own_is {g' n c' : Nat} (h : (Value.slice (some ⟨g, 0, none⟩) n c').ownBlock = some g') : g' = g := by
 have e' : some g = some g' := h
 injection e' with e'; exact e'.symm
theorem RH.app1 (h : RH w lo b sz xs ys v1 v2) (k : Below w.heap.size w w0) (x : Value) (ho : w'.ownsRow lo 9 1 (.slice (some ⟨g, 0, none⟩) (xs.length + 1) c) (xs.length + 1) (xs ++ [x])) (hg : w0.grownBy w' v1.ownBlock) (hat : v1.ownBlock = some g ∨ w.heap.size ≤ g) :
 RH (w'.setCell ⟨b, 1, none⟩ (.slice (some ⟨g, 0, none⟩) (xs.length + 1) c)) lo b sz (xs ++ [x]) ys (.slice (some ⟨g, 0, none⟩) (xs.length + 1) c) v2 ∧ Blk w' b [.int .i64 (sz : Int), v1, v2] := by
 have h0 := h.next k
 have hkp : Kp (fun q => v1.ownBlock = some q) w0 w' := ⟨hg.os, hg.tape, hg.output, hg.size, fun q hq hn => hg.block q hq fun e => hn e.symm⟩
 have hb := h0.h.kp hkp h.n1
 have hgb : g ≠ b := by
  rcases hat with e | e
  · exact fun q => h.n1 (by rw [e, q])
  · have := h.h.lt; omega
 have hl : (xs ++ [x]).length = xs.length + 1 := by simp
 have hs : Kp (fun q => q = b) w' (w'.setCell ⟨b, 1, none⟩ (.slice (some ⟨g, 0, none⟩) (xs.length + 1) c)) := (Kp.refl (fun q => q = b) w').setCell rfl _ _
 refine ⟨⟨?_, ?_, ?_, fun e => hgb (own_is e).symm, h.n2, fun q e => ?_, h.l⟩, hb⟩
 · exact (hb.set 1 _).cast rfl
 · rw [hl]
   exact own_kp ho hs fun q e => by rw [own_is e]; exact hgb
 · have h2 : w'.ownsRow lo 9 1 v2 ys.length ys := own_kp h0.o2 hkp fun q e e' => h.n3 q e' e
   exact own_kp h2 hs fun q e e' => h.n2 (by rw [e, e'])
 · obtain rfl := own_is e
   rcases hat with e2 | e2
   · exact h.n3 _ e2
   · intro e3
     rcases h.o2.2 with ⟨rfl, _⟩ | ⟨g2, cap, cur, rfl, _, hc, _⟩
     · cases e3
     · have := own_is e3
       have hlt := (Array.getElem?_eq_some_iff.1 hc).1
       omega
theorem RH.app2 (h : RH w lo b sz xs ys v1 v2) (k : Below w.heap.size w w0) (x : Value) (ho : w'.ownsRow lo 9 1 (.slice (some ⟨g, 0, none⟩) (ys.length + 1) c) (ys.length + 1) (ys ++ [x])) (hg : w0.grownBy w' v2.ownBlock) (hat : v2.ownBlock = some g ∨ w.heap.size ≤ g) :
 RH (w'.setCell ⟨b, 2, none⟩ (.slice (some ⟨g, 0, none⟩) (ys.length + 1) c)) lo b sz xs (ys ++ [x]) v1 (.slice (some ⟨g, 0, none⟩) (ys.length + 1) c) ∧ Blk w' b [.int .i64 (sz : Int), v1, v2] := by
 have h0 := h.next k
 have hkp : Kp (fun q => v2.ownBlock = some q) w0 w' := ⟨hg.os, hg.tape, hg.output, hg.size, fun q hq hn => hg.block q hq fun e => hn e.symm⟩
 have hb := h0.h.kp hkp h.n2
 have hgb : g ≠ b := by
  rcases hat with e | e
  · exact fun q => h.n2 (by rw [e, q])
  · have := h.h.lt; omega
 have hl : (ys ++ [x]).length = ys.length + 1 := by simp
 have hs : Kp (fun q => q = b) w' (w'.setCell ⟨b, 2, none⟩ (.slice (some ⟨g, 0, none⟩) (ys.length + 1) c)) := (Kp.refl (fun q => q = b) w').setCell rfl _ _
 refine ⟨⟨?_, ?_, ?_, h.n1, fun e => hgb (own_is e).symm, fun q e e2 => ?_, h.l⟩, hb⟩
 · exact (hb.set 2 _).cast rfl
 · have h2 : w'.ownsRow lo 9 1 v1 xs.length xs := own_kp h0.o1 hkp fun q e e' => h.n3 q e e'
   exact own_kp h2 hs fun q e e' => h.n1 (by rw [e, e'])
 · rw [hl]
   exact own_kp ho hs fun q e => by rw [own_is e]; exact hgb
 · obtain rfl := own_is e2
   rcases hat with e3 | e3
   · exact h.n3 _ e e3
   · rcases h.o1.2 with ⟨rfl, _⟩ | ⟨g2, cap, cur, rfl, _, hc, _⟩
     · cases e
     · have := own_is e
       have hlt := (Array.getElem?_eq_some_iff.1 hc).1
       omega
theorem RH.rd {L : Ls} (h : RH w lo b sz (nms L) (hds L) v1 v2) : RD w L v1 v2 := by
 have e1 : (nms L).length = L.length := by simp [nms]
 have e2 : (hds L).length = L.length := by simp [hds]
 have o1 := h.o1; have o2 := h.o2
 rw [e1] at o1; rw [e2] at o2
 obtain ⟨A1, c1, rfl, _⟩ := own_slice o1
 obtain ⟨A2, c2, rfl, _⟩ := own_slice o2
 exact ⟨A1, c1, A2, c2, rfl, rfl, strs_row o1 fun i hi => by rw [nms_at L i hi, nmf_at hi], strs_row o2 fun i hi => by rw [hdf_at hi]; simp [hds, hi]⟩
end
theorem infoS : (Try.prog.info? 9).map (fun i => (i.zero, i.size, i.bytes)) = some (some (.string ⟨#[]⟩), 1, 16) := by kernel_rfl
def FindQ (L : Ls) (n : List UInt8) (w : World) (e : Ending) (w' : World) : Prop :=
 ∃ r : Int, e = .returned (.int .i64 r) ∧ Below w.heap.size w w' ∧ ((r = -1 ∧ gt n L = none) ∨ ∃ (i : Nat) (s : List UInt8), i < L.length ∧ r = (i : Int) ∧ L[i]? = some (n, s))
set_option maxHeartbeats 2000000 in
set_option maxRecDepth 100000 in
theorem rfind_any (sz : Nat) (L : Ls) (v1 v2 : Value) (t : ByteArray) (w : World) (h : RD w L v1 v2) (hl : L.length ≤ 1000000) :
 Calls Try.prog 18 #[rdv3 sz v1 v2, .string t] w (FindQ L t.data.toList w) := by
 obtain ⟨A1, c1, A2, c2, rfl, rfl, h1, h2⟩ := h
 have hbx := box1 w (.cells #[.int .i64 (sz : Int), .slice A1 L.length c1, .slice A2 L.length c2] 31)
 have hk := box_rd w sz (.slice A1 L.length c1) (.slice A2 L.length c2)
 have k1 := hk.c 1 _ rfl
 have HS := Lib.hid (h1.old hbx); have HB := Lib.hid hbx
 clear h1 h2 hbx hk
 unfold rdv3
 go_enter Try.func18, Try.ntmps18
 go_upto_region 1 with (fail)
 obtain ⟨b, hb⟩ : ∃ b, w.heap.size = b := ⟨_, rfl⟩
 rw [hb] at k1 ⊢
 have HBB := Lib.hid hb
 generalize w.alloc (.cells #[.int .i64 (sz : Int), .slice A1 L.length c1, .slice A2 L.length c2] 31) = w1 at *
 clear hb
 go_wp2_with (fail)
 go_loopw [5] (fun I wr => ∃ i : Nat, i ≤ L.length ∧ I = .int .i64 (i : Int) ∧ (∀ (j : Nat) (hj : j < L.length), j < i → L[j].1 ≠ t.data.toList) ∧ wr = w1) (fun I _ => L.length - (intOf I).toNat)
 case atStart => exact ⟨0, by omega, rfl, fun j _ hj => absurd hj (Nat.not_lt_zero _), rfl⟩
 case round =>
  obtain ⟨i, hi, rfl, hne, rfl⟩ := hrel
  have HNE := Lib.hid hne
  clear hne
  by_cases hlt : i < L.length
  · have hltz : (i : Int) < (L.length : Int) := by omega
    obtain ⟨G, O, rfl, hc⟩ := HS.out (by omega)
    have a0 := hc i hlt
    have HE := Lib.hid (nmf_at hlt)
    obtain ⟨y, hy⟩ : ∃ y, nmf L i = y := ⟨_, rfl⟩
    rw [hy] at a0 HE
    clear hc hy
    by_cases he : y.data.toList = t.data.toList
    · have t1 : (y.toList == t.toList) = true := by rw [tol_eq]; exact decide_eq_true he
      have HQ : Hid (∃ s, L[i]? = some (t.data.toList, s)) := Lib.hid ⟨L[i].2, by
       rw [List.getElem?_eq_getElem hlt]
       have : L[i].1 = t.data.toList := by rw [← he, HE.out, tx_list]
       rw [← this]⟩
      clear he
      go_wp2_with (fail)
      go_ret
      obtain ⟨s, hs⟩ := HQ.out
      exact ⟨_, rfl, HB.out, .inr ⟨i, s, hlt, rfl, hs⟩⟩
    · have t1 : (y.toList == t.toList) = false := by rw [tol_eq]; exact decide_eq_false he
      have HN2 : Hid (∀ (j : Nat) (hj : j < L.length), j < i + 1 → L[j].1 ≠ t.data.toList) := Lib.hid fun j hj hji => by
       by_cases e : j = i
       · subst e; intro q; exact he (by rw [HE.out, tx_list, q])
       · exact HNE.out j hj (by omega)
      clear he
      go_wp2_with (fail)
      go_roundw
      case rel => exact ⟨i + 1, by omega, by go_num, HN2.out, trivial⟩
      case measure => simp [intOf]; omega
  · have hltz : ¬ (i : Int) < (L.length : Int) := by omega
    have HG : Hid (gt t.data.toList L = none) := Lib.hid (gt_of fun x hx => by
     obtain ⟨j, hj, rfl⟩ := List.getElem_of_mem hx
     exact HNE.out j hj (by omega))
    go_wp2_with (fail)
    go_ret
    exact ⟨-1, rfl, HB.out, .inl ⟨rfl, HG.out⟩⟩
theorem us_take {L : Ls} {i : Nat} (h : i < L.length) : us (L.take (i + 1)) = us (L.take i) + (L[i].1.length + L[i].2.length + 16) := by
 unfold us
 rw [List.take_succ_eq_append_getElem h, List.map_append, List.sum_append]
 simp [tk]
theorem us_part (L : Ls) (i : Nat) : us (L.take i) ≤ us L := by
 have h : us L = us (L.take i) + us (L.drop i) := by
  unfold us
  rw [← List.sum_append, ← List.map_append, List.take_append_drop]
 omega
set_option maxHeartbeats 2000000 in
set_option maxRecDepth 100000 in
theorem rroom_any (sz : Nat) (L : Ls) (v1 v2 : Value) (w : World) (h : RD w L v1 v2) (hu : us L ≤ sz) (hz : sz ≤ 4194304) :
 Calls Try.prog 10 #[rdv3 sz v1 v2] w (Gives (.int .i64 ((sz - us L : Nat) : Int)) w) := by
 obtain ⟨A1, c1, A2, c2, rfl, rfl, h1, h2⟩ := h
 have hbx := box1 w (.cells #[.int .i64 (sz : Int), .slice A1 L.length c1, .slice A2 L.length c2] 31)
 have hk := box_rd w sz (.slice A1 L.length c1) (.slice A2 L.length c2)
 have k0 := hk.c 0 _ rfl
 have k1 := hk.c 1 _ rfl
 have k2 := hk.c 2 _ rfl
 have HS := Lib.hid (h1.old hbx); have HH := Lib.hid (h2.old hbx); have HB := Lib.hid hbx
 have hl := us_len L
 clear h1 h2 hbx hk
 unfold rdv3
 go_enter Try.func10, Try.ntmps10
 go_upto_region 1 with (fail)
 obtain ⟨b, hb⟩ : ∃ b, w.heap.size = b := ⟨_, rfl⟩
 rw [hb] at k0 k1 k2 ⊢
 have HBB := Lib.hid hb
 generalize w.alloc (.cells #[.int .i64 (sz : Int), .slice A1 L.length c1, .slice A2 L.length c2] 31) = w1 at *
 clear hb
 go_wp2_with (fail)
 go_loopw [3, 4] (fun R I wr => ∃ i a m : Nat, i ≤ L.length ∧ I = .int .i64 (i : Int) ∧ R = .int .i64 (a : Int) ∧ a + us (L.take i) = sz ∧ wr = w1.drewN m) (fun _ I _ => L.length - (intOf I).toNat)
 case atStart => exact ⟨0, sz, 0, by omega, rfl, rfl, rfl, rfl⟩
 case round =>
  obtain ⟨i, a, m, hi, rfl, rfl, ha, rfl⟩ := hrel
  by_cases hlt : i < L.length
  · have hltz : (i : Int) < (L.length : Int) := by omega
    obtain ⟨G, O, rfl, hc⟩ := HS.out (by omega)
    obtain ⟨G2, O2, rfl, hc2⟩ := HH.out (by omega)
    have a0 : (w1.drewN m).cell? ⟨G, O + i, none⟩ = some (.string (nmf L i)) := hc i hlt
    have b0 : (w1.drewN m).cell? ⟨G2, O2 + i, none⟩ = some (.string (hdf L i)) := hc2 i hlt
    have d1 : (w1.drewN m).cell? ⟨b, 1, none⟩ = some (.slice (some ⟨G, O, none⟩) L.length c1) := k1
    have d2 : (w1.drewN m).cell? ⟨b, 2, none⟩ = some (.slice (some ⟨G2, O2, none⟩) L.length c2) := k2
    have hut := us_take hlt
    have hup := us_part L (i + 1)
    have e1 : (nmf L i).size = L[i].1.length := by rw [nmf_at hlt, tx_size]
    have e2 : (hdf L i).size = L[i].2.length := by rw [hdf_at hlt, tx_size]
    obtain ⟨y, hy⟩ : ∃ y, nmf L i = y := ⟨_, rfl⟩
    obtain ⟨z, hz⟩ : ∃ z, hdf L i = z := ⟨_, rfl⟩
    rw [hy] at a0 e1; rw [hz] at b0 e2
    obtain ⟨a', ha'⟩ : ∃ a', a = a' + y.size + z.size + 16 := ⟨a - (y.size + z.size + 16), by omega⟩
    subst ha'
    have HA : Hid (a' + us (L.take (i + 1)) = sz) := Lib.hid (by omega)
    have hb1 : a' + y.size + z.size + 16 ≤ 4194304 := by omega
    clear hc hc2 hut hup ha e1 e2 hy hz
    generalize hwo : w1.drewN m = wo at *
    have HWO := Lib.hid hwo; clear hwo
    have s1 : IntKind.i64.wrap (((a' + y.size + z.size + 16 : Nat) : Int) - (y.size : Int)) = ((a' + z.size + 16 : Nat) : Int) := by rw [IntWalk.i64_in _ (by omega)]; omega
    have s2 : IntKind.i64.wrap (((a' + z.size + 16 : Nat) : Int) - (z.size : Int)) = ((a' + 16 : Nat) : Int) := by rw [IntWalk.i64_in _ (by omega)]; omega
    have s3 : IntKind.i64.wrap (((a' + 16 : Nat) : Int) - 16) = (a' : Int) := by rw [IntWalk.i64_in _ (by omega)]; omega
    obtain ⟨x1, hx1⟩ : ∃ x1, a' + y.size + z.size + 16 = x1 := ⟨_, rfl⟩
    obtain ⟨x2, hx2⟩ : ∃ x2, a' + z.size + 16 = x2 := ⟨_, rfl⟩
    obtain ⟨x3, hx3⟩ : ∃ x3, a' + 16 = x3 := ⟨_, rfl⟩
    rw [hx1, hx2] at s1; rw [hx2, hx3] at s2; rw [hx3] at s3
    rw [hx1]
    clear hx1 hx2 hx3 hb1
    go_wp2_with (fail)
    go_quiet (fail)
    go_wp2_with (fail)
    go_roundw
    case rel => exact ⟨i + 1, a', m + _, by omega, by go_num, by go_num, HA.out, by rw [← HWO.out, World.drewN_drewN]⟩
    case measure => simp [intOf]; omega
  · obtain rfl : i = L.length := by omega
    have HA : Hid (a = sz - us L) := Lib.hid (by rw [List.take_length] at ha; omega)
    have HBE := Lib.hid (below_drewN HB.out m)
    clear ha
    go_wp2_with (fail)
    go_ret
    exact ⟨by rw [HA.out]; rfl, HBE.out⟩
theorem IsD.room {w : World} {O : Nat → Prop} {d sz : Nat} {L : Ls} (h : IsD w O d sz L) : us L ≤ sz := by
 obtain ⟨m, E, h, rfl⟩ := h; exact h.u
theorem IsD.names {w : World} {O : Nat → Prop} {d sz : Nat} {L : Ls} (h : IsD w O d sz L) : ∀ x ∈ L, x.1 ≠ [] ∧ x.1.length ≤ 64 := by
 obtain ⟨m, E, h, rfl⟩ := h
 intro x hx
 obtain ⟨y, hy, rfl⟩ := List.mem_map.1 hx
 exact h.n y hy
end Go.Proofs.Ytchmepalhldpcaa.Dk

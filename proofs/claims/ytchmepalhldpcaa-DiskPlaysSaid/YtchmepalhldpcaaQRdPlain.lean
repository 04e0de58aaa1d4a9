/-
  A text of this claim: RdPlain.
-/
import Derived.Test.YtchmepalhldpcaaQRdWriteW
import Derived.Laws.OwnMore
namespace Go.Proofs.Ytchmepalhldpcaa.Dk
open Go.ChangeShapes Go.WideShapes Go.ChangeAt Go.RowKit Go.ChangeMaps Go.Maps Go.MapKept Ov
def PlQ (sz : Nat) (o1 o2 : Value) (q : Ls × List UInt8 × Int) (w : World) (e : Ending) (w' : World) : Prop := ∃ u1 u2, e = .returned (.tuple #[rdv3 sz u1 u2, .string (tx q.2.1), .int .i64 q.2.2]) ∧ RD w' q.1 u1 u2 ∧ Below w.heap.size w w' ∧ Fm w.heap.size w' o1 o2 u1 u2
theorem rm_nil {L : Ls} (h : ∀ x ∈ L, x.1 ≠ []) : rm [] L = L := List.filter_eq_self.2 fun x hx => by simpa using h x hx
theorem spo_set {L : Ls} {n s s' : List UInt8} {k : Nat} (hs : Srt L) (hk : L[k]? = some (n, s)) : (L.map fun x => (x.1, if x.1 = n then s' else x.2)) = L.set k (n, s') := by
 apply List.ext_getElem?
 intro j
 obtain ⟨hkl, hke⟩ := List.getElem?_eq_some_iff.1 hk
 by_cases e : k = j
 · subst e
   rw [List.getElem?_set_self hkl, List.getElem?_map, hk]
   simp
 · rw [List.getElem?_set_ne e, List.getElem?_map]
   cases hj : L[j]? with
   | none => rfl
   | some y =>
     have hne : y.1 ≠ n := fun q => by
      obtain ⟨hjl, hje⟩ := List.getElem?_eq_some_iff.1 hj
      have hp := List.pairwise_iff_getElem.1 (srt_ne hs)
      rcases Nat.lt_or_gt_of_ne e with h | h
      · exact hp k j hkl hjl h (by rw [hke, hje, q])
      · exact hp j k hjl hkl h (by rw [hke, hje, q])
     simp [hne]
theorem nms_set (L : Ls) (k : Nat) (n s s' : List UInt8) (hk : L[k]? = some (n, s)) : nms (L.set k (n, s')) = nms L := by
 unfold nms
 rw [List.map_set]
 apply List.ext_getElem?
 intro j
 by_cases e : k = j
 · subst e
   obtain ⟨hkl, hke⟩ := List.getElem?_eq_some_iff.1 hk
   rw [List.getElem?_set_self (by simpa using hkl), List.getElem?_map, hk]; rfl
 · rw [List.getElem?_set_ne e]
theorem hds_set (L : Ls) (k : Nat) (n s' : List UInt8) : hds (L.set k (n, s')) = (hds L).set k (.string (tx s')) := by unfold hds; rw [List.map_set]
theorem RH.put2 {w : World} {lo b sz g c n : Nat} {xs ys : List Value} {v1 : Value} (h : RH w lo b sz xs ys v1 (.slice (some ⟨g, 0, none⟩) n c)) (hn : n = ys.length) (j : Nat) (x : Value) : RH (w.setCell ⟨g, j, none⟩ x) lo b sz xs (ys.set j x) v1 (.slice (some ⟨g, 0, none⟩) n c) := by
 subst hn
 refine ⟨h.h.put (fun e => h.n2 (by rw [e]; rfl)) _ _, ownsRow_setCell_other h.o1 (fun e => h.n3 g e rfl) _, ?_, h.n1, h.n2, h.n3, h.l⟩
 rw [List.length_set]
 exact (h.o2.stored j x).1
theorem RH.arr2 {w : World} {lo b sz c n : Nat} {A : Option Addr} {xs ys : List Value} {v1 : Value} (h : RH w lo b sz xs ys v1 (.slice A n c)) (hn : 0 < ys.length) : ∃ g, A = some ⟨g, 0, none⟩ ∧ lo ≤ g ∧ g < w.heap.size := by
 rcases h.o2.2 with ⟨_, e⟩ | ⟨g, cap, cur, e, hlo, hc, _⟩
 · omega
 · injection e with e1 e2 e3
   exact ⟨g, e1, hlo, (Array.getElem?_eq_some_iff.1 hc).1⟩
theorem txl (l : List UInt8) : (tx l).toList = l := by rw [ByteArray.toList_eq, tx_list]
theorem heap_new3 (w : World) (a b c : Obj) : (((w.alloc a).alloc b).alloc c).heap[w.heap.size + 1 + 1]? = some c := by
 have h := Array.getElem?_push_size (xs := ((w.alloc a).alloc b).heap) (x := c)
 rw [show ((w.alloc a).alloc b).heap.size = w.heap.size + 1 + 1 by simp] at h
 exact h
theorem heap_old (w : World) (o : Obj) {p : Nat} (h : p < w.heap.size) : (w.alloc o).heap[p]? = w.heap[p]? := Below.heap_alloc w o p h
theorem Fm.mono {n m : Nat} {w w2 : World} {v1 v2 u1 u2 : Value} (h : Fm m w v1 v2 u1 u2) (k : n ≤ m) (hs : w.heap.size ≤ w2.heap.size) : Fm n w2 v1 v2 u1 u2 := fun g hg => (h g hg).imp (fun e => ⟨Nat.le_trans k e.1, Nat.lt_of_lt_of_le e.2 hs⟩) id
theorem Fm.none {n : Nat} {w : World} {v1 v2 : Value} : Fm n w v1 v2 (.slice none 0 0) (.slice none 0 0) := fun _ h => h.elim (fun e => by cases e) (fun e => by cases e)
theorem rd_none (w : World) : RD w [] (.slice none 0 0) (.slice none 0 0) := ⟨none, 0, none, 0, rfl, rfl, fun h => absurd h (Nat.lt_irrefl 0), fun h => absurd h (Nat.lt_irrefl 0)⟩
theorem strs_far {w w' : World} {A : Option Addr} {n p : Nat} {f : Nat → ByteArray} {x : Int} {a1 a2 : Option Addr} {n1 c1 n2 c2 : Nat} {t : TypeId} (h : Strs w A n f) (hb : w.heap[p]? = some (.cells #[.int .i64 x, .slice a1 n1 c1, .slice a2 n2 c2] t)) (k : Kp (fun q => q = p) w w') : Strs w' A n f := fun h0 => by
 obtain ⟨g, q, e, hc⟩ := h h0
 refine ⟨g, q, e, fun i hi => ?_⟩
 have h1 := hc i hi
 have hg : g ≠ p := by
  rintro rfl
  unfold World.cell? at h1
  rw [hb] at h1
  dsimp only at h1
  generalize q + i = j at h1
  rcases j with _ | _ | _ | j <;> simp at h1
 exact (k.cell (p := ⟨g, q + i, none⟩) hg (block_lt_of_cell h1)).trans h1
theorem RD.far {w w' : World} {L : Ls} {v1 v2 : Value} {p : Nat} {x : Int} {a1 a2 : Option Addr} {n1 c1 n2 c2 : Nat} {t : TypeId} (h : RD w L v1 v2) (hb : w.heap[p]? = some (.cells #[.int .i64 x, .slice a1 n1 c1, .slice a2 n2 c2] t)) (k : Kp (fun q => q = p) w w') : RD w' L v1 v2 := by
 obtain ⟨A1, b1, A2, b2, rfl, rfl, h1, h2⟩ := h
 exact ⟨A1, b1, A2, b2, rfl, rfl, strs_far h1 hb k, strs_far h2 hb k⟩
set_option maxHeartbeats 16000000 in
set_option maxRecDepth 100000 in
theorem plainly_any (sz : Nat) (L : Ls) (v1 v2 : Value) (x : Ac) (w : World) (h : RD w L v1 v2) (hu : us L ≤ sz) (hz : sz ≤ 4194304) (hsrt : Srt L) (hnn : ∀ y ∈ L, y.1 ≠ []) (hss : x.s.size ≤ 2305843009213693952) :
 Calls Try.prog 8 #[rdv3 sz v1 v2, .agg #[.int .u8 (x.o.toNat : Int), .string x.n, .string x.s, .int .i64 x.i, .int .u8 (x.b.toNat : Int)]] w (PlQ sz v1 v2 (stp sz L x) w) := by
 obtain ⟨o, n, s, i, b⟩ := x
 have hl := us_len L
 have hl6 : L.length ≤ 1000000 := by omega
 have HRD := Lib.hid h
 obtain ⟨A1, c1, A2, c2, e1, e2⟩ := rd_slices h
 subst e1; subst e2
 clear h
 have hss' : s.size ≤ 2305843009213693952 := hss
 clear hss
 have hr := rem_u8 o
 have hr8 : o.toNat % 8 < 8 := Nat.mod_lt _ (by omega)
 obtain ⟨r, hrr⟩ : ∃ r, o.toNat % 8 = r := ⟨_, rfl⟩
 rw [hrr] at hr hr8
 unfold rdv3
 go_enter Try.func8, Try.ntmps8
 go_upto_region 1 with (fail)
 have HK := Lib.hid (((Blk.made w 31 [.int .i64 (sz : Int), .slice A1 L.length c1, .slice A2 L.length c2] rfl).old (.cells #[.int .u8 (o.toNat : Int), .string n, .string s, .int .i64 i, .int .u8 (b.toNat : Int)] 35)).old (.cells #[.int .i64 0, .slice none 0 0, .slice none 0 0] 31))
 have HKA := Lib.hid ((Blk.made (w.alloc (.cells #[.int .i64 (sz : Int), .slice A1 L.length c1, .slice A2 L.length c2] 31)) 35 [.int .u8 (o.toNat : Int), .string n, .string s, .int .i64 i, .int .u8 (b.toNat : Int)] (n := w.heap.size + 1) (by simp)).old (.cells #[.int .i64 0, .slice none 0 0, .slice none 0 0] 31))
 have HR := Lib.hid (Blk.made ((w.alloc (.cells #[.int .i64 (sz : Int), .slice A1 L.length c1, .slice A2 L.length c2] 31)).alloc (.cells #[.int .u8 (o.toNat : Int), .string n, .string s, .int .i64 i, .int .u8 (b.toNat : Int)] 35)) 31 [.int .i64 0, .slice none 0 0, .slice none 0 0] (n := w.heap.size + 1 + 1) (by simp))
 have HB := Lib.hid (box3 w (.cells #[.int .i64 (sz : Int), .slice A1 L.length c1, .slice A2 L.length c2] 31) (.cells #[.int .u8 (o.toNat : Int), .string n, .string s, .int .i64 i, .int .u8 (b.toNat : Int)] 35) (.cells #[.int .i64 0, .slice none 0 0, .slice none 0 0] 31))
 have HH : Hid ((((w.alloc (.cells #[.int .i64 (sz : Int), .slice A1 L.length c1, .slice A2 L.length c2] 31)).alloc (.cells #[.int .u8 (o.toNat : Int), .string n, .string s, .int .i64 i, .int .u8 (b.toNat : Int)] 35)).alloc (.cells #[.int .i64 0, .slice none 0 0, .slice none 0 0] 31)).heap[w.heap.size + 1 + 1]? = some (.cells #[.int .i64 0, .slice none 0 0, .slice none 0 0] 31)) := Lib.hid (heap_new3 w _ _ _)
 change Hid (Blk (((w.alloc (.cells #[.int .i64 (sz : Int), .slice A1 L.length c1, .slice A2 L.length c2] 31)).alloc (.cells #[.int .u8 (o.toNat : Int), .string n, .string s, .int .i64 i, .int .u8 (b.toNat : Int)] 35)).alloc (.cells #[.int .i64 0, .slice none 0 0, .slice none 0 0] 31)) _ _) at HK HKA HR
 obtain ⟨p, hp⟩ : ∃ p, w.heap.size = p := ⟨_, rfl⟩
 rw [hp] at HK HKA HR HH ⊢
 have HP := Lib.hid hp
 obtain ⟨pa, hpa⟩ : ∃ pa, p + 1 = pa := ⟨_, rfl⟩
 rw [hpa] at HKA HR HH ⊢
 obtain ⟨p1, hp1⟩ : ∃ p1, pa + 1 = p1 := ⟨_, rfl⟩
 rw [hp1] at HR HH ⊢
 have HPP : Hid (p < p1) := Lib.hid (by omega)
 generalize ((w.alloc (.cells #[.int .i64 (sz : Int), .slice A1 L.length c1, .slice A2 L.length c2] 31)).alloc (.cells #[.int .u8 (o.toNat : Int), .string n, .string s, .int .i64 i, .int .u8 (b.toNat : Int)] 35)).alloc (.cells #[.int .i64 0, .slice none 0 0, .slice none 0 0] 31) = W at *
 clear hp hpa hp1
 have hrd := HRD.out.next HB.out
 have HF := Lib.hid (rfind_any sz L _ _ n W hrd hl6)
 unfold rdv3 at HF
 have k0 := HK.out.c 0 _ rfl; have k1 := HK.out.c 1 _ rfl; have k2 := HK.out.c 2 _ rfl
 have a0 := HKA.out.c 0 _ rfl; have a1 := HKA.out.c 1 _ rfl
 clear hrd
 go_wp2_with (fail)
 refine HF.out.mono ?_
 rintro e w2 ⟨fi, rfl, hb2, hfi⟩
 have HB2 := Lib.hid (Below.next HB.out hb2); have HK2 := Lib.hid (HK.out.next hb2); have HKA2 := Lib.hid (HKA.out.next hb2); have HR2 := Lib.hid (HR.out.next hb2)
 have HFI := Lib.hid hfi
 have HH2 := Lib.hid ((hb2.block p1 HR.out.lt).trans HH.out)
 clear hb2 hfi HF HH HK HKA HR HB k0 k1 k2 a0 a1
 have k0 := HK2.out.c 0 _ rfl; have k1 := HK2.out.c 1 _ rfl; have k2 := HK2.out.c 2 _ rfl
 have a0 := HKA2.out.c 0 _ rfl; have a1 := HKA2.out.c 1 _ rfl; have a2 := HKA2.out.c 2 _ rfl; have a3 := HKA2.out.c 3 _ rfl; have a4 := HKA2.out.c 4 _ rfl
 go_upto_region 3 with (fail)
 by_cases e4 : r = 4
 · have t4 : ((r : Int) == 4) = true := by rw [e4]; rfl
   rcases HFI.out with ⟨rfl, hg⟩ | ⟨k, s2, hk, rfl, hks⟩
   · have HQE : Hid (stp sz L ⟨o, n, s, i, b⟩ = (L, [], 8)) := Lib.hid (by rw [show stp sz L ⟨o, n, s, i, b⟩ = _ from if_pos (hrr.trans e4), hg])
     clear hg HFI e4
     have r0 := HR2.out.c 0 _ rfl; have r1 := HR2.out.c 1 _ rfl; have r2 := HR2.out.c 2 _ rfl
     have f0 := HR2.out.f 0 _ rfl; have f1 := HR2.out.f 1 _ rfl; have f2 := HR2.out.f 2 _ rfl
     have HRF := Lib.hid (Dk.Blk.set3 HR2.out (.int .i64 (sz : Int)) (.slice A1 L.length c1) (.slice A2 L.length c2))
     have HKS := Lib.hid (Dk.set3 w2 p1 (.int .i64 (sz : Int)) (.slice A1 L.length c1) (.slice A2 L.length c2))
     clear hrr hr hr8
     go_wp2_with (fail)
     have g0 := HRF.out.c 0 _ rfl; have g1 := HRF.out.c 1 _ rfl; have g2 := HRF.out.c 2 _ rfl
     rw [HQE.out]
     refine bodyPost_ret (v := .tuple #[rdv3 sz (.slice A1 L.length c1) (.slice A2 L.length c2), .string ⟨#[]⟩, .int .i64 8]) (by simp [results, Try.results8, go_sem, g0, g1, g2]; rfl) rfl ⟨(.slice A1 L.length c1), (.slice A2 L.length c2), rfl, HRD.out.next (HB2.out.trans (HKS.out.below (fun b e => by rw [e, HP.out]; exact Nat.le_of_lt HPP.out) HB2.out.size)), (HB2.out.trans (HKS.out.below (fun b e => by rw [e, HP.out]; exact Nat.le_of_lt HPP.out) HB2.out.size)), Fm.same⟩
   · have HQE : Hid (stp sz L ⟨o, n, s, i, b⟩ = (L, s2, 0)) := Lib.hid (by rw [show stp sz L ⟨o, n, s, i, b⟩ = _ from if_pos (hrr.trans e4), gt_mem hsrt (List.mem_of_getElem? hks)])
     obtain ⟨HS1, HS2⟩ := rd_strs (HRD.out.next HB2.out)
     obtain ⟨G, Q, e5, hc⟩ := HS2 (by omega)
     have q0 := hc k hk
     have hhd : hdf L k = tx s2 := by
      obtain ⟨h1, h2⟩ := List.getElem?_eq_some_iff.1 hks
      rw [hdf_at h1, h2]
     rw [hhd] at q0
     obtain ⟨G', Q', e5', hc'⟩ := (rd_strs HRD.out).2 (by omega)
     have hGG : G = G' := by
      have h1 : some G = some G' := congrArg (Option.map Addr.block) (e5.symm.trans e5')
      injection h1
     have hGp : G ≠ p1 := by
      have h1 := block_lt_of_cell (hc' k hk)
      rw [← hGG] at h1
      have := HP.out; have := HPP.out
      change G < w.heap.size at h1
      omega
     have q1 : (((w2.setCell ⟨p1, 0, none⟩ (.int .i64 (sz : Int))).setCell ⟨p1, 1, none⟩ (.slice A1 L.length c1)).setCell ⟨p1, 2, none⟩ (.slice A2 L.length c2)).cell? ⟨G, Q + k, none⟩ = some (.string (tx s2)) := by
      rw [World.cell?_of_block ((Dk.set3 w2 p1 _ _ _).block G (block_lt_of_cell q0) hGp)]
      exact q0
     clear hc' e5' hGG
     have HK3 := Lib.hid (HK2.out.kp (Dk.set3 w2 p1 (.int .i64 (sz : Int)) (.slice A1 L.length c1) (.slice (some ⟨G, Q, none⟩) L.length c2)) (fun e => by have := HPP.out; omega))
     have j0 := HK3.out.c 0 _ rfl; have j1 := HK3.out.c 1 _ rfl; have j2 := HK3.out.c 2 _ rfl
     have hkz : ((k : Int) < (L.length : Int)) := by omega
     have hkn : ¬ ((k : Int) < 0) := by omega
     subst e5
     clear hc HS1 HS2 hhd hks HFI e4
     have r0 := HR2.out.c 0 _ rfl; have r1 := HR2.out.c 1 _ rfl; have r2 := HR2.out.c 2 _ rfl
     have f0 := HR2.out.f 0 _ rfl; have f1 := HR2.out.f 1 _ rfl; have f2 := HR2.out.f 2 _ rfl
     have HRF := Lib.hid (Dk.Blk.set3 HR2.out (.int .i64 (sz : Int)) (.slice A1 L.length c1) (.slice (some ⟨G, Q, none⟩) L.length c2))
     have HKS := Lib.hid (Dk.set3 w2 p1 (.int .i64 (sz : Int)) (.slice A1 L.length c1) (.slice (some ⟨G, Q, none⟩) L.length c2))
     clear hrr hr hr8
     go_wp2_with (fail)
     go_region
     all_goals
      go_wp2_with (fail)
      have g0 := HRF.out.c 0 _ rfl; have g1 := HRF.out.c 1 _ rfl; have g2 := HRF.out.c 2 _ rfl
      rw [HQE.out]
      refine bodyPost_ret (v := .tuple #[rdv3 sz (.slice A1 L.length c1) (.slice (some ⟨G, Q, none⟩) L.length c2), .string (tx s2), .int .i64 0]) (by simp [results, Try.results8, go_sem, g0, g1, g2]; rfl) rfl ⟨(.slice A1 L.length c1), (.slice (some ⟨G, Q, none⟩) L.length c2), rfl, HRD.out.next (HB2.out.trans (HKS.out.below (fun b e => by rw [e, HP.out]; exact Nat.le_of_lt HPP.out) HB2.out.size)).drew, (HB2.out.trans (HKS.out.below (fun b e => by rw [e, HP.out]; exact Nat.le_of_lt HPP.out) HB2.out.size)).drew, Fm.same⟩
 have t4 : ((r : Int) == 4) = false := beq_eq_false_iff_ne.2 (by omega)
 by_cases e5 : r = 5
 · have t5 : ((r : Int) == 5) = true := by rw [e5]; rfl
   rcases HFI.out with ⟨rfl, hg⟩ | ⟨k, s2, hk, rfl, hks⟩
   · have HQE : Hid (stp sz L ⟨o, n, s, i, b⟩ = (L, [], 8)) := Lib.hid (by rw [show stp sz L ⟨o, n, s, i, b⟩ = _ from (if_neg (fun e => e4 (hrr.symm.trans e))).trans (if_pos (hrr.trans e5)), rm_none hg, hg]; rfl)
     clear hg HFI
     have r0 := HR2.out.c 0 _ rfl; have r1 := HR2.out.c 1 _ rfl; have r2 := HR2.out.c 2 _ rfl
     have f0 := HR2.out.f 0 _ rfl; have f1 := HR2.out.f 1 _ rfl; have f2 := HR2.out.f 2 _ rfl
     have HRF := Lib.hid (Dk.Blk.set3 HR2.out (.int .i64 (sz : Int)) (.slice A1 L.length c1) (.slice A2 L.length c2))
     have HKS := Lib.hid (Dk.set3 w2 p1 (.int .i64 (sz : Int)) (.slice A1 L.length c1) (.slice A2 L.length c2))
     clear hrr hr hr8 e4 e5
     go_wp2_with (fail)
     have g0 := HRF.out.c 0 _ rfl; have g1 := HRF.out.c 1 _ rfl; have g2 := HRF.out.c 2 _ rfl
     rw [HQE.out]
     refine bodyPost_ret (v := .tuple #[rdv3 sz (.slice A1 L.length c1) (.slice A2 L.length c2), .string ⟨#[]⟩, .int .i64 8]) (by simp [results, Try.results8, go_sem, g0, g1, g2]; rfl) rfl ⟨(.slice A1 L.length c1), (.slice A2 L.length c2), rfl, HRD.out.next (HB2.out.trans (HKS.out.below (fun b e => by rw [e, HP.out]; exact Nat.le_of_lt HPP.out) HB2.out.size)), (HB2.out.trans (HKS.out.below (fun b e => by rw [e, HP.out]; exact Nat.le_of_lt HPP.out) HB2.out.size)), Fm.same⟩
   · have HQE : Hid (stp sz L ⟨o, n, s, i, b⟩ = (rm n.data.toList L, [], 0)) := Lib.hid (by rw [show stp sz L ⟨o, n, s, i, b⟩ = _ from (if_neg (fun e => e4 (hrr.symm.trans e))).trans (if_pos (hrr.trans e5)), gt_mem hsrt (List.mem_of_getElem? hks)]; rfl)
     have hkn : ¬ ((k : Int) < 0) := by omega
     have HWO := Lib.hid (rwithout_own sz L _ _ n w2 (HRD.out.next HB2.out) hl6)
     unfold rdv3 at HWO
     clear hks HFI e4 e5 hrr hr hr8
     go_wp2_with (fail)
     refine HWO.out.mono ?_
     rintro e w3 ⟨u1, u2, lo, b3, rfl, hrh, hlo, hb3⟩
     obtain ⟨B1, d1, B2, d2, e1, e2⟩ := rd_slices hrh.rd
     subst e1; subst e2
     have HRH := Lib.hid hrh; have HB3 := Lib.hid (Below.next HB2.out hb3); have HR3 := Lib.hid (HR2.out.next hb3)
     have HLO : Hid (p1 < lo) := Lib.hid (Nat.lt_of_lt_of_le HR2.out.lt hlo)
     have HWL : Hid (w.heap.size ≤ lo) := Lib.hid (Nat.le_trans HB2.out.size hlo)
     unfold rdv3
     obtain ⟨M, hM⟩ : ∃ M, rm n.data.toList L = M := ⟨_, rfl⟩
     rw [hM] at HQE HRH ⊢
     clear hb3 hrh hlo HWO k0 k1 k2 a0 a1 a2 a3 a4 hM
     have r0 := HR3.out.c 0 _ rfl; have r1 := HR3.out.c 1 _ rfl; have r2 := HR3.out.c 2 _ rfl
     have f0 := HR3.out.f 0 _ rfl; have f1 := HR3.out.f 1 _ rfl; have f2 := HR3.out.f 2 _ rfl
     have HRF := Lib.hid (Dk.Blk.set3 HR3.out (.int .i64 (sz : Int)) (.slice B1 M.length d1) (.slice B2 M.length d2))
     have HKS := Lib.hid (Dk.set3 w3 p1 (.int .i64 (sz : Int)) (.slice B1 M.length d1) (.slice B2 M.length d2))
     go_wp2_with (fail)
     have g0 := HRF.out.c 0 _ rfl; have g1 := HRF.out.c 1 _ rfl; have g2 := HRF.out.c 2 _ rfl
     rw [HQE.out]
     refine bodyPost_ret (v := .tuple #[rdv3 sz (.slice B1 M.length d1) (.slice B2 M.length d2), .string ⟨#[]⟩, .int .i64 0]) (by simp [results, Try.results8, go_sem, g0, g1, g2]; rfl) rfl ⟨(.slice B1 M.length d1), (.slice B2 M.length d2), rfl, (HRH.out.far HKS.out HLO.out).rd, (HB3.out.trans (HKS.out.below (fun b e => by rw [e, HP.out]; exact Nat.le_of_lt HPP.out) HB3.out.size)), Fm.own (HRH.out.far HKS.out HLO.out) HWL.out⟩
 have t5 : ((r : Int) == 5) = false := beq_eq_false_iff_ne.2 (by omega)
 by_cases e6 : r = 6
 · have t6 : ((r : Int) == 6) = true := by rw [e6]; rfl
   rcases HFI.out with ⟨rfl, hg⟩ | ⟨k, s2, hk, rfl, hks⟩
   · have HQE : Hid (stp sz L ⟨o, n, s, i, b⟩ = (L, [], 0)) := Lib.hid (by rw [show stp sz L ⟨o, n, s, i, b⟩ = _ from (if_neg (fun e => e4 (hrr.symm.trans e))).trans ((if_neg (fun e => e5 (hrr.symm.trans e))).trans (if_pos (hrr.trans e6))), show spo n.data.toList i b L = none from by unfold spo; rw [hg]]; rfl)
     clear hg HFI
     have r0 := HR2.out.c 0 _ rfl; have r1 := HR2.out.c 1 _ rfl; have r2 := HR2.out.c 2 _ rfl
     have f0 := HR2.out.f 0 _ rfl; have f1 := HR2.out.f 1 _ rfl; have f2 := HR2.out.f 2 _ rfl
     have HRF := Lib.hid (Dk.Blk.set3 HR2.out (.int .i64 (sz : Int)) (.slice A1 L.length c1) (.slice A2 L.length c2))
     have HKS := Lib.hid (Dk.set3 w2 p1 (.int .i64 (sz : Int)) (.slice A1 L.length c1) (.slice A2 L.length c2))
     clear hrr hr hr8 e4 e5 e6
     go_wp2_with (fail)
     have g0 := HRF.out.c 0 _ rfl; have g1 := HRF.out.c 1 _ rfl; have g2 := HRF.out.c 2 _ rfl
     rw [HQE.out]
     refine bodyPost_ret (v := .tuple #[rdv3 sz (.slice A1 L.length c1) (.slice A2 L.length c2), .string ⟨#[]⟩, .int .i64 0]) (by simp [results, Try.results8, go_sem, g0, g1, g2]; rfl) rfl ⟨(.slice A1 L.length c1), (.slice A2 L.length c2), rfl, HRD.out.next (HB2.out.trans (HKS.out.below (fun b e => by rw [e, HP.out]; exact Nat.le_of_lt HPP.out) HB2.out.size)), (HB2.out.trans (HKS.out.below (fun b e => by rw [e, HP.out]; exact Nat.le_of_lt HPP.out) HB2.out.size)), Fm.same⟩
   · have hgt := gt_mem hsrt (List.mem_of_getElem? hks)
     obtain ⟨HS1, HS2⟩ := rd_strs (HRD.out.next HB2.out)
     obtain ⟨G, Q, e5', hc⟩ := HS2 (by omega)
     have q0 := hc k hk
     have hhd : hdf L k = tx s2 := by
      obtain ⟨h1, h2⟩ := List.getElem?_eq_some_iff.1 hks
      rw [hdf_at h1, h2]
     rw [hhd] at q0
     have hkz : ((k : Int) < (L.length : Int)) := by omega
     have hkn : ¬ ((k : Int) < 0) := by omega
     subst e5'
     clear hc HS1 HS2 hhd HFI
     by_cases hs0 : s2 = []
     · have HQE : Hid (stp sz L ⟨o, n, s, i, b⟩ = (L, [], 0)) := Lib.hid (by rw [show stp sz L ⟨o, n, s, i, b⟩ = _ from (if_neg (fun e => e4 (hrr.symm.trans e))).trans ((if_neg (fun e => e5 (hrr.symm.trans e))).trans (if_pos (hrr.trans e6))), show spo n.data.toList i b L = none from by unfold spo; rw [hgt]; exact if_pos (.inl hs0)]; rfl)
       have te : (tx s2).toList = [] := by rw [txl]; exact hs0
       have te2 : (tx s2).toList.isEmpty = true := by rw [te]; rfl
       generalize tx s2 = T2 at *
       clear hs0
       have r0 := HR2.out.c 0 _ rfl; have r1 := HR2.out.c 1 _ rfl; have r2 := HR2.out.c 2 _ rfl
       have f0 := HR2.out.f 0 _ rfl; have f1 := HR2.out.f 1 _ rfl; have f2 := HR2.out.f 2 _ rfl
       have HRF := Lib.hid (Dk.Blk.set3 HR2.out (.int .i64 (sz : Int)) (.slice A1 L.length c1) (.slice (some ⟨G, Q, none⟩) L.length c2))
       have HKS := Lib.hid (Dk.set3 w2 p1 (.int .i64 (sz : Int)) (.slice A1 L.length c1) (.slice (some ⟨G, Q, none⟩) L.length c2))
       clear hrr hr hr8 e4 e5 e6 hks hgt
       go_wp2_with (fail)
       have g0 := HRF.out.c 0 _ rfl; have g1 := HRF.out.c 1 _ rfl; have g2 := HRF.out.c 2 _ rfl
       rw [HQE.out]
       refine bodyPost_ret (v := .tuple #[rdv3 sz (.slice A1 L.length c1) (.slice (some ⟨G, Q, none⟩) L.length c2), .string ⟨#[]⟩, .int .i64 0]) (by simp [results, Try.results8, go_sem, g0, g1, g2]; rfl) rfl ⟨(.slice A1 L.length c1), (.slice (some ⟨G, Q, none⟩) L.length c2), rfl, HRD.out.next (HB2.out.trans (HKS.out.below (fun b e => by rw [e, HP.out]; exact Nat.le_of_lt HPP.out) HB2.out.size)), (HB2.out.trans (HKS.out.below (fun b e => by rw [e, HP.out]; exact Nat.le_of_lt HPP.out) HB2.out.size)), Fm.same⟩
     by_cases hb0 : b = 0
     · have HQE : Hid (stp sz L ⟨o, n, s, i, b⟩ = (L, [], 0)) := Lib.hid (by rw [show stp sz L ⟨o, n, s, i, b⟩ = _ from (if_neg (fun e => e4 (hrr.symm.trans e))).trans ((if_neg (fun e => e5 (hrr.symm.trans e))).trans (if_pos (hrr.trans e6))), show spo n.data.toList i b L = none from by unfold spo; rw [hgt]; exact if_pos (.inr hb0)]; rfl)
       have t0 : ((b.toNat : Int) == 0) = true := by rw [hb0]; rfl
       have r0 := HR2.out.c 0 _ rfl; have r1 := HR2.out.c 1 _ rfl; have r2 := HR2.out.c 2 _ rfl
       have f0 := HR2.out.f 0 _ rfl; have f1 := HR2.out.f 1 _ rfl; have f2 := HR2.out.f 2 _ rfl
       have HRF := Lib.hid (Dk.Blk.set3 HR2.out (.int .i64 (sz : Int)) (.slice A1 L.length c1) (.slice (some ⟨G, Q, none⟩) L.length c2))
       have HKS := Lib.hid (Dk.set3 w2 p1 (.int .i64 (sz : Int)) (.slice A1 L.length c1) (.slice (some ⟨G, Q, none⟩) L.length c2))
       have te : ¬ (tx s2).toList = [] := by rw [txl]; exact hs0
       have te2 : (tx s2).toList.isEmpty = false := by rw [txl]; cases s2 with | nil => exact absurd rfl hs0 | cons _ _ => rfl
       clear hrr hr hr8 e4 e5 e6 hks hgt hb0
       go_wp2_with (fail)
       have g0 := HRF.out.c 0 _ rfl; have g1 := HRF.out.c 1 _ rfl; have g2 := HRF.out.c 2 _ rfl
       rw [HQE.out]
       refine bodyPost_ret (v := .tuple #[rdv3 sz (.slice A1 L.length c1) (.slice (some ⟨G, Q, none⟩) L.length c2), .string ⟨#[]⟩, .int .i64 0]) (by simp [results, Try.results8, go_sem, g0, g1, g2]; rfl) rfl ⟨(.slice A1 L.length c1), (.slice (some ⟨G, Q, none⟩) L.length c2), rfl, HRD.out.next (HB2.out.trans (HKS.out.below (fun b e => by rw [e, HP.out]; exact Nat.le_of_lt HPP.out) HB2.out.size)), (HB2.out.trans (HKS.out.below (fun b e => by rw [e, HP.out]; exact Nat.le_of_lt HPP.out) HB2.out.size)), Fm.same⟩
     have hst1 : spo n.data.toList i b L = some (L.set k (n.data.toList, sp i b s2)) := by unfold spo; rw [hgt]; exact (if_neg (fun e => e.elim hs0 hb0)).trans (congrArg some (spo_set hsrt hks))
     have HQE : Hid (stp sz L ⟨o, n, s, i, b⟩ = (L.set k (n.data.toList, sp i b s2), [], 1)) := Lib.hid (by rw [show stp sz L ⟨o, n, s, i, b⟩ = _ from (if_neg (fun e => e4 (hrr.symm.trans e))).trans ((if_neg (fun e => e5 (hrr.symm.trans e))).trans (if_pos (hrr.trans e6))), hst1]; rfl)
     have t0 : ((b.toNat : Int) == 0) = false := beq_eq_false_iff_ne.2 fun e => hb0 (UInt8.toNat_inj.1 (by simpa using e))
     have te : ¬ (tx s2).toList = [] := by rw [txl]; exact hs0
     have te2 : (tx s2).toList.isEmpty = false := by rw [txl]; cases s2 with | nil => exact absurd rfl hs0 | cons _ _ => rfl
     have hln : 0 < s2.length := List.length_pos_iff.2 hs0
     have hzl : s2.length ≤ 4194304 := by
      have h1 : n.data.toList.length + s2.length + 16 ≤ us L := us_mem (List.mem_of_getElem? hks)
      omega
     have HNS : Hid (nms (L.set k (n.data.toList, sp i b s2)) = nms L) := Lib.hid (nms_set L k _ s2 _ hks)
     have HDS : Hid (hds (L.set k (n.data.toList, sp i b s2)) = (hds L).set k (.string (tx (sp i b s2)))) := Lib.hid (hds_set L k _ _)
     have HHK : Hid ((hds L)[k]? = some (.string (tx s2))) := Lib.hid (by unfold hds; rw [List.getElem?_map, hks]; rfl)
     obtain ⟨cp, w4, hcv, hcp, hrw, hbw, _⟩ := bytes_made (tx s2) w2
     rw [tx_size] at hcv hcp
     rw [tx_list] at hrw
     have HB4 := Lib.hid (Below.next HB2.out hbw); have HK4 := Lib.hid (HK2.out.next hbw); have HKA4 := Lib.hid (HKA2.out.next hbw); have HR4 := Lib.hid (HR2.out.next hbw)
     have hp2 := HK2.out.lt; have hpa2 := HKA2.out.lt; have hp12 := HR2.out.lt; have hw2 := HB2.out.size
     obtain ⟨gb, hgb⟩ : ∃ gb, w2.heap.size = gb := ⟨_, rfl⟩
     rw [hgb] at hcv hrw hp2 hpa2 hp12 hw2
     have hrl := rd_lt i hln
     have hg2 : s2.getD (rd i s2.length) 0 = s2[rd i s2.length] := by simp [List.getD, hrl]
     have hx := xor_u8 (s2[rd i s2.length]) b
     have hrs := hrw.set (rd i s2.length) (s2[rd i s2.length] ^^^ b)
     rw [show s2.set (rd i s2.length) (s2[rd i s2.length] ^^^ b) = sp i b s2 from by unfold sp; rw [hg2]] at hrs
     have hcc := hrw.cell _ hrl; have hff := hrw.thaw _ hrl
     have hre := rd_eq i hln
     have hsl := sp_length i b s2
     have HRS := Lib.hid hrs
     clear hrw hrs hg2 hgt hst1 hb0 hs0 hks hgb hbw
     generalize s2[rd i s2.length] ^^^ b = z at *
     generalize s2[rd i s2.length] = z0 at *
     generalize rd i s2.length = rr at *
     generalize sp i b s2 = s' at *
     generalize hss2 : tx s2 = T2 at *
     generalize s2.length = kk at *
     have HB5 := Lib.hid (HB4.out.setCell (p := ⟨gb, rr, none⟩) hw2 (.int .u8 (z.toNat : Int)))
     have HK5 := Lib.hid (HK4.out.put (Nat.ne_of_gt hp2) rr (.int .u8 (z.toNat : Int))); have HKA5 := Lib.hid (HKA4.out.put (Nat.ne_of_gt hpa2) rr (.int .u8 (z.toNat : Int))); have HR5 := Lib.hid (HR4.out.put (Nat.ne_of_gt hp12) rr (.int .u8 (z.toNat : Int)))
     have b0 := HKA4.out.c 3 _ rfl; have b1 := HKA4.out.c 4 _ rfl
     have l0 := HK5.out.c 0 _ rfl; have l1 := HK5.out.c 1 _ rfl; have l2 := HK5.out.c 2 _ rfl
     have HWO := Lib.hid (rwithout_own sz L _ _ ⟨#[]⟩ (w4.setCell ⟨gb, rr, none⟩ (.int .u8 (z.toNat : Int))).drew (HRD.out.next HB5.out.drew) hl6)
     rw [show rm (⟨#[]⟩ : ByteArray).data.toList L = L from rm_nil hnn] at HWO
     unfold rdv3 at HWO
     obtain ⟨q, hq⟩ : ∃ q, i.tmod (kk : Int) = q := ⟨_, rfl⟩
     rw [hq] at hre
     clear hrr hr hr8 e4 e5 e6
     by_cases hq0 : q < 0
     · have t1 : decide (q < 0) = true := decide_eq_true hq0
       rw [if_pos hq0] at hre
       have hre2 : q + (kk : Int) = (rr : Int) := hre.symm
       clear hre
       go_wp2_with (fail)
       go_region
       all_goals
        go_wp2_with (fail)
        refine HWO.out.mono ?_
        rintro e w6 ⟨u1, u2, lo, b6, rfl, hrh, hlo, hb6⟩
        obtain ⟨B1, d1, B2, d2, e1, e2⟩ := rd_slices hrh.rd
        subst e1; subst e2
        obtain ⟨gq, e3, hlg, hgl⟩ := hrh.arr2 (by rw [hds_len]; omega)
        subst e3
        have hlp : p1 < lo := Nat.lt_of_lt_of_le HR5.out.lt hlo
        have HLO := Lib.hid hlp
        have HWL : Hid (w.heap.size ≤ lo) := Lib.hid (Nat.le_trans HB5.out.size hlo)
        have hgp : gq ≠ p1 := by omega
        have hwg : w.heap.size ≤ gq := by have := HB5.out.size; change w.heap.size ≤ (w4.setCell ⟨gb, rr, none⟩ (.int .u8 (z.toNat : Int))).drew.heap.size at this; omega
        have HB6 := Lib.hid (Below.next HB5.out.drew hb6); have HR6 := Lib.hid (HR5.out.drew.next hb6)
        have HRS6 := Lib.hid ((show RowB (w4.setCell ⟨gb, rr, none⟩ (.int .u8 (z.toNat : Int))).drew gb s' from ⟨HRS.out.cell, HRS.out.thaw⟩).next hb6)
        unfold rdv3
        have HRS7 := Lib.hid (HRS6.out.next (box1 w6 (.cells #[.int .i64 (sz : Int), .slice B1 L.length d1, .slice (some ⟨gq, 0, none⟩) L.length d2] 31))); have HRH7 := Lib.hid (hrh.next (box1 w6 (.cells #[.int .i64 (sz : Int), .slice B1 L.length d1, .slice (some ⟨gq, 0, none⟩) L.length d2] 31)))
        have hgl2 := hgl
        have hoo : (w6.alloc (.cells #[.int .i64 (sz : Int), .slice B1 L.length d1, .slice (some ⟨gq, 0, none⟩) L.length d2] 31)).ownsRow lo 9 1 (.slice (some ⟨gq, 0, none⟩) L.length d2) L.length (hds L) := by have h := HRH7.out.o2; rw [hds_len] at h; exact h
        have hm0 : (w6.alloc (.cells #[.int .i64 (sz : Int), .slice B1 L.length d1, .slice (some ⟨gq, 0, none⟩) L.length d2] 31)).cell? ⟨gq, k, none⟩ = some (.string T2) := (hoo.cellAt k (by omega)).trans HHK.out
        have hm1 : (w6.alloc (.cells #[.int .i64 (sz : Int), .slice B1 L.length d1, .slice (some ⟨gq, 0, none⟩) L.length d2] 31)).frozen? ⟨gq, k, none⟩ = false := hoo.frozenAt k
        clear hoo
        have hcv2 := HRS7.out.text (m := kk) (c := cp) hsl.symm
        have HR8 := Lib.hid ((HR6.out.put hgp k (.string (tx s'))).old (.cells #[.int .i64 (sz : Int), .slice B1 L.length d1, .slice (some ⟨gq, 0, none⟩) L.length d2] 31)); have HRH8 := Lib.hid ((hrh.put2 (hds_len L).symm k (.string (tx s'))).next (box1 _ (.cells #[.int .i64 (sz : Int), .slice B1 L.length d1, .slice (some ⟨gq, 0, none⟩) L.length d2] 31))); have HB8 := Lib.hid (Below.next (HB6.out.setCell (p := ⟨gq, k, none⟩) hwg (.string (tx s'))) (box1 _ (.cells #[.int .i64 (sz : Int), .slice B1 L.length d1, .slice (some ⟨gq, 0, none⟩) L.length d2] 31))); have HOB8 := Lib.hid (Blk.made (w6.setCell ⟨gq, k, none⟩ (.string (tx s'))) 31 [.int .i64 (sz : Int), .slice B1 L.length d1, .slice (some ⟨gq, 0, none⟩) L.length d2] (n := w6.heap.size) (by simp))
        have o0 := HOB8.out.c 0 _ rfl; have o1 := HOB8.out.c 1 _ rfl; have o2 := HOB8.out.c 2 _ rfl
        clear hrh hlo hb6 hlg hlp
        have r0 := HR8.out.c 0 _ rfl; have r1 := HR8.out.c 1 _ rfl; have r2 := HR8.out.c 2 _ rfl
        have f0 := HR8.out.f 0 _ rfl; have f1 := HR8.out.f 1 _ rfl; have f2 := HR8.out.f 2 _ rfl
        have HRF := Lib.hid (Dk.Blk.set3 HR8.out (.int .i64 (sz : Int)) (.slice B1 L.length d1) (.slice (some ⟨gq, 0, none⟩) L.length d2))
        have HKS := Lib.hid (Dk.set3 ((w6.setCell ⟨gq, k, none⟩ (.string (tx s'))).alloc (.cells #[.int .i64 (sz : Int), .slice B1 L.length d1, .slice (some ⟨gq, 0, none⟩) L.length d2] 31)) p1 (.int .i64 (sz : Int)) (.slice B1 L.length d1) (.slice (some ⟨gq, 0, none⟩) L.length d2))
        go_wp2_with (fail)
        have g0 := HRF.out.c 0 _ rfl; have g1 := HRF.out.c 1 _ rfl; have g2 := HRF.out.c 2 _ rfl
        rw [HQE.out]
        refine bodyPost_ret (v := .tuple #[rdv3 sz (.slice B1 L.length d1) (.slice (some ⟨gq, 0, none⟩) L.length d2), .string ⟨#[]⟩, .int .i64 1]) (by simp [results, Try.results8, go_sem, g0, g1, g2]; rfl) rfl ⟨(.slice B1 L.length d1), (.slice (some ⟨gq, 0, none⟩) L.length d2), rfl, (by have h := HRH8.out.far HKS.out HLO.out; rw [← HNS.out, ← HDS.out] at h; exact h.rd), (HB8.out.trans (HKS.out.below (fun b e => by rw [e, HP.out]; exact Nat.le_of_lt HPP.out) HB8.out.size)), Fm.own (HRH8.out.far HKS.out HLO.out) HWL.out⟩
     · have t1 : decide (q < 0) = false := decide_eq_false hq0
       rw [if_neg hq0] at hre
       subst hre
       go_wp2_with (fail)
       go_region
       all_goals
        go_wp2_with (fail)
        refine HWO.out.mono ?_
        rintro e w6 ⟨u1, u2, lo, b6, rfl, hrh, hlo, hb6⟩
        obtain ⟨B1, d1, B2, d2, e1, e2⟩ := rd_slices hrh.rd
        subst e1; subst e2
        obtain ⟨gq, e3, hlg, hgl⟩ := hrh.arr2 (by rw [hds_len]; omega)
        subst e3
        have hlp : p1 < lo := Nat.lt_of_lt_of_le HR5.out.lt hlo
        have HLO := Lib.hid hlp
        have HWL : Hid (w.heap.size ≤ lo) := Lib.hid (Nat.le_trans HB5.out.size hlo)
        have hgp : gq ≠ p1 := by omega
        have hwg : w.heap.size ≤ gq := by have := HB5.out.size; change w.heap.size ≤ (w4.setCell ⟨gb, rr, none⟩ (.int .u8 (z.toNat : Int))).drew.heap.size at this; omega
        have HB6 := Lib.hid (Below.next HB5.out.drew hb6); have HR6 := Lib.hid (HR5.out.drew.next hb6)
        have HRS6 := Lib.hid ((show RowB (w4.setCell ⟨gb, rr, none⟩ (.int .u8 (z.toNat : Int))).drew gb s' from ⟨HRS.out.cell, HRS.out.thaw⟩).next hb6)
        unfold rdv3
        have HRS7 := Lib.hid (HRS6.out.next (box1 w6 (.cells #[.int .i64 (sz : Int), .slice B1 L.length d1, .slice (some ⟨gq, 0, none⟩) L.length d2] 31))); have HRH7 := Lib.hid (hrh.next (box1 w6 (.cells #[.int .i64 (sz : Int), .slice B1 L.length d1, .slice (some ⟨gq, 0, none⟩) L.length d2] 31)))
        have hgl2 := hgl
        have hoo : (w6.alloc (.cells #[.int .i64 (sz : Int), .slice B1 L.length d1, .slice (some ⟨gq, 0, none⟩) L.length d2] 31)).ownsRow lo 9 1 (.slice (some ⟨gq, 0, none⟩) L.length d2) L.length (hds L) := by have h := HRH7.out.o2; rw [hds_len] at h; exact h
        have hm0 : (w6.alloc (.cells #[.int .i64 (sz : Int), .slice B1 L.length d1, .slice (some ⟨gq, 0, none⟩) L.length d2] 31)).cell? ⟨gq, k, none⟩ = some (.string T2) := (hoo.cellAt k (by omega)).trans HHK.out
        have hm1 : (w6.alloc (.cells #[.int .i64 (sz : Int), .slice B1 L.length d1, .slice (some ⟨gq, 0, none⟩) L.length d2] 31)).frozen? ⟨gq, k, none⟩ = false := hoo.frozenAt k
        clear hoo
        have hcv2 := HRS7.out.text (m := kk) (c := cp) hsl.symm
        have HR8 := Lib.hid ((HR6.out.put hgp k (.string (tx s'))).old (.cells #[.int .i64 (sz : Int), .slice B1 L.length d1, .slice (some ⟨gq, 0, none⟩) L.length d2] 31)); have HRH8 := Lib.hid ((hrh.put2 (hds_len L).symm k (.string (tx s'))).next (box1 _ (.cells #[.int .i64 (sz : Int), .slice B1 L.length d1, .slice (some ⟨gq, 0, none⟩) L.length d2] 31))); have HB8 := Lib.hid (Below.next (HB6.out.setCell (p := ⟨gq, k, none⟩) hwg (.string (tx s'))) (box1 _ (.cells #[.int .i64 (sz : Int), .slice B1 L.length d1, .slice (some ⟨gq, 0, none⟩) L.length d2] 31))); have HOB8 := Lib.hid (Blk.made (w6.setCell ⟨gq, k, none⟩ (.string (tx s'))) 31 [.int .i64 (sz : Int), .slice B1 L.length d1, .slice (some ⟨gq, 0, none⟩) L.length d2] (n := w6.heap.size) (by simp))
        have o0 := HOB8.out.c 0 _ rfl; have o1 := HOB8.out.c 1 _ rfl; have o2 := HOB8.out.c 2 _ rfl
        clear hrh hlo hb6 hlg hlp
        have r0 := HR8.out.c 0 _ rfl; have r1 := HR8.out.c 1 _ rfl; have r2 := HR8.out.c 2 _ rfl
        have f0 := HR8.out.f 0 _ rfl; have f1 := HR8.out.f 1 _ rfl; have f2 := HR8.out.f 2 _ rfl
        have HRF := Lib.hid (Dk.Blk.set3 HR8.out (.int .i64 (sz : Int)) (.slice B1 L.length d1) (.slice (some ⟨gq, 0, none⟩) L.length d2))
        have HKS := Lib.hid (Dk.set3 ((w6.setCell ⟨gq, k, none⟩ (.string (tx s'))).alloc (.cells #[.int .i64 (sz : Int), .slice B1 L.length d1, .slice (some ⟨gq, 0, none⟩) L.length d2] 31)) p1 (.int .i64 (sz : Int)) (.slice B1 L.length d1) (.slice (some ⟨gq, 0, none⟩) L.length d2))
        go_wp2_with (fail)
        have g0 := HRF.out.c 0 _ rfl; have g1 := HRF.out.c 1 _ rfl; have g2 := HRF.out.c 2 _ rfl
        rw [HQE.out]
        refine bodyPost_ret (v := .tuple #[rdv3 sz (.slice B1 L.length d1) (.slice (some ⟨gq, 0, none⟩) L.length d2), .string ⟨#[]⟩, .int .i64 1]) (by simp [results, Try.results8, go_sem, g0, g1, g2]; rfl) rfl ⟨(.slice B1 L.length d1), (.slice (some ⟨gq, 0, none⟩) L.length d2), rfl, (by have h := HRH8.out.far HKS.out HLO.out; rw [← HNS.out, ← HDS.out] at h; exact h.rd), (HB8.out.trans (HKS.out.below (fun b e => by rw [e, HP.out]; exact Nat.le_of_lt HPP.out) HB8.out.size)), Fm.own (HRH8.out.far HKS.out HLO.out) HWL.out⟩
 have t6 : ((r : Int) == 6) = false := beq_eq_false_iff_ne.2 (by omega)
 by_cases e7 : r = 7
 · have t7 : ((r : Int) == 7) = true := by rw [e7]; rfl
   have HQE : Hid (stp sz L ⟨o, n, s, i, b⟩ = ([], [], (L.length : Int))) := Lib.hid (show stp sz L ⟨o, n, s, i, b⟩ = _ from (if_neg (fun e => e4 (hrr.symm.trans e))).trans ((if_neg (fun e => e5 (hrr.symm.trans e))).trans ((if_neg (fun e => e6 (hrr.symm.trans e))).trans (if_pos (hrr.trans e7)))))
   have r0 := HR2.out.c 0 _ rfl; have r1 := HR2.out.c 1 _ rfl; have r2 := HR2.out.c 2 _ rfl
   have f0 := HR2.out.f 0 _ rfl; have f1 := HR2.out.f 1 _ rfl; have f2 := HR2.out.f 2 _ rfl
   have HRF := Lib.hid (Dk.Blk.set3 HR2.out (.int .i64 (sz : Int)) (.slice none 0 0) (.slice none 0 0))
   have HKS := Lib.hid (Dk.set3 w2 p1 (.int .i64 (sz : Int)) (.slice none 0 0) (.slice none 0 0))
   have HK3 := Lib.hid (HK2.out.kp (Dk.set3 w2 p1 (.int .i64 (sz : Int)) (.slice none 0 0) (.slice none 0 0)) (fun e => by have := HPP.out; omega))
   have j0 := HK3.out.c 0 _ rfl; have j1 := HK3.out.c 1 _ rfl; have j2 := HK3.out.c 2 _ rfl
   clear hrr hr hr8 e4 e5 e6 e7 HFI
   go_wp2_with (fail)
   go_region
   all_goals
    go_wp2_with (fail)
    have g0 := HRF.out.c 0 _ rfl; have g1 := HRF.out.c 1 _ rfl; have g2 := HRF.out.c 2 _ rfl
    rw [HQE.out]
    refine bodyPost_ret (v := .tuple #[rdv3 sz (.slice none 0 0) (.slice none 0 0), .string ⟨#[]⟩, .int .i64 (L.length : Int)]) (by simp [results, Try.results8, go_sem, g0, g1, g2]; rfl) rfl ⟨(.slice none 0 0), (.slice none 0 0), rfl, rd_none _, (HB2.out.trans (HKS.out.below (fun b e => by rw [e, HP.out]; exact Nat.le_of_lt HPP.out) HB2.out.size)).drew, Fm.none⟩
 have t7 : ((r : Int) == 7) = false := beq_eq_false_iff_ne.2 (by omega)
 have HQE : Hid (stp sz L ⟨o, n, s, i, b⟩ = ((wrt sz n.data.toList s.data.toList L).2, [], ((wrt sz n.data.toList s.data.toList L).1 : Int))) := Lib.hid (show stp sz L ⟨o, n, s, i, b⟩ = _ from (if_neg (fun e => e4 (hrr.symm.trans e))).trans ((if_neg (fun e => e5 (hrr.symm.trans e))).trans ((if_neg (fun e => e6 (hrr.symm.trans e))).trans (if_neg (fun e => e7 (hrr.symm.trans e))))))
 have HWR := Lib.hid (rwrite_any sz L _ _ n s w2 (HRD.out.next HB2.out) hu hz hsrt hss')
 unfold rdv3 at HWR
 clear hrr hr hr8 e4 e5 e6 e7 HFI
 go_wp2_with (fail)
 refine HWR.out.mono ?_
 rintro e w3 ⟨u1, u2, rfl, hrd, hb3, hfm⟩
 obtain ⟨B1, d1, B2, d2, e1, e2⟩ := rd_slices hrd
 subst e1; subst e2
 have HFM := Lib.hid (hfm.mono HB2.out.size (Nat.le_refl _))
 clear hfm
 have HRD3 := Lib.hid hrd; have HB3 := Lib.hid (Below.next HB2.out hb3); have HR3 := Lib.hid (HR2.out.next hb3); have HH3 := Lib.hid ((hb3.block p1 HR2.out.lt).trans HH2.out)
 unfold rdv3
 obtain ⟨M, hM⟩ : ∃ M, (wrt sz n.data.toList s.data.toList L).2 = M := ⟨_, rfl⟩
 obtain ⟨E, hE⟩ : ∃ E : Nat, (wrt sz n.data.toList s.data.toList L).1 = E := ⟨_, rfl⟩
 rw [hM] at HQE HRD3 HFM
 rw [hE] at HQE
 simp only [hM, hE]
 clear hb3 hrd HWR k0 k1 k2 a0 a1 a2 a3 a4 hM hE
 have HR4 := Lib.hid (HR3.out.old (.cells #[.int .i64 (sz : Int), .slice B1 M.length d1, .slice B2 M.length d2] 31))
 have HB4 := Lib.hid (Below.next HB3.out (box1 w3 (.cells #[.int .i64 (sz : Int), .slice B1 M.length d1, .slice B2 M.length d2] 31)))
 have HRD4 := Lib.hid (HRD3.out.next (box1 w3 (.cells #[.int .i64 (sz : Int), .slice B1 M.length d1, .slice B2 M.length d2] 31)))
 have HH4 := Lib.hid ((heap_old w3 (.cells #[.int .i64 (sz : Int), .slice B1 M.length d1, .slice B2 M.length d2] 31) HR3.out.lt).trans HH3.out)
 have r0 := HR4.out.c 0 _ rfl; have r1 := HR4.out.c 1 _ rfl; have r2 := HR4.out.c 2 _ rfl
 have f0 := HR4.out.f 0 _ rfl; have f1 := HR4.out.f 1 _ rfl; have f2 := HR4.out.f 2 _ rfl
 have HRF := Lib.hid (Dk.Blk.set3 HR4.out (.int .i64 (sz : Int)) (.slice B1 M.length d1) (.slice B2 M.length d2))
 have HKS := Lib.hid (Dk.set3 (w3.alloc (.cells #[.int .i64 (sz : Int), .slice B1 M.length d1, .slice B2 M.length d2] 31)) p1 (.int .i64 (sz : Int)) (.slice B1 M.length d1) (.slice B2 M.length d2))
 go_wp2_with (fail)
 have g0 := HRF.out.c 0 _ rfl; have g1 := HRF.out.c 1 _ rfl; have g2 := HRF.out.c 2 _ rfl
 rw [HQE.out]
 refine bodyPost_ret (v := .tuple #[rdv3 sz (.slice B1 M.length d1) (.slice B2 M.length d2), .string ⟨#[]⟩, .int .i64 (E : Int)]) (by simp [results, Try.results8, go_sem, g0, g1, g2]; rfl) rfl ⟨(.slice B1 M.length d1), (.slice B2 M.length d2), rfl, HRD4.out.far HH4.out HKS.out, (HB4.out.trans (HKS.out.below (fun b e => by rw [e, HP.out]; exact Nat.le_of_lt HPP.out) HB4.out.size)), HFM.out.mono (Nat.le_refl _) (Nat.le_trans (box1 w3 (.cells #[.int .i64 (sz : Int), .slice B1 M.length d1, .slice B2 M.length d2] 31)).size HKS.out.size)⟩
end Go.Proofs.Ytchmepalhldpcaa.Dk

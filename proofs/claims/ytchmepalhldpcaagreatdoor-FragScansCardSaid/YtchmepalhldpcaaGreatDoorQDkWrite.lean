/-
  A text of this claim: DkWrite.
-/
import Derived.Test.YtchmepalhldpcaaGreatDoorQ2
import Derived.Test.YtchmepalhldpcaaGreatDoorQ1
import Derived.Deep.RegionWith
import Derived.Deep.Cut
namespace Go.Proofs.YtchmepalhldpcaaGreatDoor.Dk
open Go.ChangeShapes Go.WideShapes Go.ChangeAt Go.RowKit Go.ChangeMaps Go.Maps Go.MapKept Ov
theorem ne_map {w : World} {P : Program} {k : TypeId} {m n : Nat} {D : DataW Value} {v : Value} {s : List UInt8} {b : Nat} (ho : w.ownsMap P k RV m n D) (hv : Hd w v s) (hl : lies v b) : b ≠ m := fun e => by
 obtain ⟨es, clock, hb, _⟩ := ho
 obtain ⟨x, h0⟩ : ∃ x, w.cell? ⟨b, 0, none⟩ = some (.int .u8 x) := ⟨_, (hv.lies hl).1.cell 0 (List.length_pos_iff.2 (hv.lies hl).2)⟩
 rw [e] at h0
 unfold World.cell? at h0
 rw [hb] at h0
 cases h0
theorem ne_map_d {w : World} {P : Program} {k : TypeId} {m n d : Nat} {D : DataW Value} {vs : List Value} (ho : w.ownsMap P k RV m n D) (h : Blk w d vs) (hv : vs ≠ []) : d ≠ m := fun e => by
 obtain ⟨es, clock, hb, _⟩ := ho
 match vs, hv with
 | v :: vs, _ =>
   have := h.c 0 _ rfl
   rw [e] at this
   unfold World.cell? at this
   rw [hb] at this
   cases this
theorem put_all {w W : World} {O : Nat → Prop} {d m sz : Nat} {E : List Et} {t : ByteArray} {s : List UInt8} {v : Value} (h : Dk w O d m sz E) (k : Below w.heap.size w W) (h1 : t.data.toList ≠ []) (h2 : t.data.toList.length ≤ 64)
 (hu : us (rm t.data.toList (mp (·.1) E)) + (t.data.toList.length + s.length + 16) ≤ sz) (hv : Hd W v s) (hn : ∀ b, lies v b → w.heap.size ≤ b) :
 ∃ W', (Instr.mapUpdate 53 (.map (some m)) (.string t) v).run Tryz.prog W = .ok () W' ∧ TurnsTo O d sz (pt t.data.toList s (mp (·.1) E)) w W' := by
 have H := h.next k
 have ht : t.size ≤ maxLen := by
  have : t.data.toList.length = t.size := by simp
  unfold maxLen; omega
 obtain ⟨W', hrun, hown, hturn⟩ := H.o.store lawS Tryz.underlying53 (Nat.lt_of_le_of_lt H.len (by unfold maxLen; omega)) (key_s t ht) (show RV v = some (.held v, []) from rfl)
 refine ⟨W', hrun, fun b => O b ∨ lies v b, ⟨m, pt t.data.toList (s, v) E, ?_, by rw [← mp_pt]⟩, ?_, fun b hb => hb.imp id (hn b)⟩
 · have hk : Kp (fun b => b = m) W W' := Kp.turned rfl hturn
   refine ⟨H.h.kp hk (ne_map_d H.o H.h (by simp)), ?_, fun x hx => ?_, .inl H.od, .inl H.om, fun x hx b hb => ?_, ?_, srt_pt h.s _ _, ?_, h.z, fun x hx => ?_, fun b hb => ?_⟩
   · rw [dm_put, mp_pt (·.2) t.data.toList (s, v) E] at hown
     exact owns_len hown
   · rcases mem_pt.1 hx with rfl | ⟨hx, _⟩
     · exact hv.kp hk fun b hb => ne_map H.o hv hb
     · exact (H.e x hx).kp hk fun b hb => ne_map H.o (H.e x hx) hb
   · rcases mem_pt.1 hx with rfl | ⟨hx, _⟩
     · exact .inr hb
     · exact .inl (H.oe x hx b hb)
   · unfold pt
     refine ((ins_perm _ _ _).pairwise_iff (fun {x y} hxy b hb hc => hxy b hc hb)).2 (List.pairwise_cons.2 ⟨fun x hx b hb hc => ?_, h.p.sublist List.filter_sublist⟩)
     have := hn b hb
     have := (h.e x (mem_rm.1 hx).1).lt hc
     omega
   · rw [← mp_pt (·.1) t.data.toList (s, v) E, us_pt]; rw [Nat.add_comm]; exact hu
   · rcases mem_pt.1 hx with rfl | ⟨hx, _⟩
     · exact ⟨h1, h2⟩
     · exact h.n x hx
   · rcases hb with hb | hb
     · exact Nat.lt_of_lt_of_le (H.lt b hb) hk.size
     · exact Nat.lt_of_lt_of_le (hv.lt hb) hk.size
 · exact (Below.kp O k).trans (Kp.turned (O := fun b => b = m) rfl hturn) fun b hb => .inl (by subst hb; exact h.om)
def wrt (sz : Nat) (n s : List UInt8) (L : List (List UInt8 × List UInt8)) : Nat × List (List UInt8 × List UInt8) :=
 if n = [] ∨ 64 < n.length then (1, L) else if sz < us (rm n L) + (n.length + s.length + 16) then (9, L) else (0, pt n s L)
def WriteQ (O : Nat → Prop) (d sz : Nat) (q : Nat × List (List UInt8 × List UInt8)) (w : World) (e : Ending) (w' : World) : Prop :=
 e = .returned (.int .i64 (q.1 : Int)) ∧ TurnsTo O d sz q.2 w w'
theorem hd_made {W W1 : World} {s : ByteArray} {c : Nat} (hc : s.size ≤ c) (hr : RowB W1 W.heap.size s.data.toList) : Hd W1 (.slice (some ⟨W.heap.size, 0, none⟩) s.size c) s.data.toList :=
 ⟨_, c, by simp, by simpa using hc, fun _ => ⟨_, rfl, hr⟩⟩
theorem lies_at {B n c b : Nat} (h : lies (.slice (some ⟨B, 0, none⟩) n c) b) : b = B := by
 obtain ⟨k, c', e⟩ := h
 injection e with e; injection e with e; injection e with e; exact e.symm
set_option maxHeartbeats 4000000 in
set_option maxRecDepth 100000 in
theorem write_any {O : Nat → Prop} {d sz : Nat} {L : List (List UInt8 × List UInt8)} (t s : ByteArray) (hss : s.size ≤ 2305843009213693952) (w : World) (h : IsD w O d sz L) :
 Calls Tryz.prog 17 #[.pointer (some ⟨d, 0, none⟩), .string t, .string s] w (WriteQ O d sz (wrt sz t.data.toList s.data.toList L) w) := by
 have HI := Lib.hid h
 have hsz : t.data.toList.length = t.size := by simp
 have hsl : s.data.toList.length = s.size := by simp
 by_cases h0 : t = ⟨#[]⟩
 · subst h0
   go_enter Tryz.func17, Tryz.ntmps17
   go_wp2_with (fail)
   go_ret
   exact ⟨rfl, HI.out.stays (Below.refl _ _)⟩
 have hne : t.data.toList ≠ [] := fun e => h0 (by rw [← tx_of t, e]; rfl)
 have t0 : (t.toList == []) = false := beq_eq_false_iff_ne.2 (by rw [ByteArray.toList_eq]; exact hne)
 by_cases h6 : 64 < t.size
 · have t1 : decide ((64 : Int) < (t.size : Int)) = true := decide_eq_true (by omega)
   rw [show wrt sz t.data.toList s.data.toList L = (1, L) from if_pos (.inr (by omega))]
   clear h hsl
   go_enter Tryz.func17, Tryz.ntmps17
   go_wp2_with (fail)
   go_ret
   exact ⟨rfl, HI.out.stays (Below.refl _ _)⟩
 have t1 : decide ((64 : Int) < (t.size : Int)) = false := decide_eq_false (by omega)
 have hln : ¬ (t.data.toList = [] ∨ 64 < t.data.toList.length) := fun e => e.elim hne (by omega)
 have hw : wrt sz t.data.toList s.data.toList L = if sz < us (rm t.data.toList L) + (t.size + s.size + 16) then (9, L) else (0, pt t.data.toList s.data.toList L) := by
  unfold wrt; rw [if_neg hln, hsz, hsl]
 rw [hw]
 clear hw hln
 obtain ⟨m, E, h, rfl⟩ := h
 have H := Lib.hid h
 have htm : t.size ≤ maxLen := by unfold maxLen; omega
 have hu := us_rm t.data.toList h.sL
 have hus := h.u; have hz := h.z
 rw [gt_L] at hu
 cases hg : gt t.data.toList E with
 | none =>
   have hl := fun W (hb : Below w.heap.size w W) => (h.next hb).look_no htm hg
   have HL := Lib.hid hl
   rw [hg] at hu
   have hu' : us (mp (·.1) E) = us (rm t.data.toList (mp (·.1) E)) := hu
   obtain ⟨U, hU⟩ : ∃ U, us (mp (·.1) E) = U := ⟨_, rfl⟩
   have HR := Lib.hid (room_dk w h)
   rw [hU] at HR
   rw [← hu', hU]
   rw [hU] at hus
   have HU := Lib.hid (hu'.symm.trans hU)
   clear hu hu' hl hg hU h
   obtain ⟨A, hA⟩ : ∃ A, sz - U = A := ⟨_, rfl⟩
   rw [hA] at HR
   obtain ⟨K, hK⟩ : ∃ K, t.size + s.size + 16 = K := ⟨_, rfl⟩
   have HT := Lib.hid (fun W => takes_any t s.size W (by omega) hss)
   rw [hK] at HT ⊢
   have hA1 : A ≤ 4194304 := by omega
   have hK1 : K ≤ 4611686018427387904 := by omega
   have HAK := Lib.hid (And.intro hA hK)
   by_cases hf : sz < U + K
   · rw [if_pos hf]
     have t2 : decide ((A : Int) - (K : Int) < 0) = true := decide_eq_true (by omega)
     clear hA hK hf hus hz htm
     go_enter Tryz.func17, Tryz.ntmps17
     go_wp2_with (fail)
     refine HR.out.mono ?_
     rintro e w1 ⟨rfl, hb⟩
     have HB := Lib.hid hb; clear hb
     go_wp2_with (fail)
     refine (HT.out w1).mono ?_
     rintro e w2 ⟨rfl, hw⟩
     obtain rfl : w1 = w2 := hw.symm
     clear hw
     have hl := HL.out w1 HB.out
     have c1 := (H.out.next HB.out).h.c 1 _ rfl
     go_wp2_with (fail)
     go_ret
     exact ⟨rfl, HI.out.stays HB.out⟩
   · rw [if_neg hf]
     have t2 : decide ((A : Int) - (K : Int) < 0) = false := decide_eq_false (by omega)
     have HUK : Hid (us (rm t.data.toList (mp (·.1) E)) + (t.data.toList.length + s.data.toList.length + 16) ≤ sz) := Lib.hid (by rw [HU.out, hsz, hsl, hK]; omega)
     have HN1 := Lib.hid hne; have HN2 : Hid (t.data.toList.length ≤ 64) := Lib.hid (by omega)
     have HCL := Lib.hid (fun W => clone_any t W (by omega))
     clear hA hK hf hus hz htm
     go_enter Tryz.func17, Tryz.ntmps17
     go_wp2_with (fail)
     refine HR.out.mono ?_
     rintro e w1 ⟨rfl, hb⟩
     have HB := Lib.hid hb; clear hb
     go_wp2_with (fail)
     refine (HT.out w1).mono ?_
     rintro e w2 ⟨rfl, hw⟩
     obtain rfl : w1 = w2 := hw.symm
     clear hw
     have hl := HL.out w1 HB.out
     have c1 := (H.out.next HB.out).h.c 1 _ rfl
     go_upto_region 9 with (fail)
     clear hl
     have HB0 := Lib.hid (below_drewN HB.out 1)
     obtain ⟨cp0, w3, hcv0, hcp0, hrw0, hbw0, _⟩ := bytes_made s w1.drew
     have HB3 := Lib.hid (Below.next HB0.out hbw0)
     have c13 := (H.out.next HB3.out).h.c 1 _ rfl
     have HV3 : Hid (Hd w3 (.slice (some ⟨w1.heap.size, 0, none⟩) s.size cp0) s.data.toList) := Lib.hid (hd_made hcp0 hrw0)
     have hs1 : w.heap.size ≤ w1.heap.size := HB.out.size
     have HLO := Lib.hid hs1
     clear hcp0 hrw0 hbw0 hs1
     change (convert 9 67 (.string s)).run Tryz.prog w1.drew = .ok (.slice (some ⟨w1.heap.size, 0, none⟩) s.size cp0) w3 at hcv0
     go_region_with (first
      | (refine (HCL.out w3).mono ?_
         rintro e w4 ⟨rfl, hb⟩
         have hb4 := Below.next HB3.out hb
         have c14 := (H.out.next hb4).h.c 1 _ rfl
         obtain ⟨w5, hmu, hT⟩ := put_all H.out hb4 HN1.out HN2.out HUK.out (HV3.out.kp (Below.kp (fun _ => False) hb) (fun _ _ h => h)) (fun b hl => by rw [lies_at hl]; exact HLO.out)
         have HTT := Lib.hid hT
         clear hb hb4 hT)
      | (refine (HCL.out _).mono ?_
         rintro e w4 ⟨rfl, hb⟩
         have hb4 := Below.next HB0.out hb
         have c14 := (H.out.next hb4).h.c 1 _ rfl
         obtain ⟨cp5, w5, hcv5, hcp5, hrw5, hbw5, _⟩ := bytes_made s w4
         have hb5 := Below.next hb4 hbw5
         have c15 := (H.out.next hb5).h.c 1 _ rfl
         obtain ⟨w6, hmu, hT⟩ := put_all H.out hb5 HN1.out HN2.out HUK.out (hd_made hcp5 hrw5) (fun b hl => by rw [lies_at hl]; exact hb4.size)
         have HTT := Lib.hid hT
         clear hb hb4 hT hcp5 hrw5 hbw5 hb5))
     all_goals
      go_wp2_with (fail)
      go_ret
      exact ⟨rfl, HTT.out⟩
 | some y =>
   obtain ⟨s0, v⟩ := y
   have hl := fun W (hb : Below w.heap.size w W) => (h.next hb).look_yes htm hg
   have hE : Hd w v s0 := h.e _ (gt_some hg)
   have hm0 : t.data.toList.length + s0.length + 16 ≤ us (mp (·.1) E) := us_mem (List.mem_map.2 ⟨_, gt_some hg, rfl⟩ : (t.data.toList, s0) ∈ mp (·.1) E)
   obtain ⟨p, c, rfl, _, _⟩ := hE
   have HL := Lib.hid hl
   rw [hg] at hu
   have hu' : us (mp (·.1) E) = us (rm t.data.toList (mp (·.1) E)) + (t.data.toList.length + s0.length + 16) := hu
   rw [hsz] at hu'
   obtain ⟨U, hU⟩ : ∃ U, us (mp (·.1) E) = U := ⟨_, rfl⟩
   obtain ⟨V, hV⟩ : ∃ V, us (rm t.data.toList (mp (·.1) E)) = V := ⟨_, rfl⟩
   have HR := Lib.hid (room_dk w h)
   rw [hU] at HR hus hm0
   rw [hU, hV] at hu'
   rw [hV]
   have HU := Lib.hid hV
   have hs0 : s0.length ≤ 4194304 := by omega
   clear hu hl hg hU h hV
   obtain ⟨A, hA⟩ : ∃ A, sz - U = A := ⟨_, rfl⟩
   rw [hA] at HR
   obtain ⟨K, hK⟩ : ∃ K, t.size + s.size + 16 = K := ⟨_, rfl⟩
   obtain ⟨K0, hK0⟩ : ∃ K0, t.size + s0.length + 16 = K0 := ⟨_, rfl⟩
   have HT := Lib.hid (fun W => takes_any t s.size W (by omega) hss)
   have HT0 := Lib.hid (fun W => takes_any t s0.length W (by omega) (by omega))
   rw [hK] at HT ⊢
   rw [hK0] at HT0 hu'
   have hA1 : A ≤ 4194304 := by omega
   have hK1 : K ≤ 4611686018427387904 := by omega
   have hK2 : K0 ≤ 8388608 := by omega
   by_cases hf : sz < V + K
   · rw [if_pos hf]
     have t2 : decide ((A : Int) - (K : Int) + (K0 : Int) < 0) = true := decide_eq_true (by omega)
     clear hA hK hf hus hz htm hm0 hu' hK0 HU
     go_enter Tryz.func17, Tryz.ntmps17
     go_wp2_with (fail)
     refine HR.out.mono ?_
     rintro e w1 ⟨rfl, hb⟩
     have HB := Lib.hid hb; clear hb
     go_wp2_with (fail)
     refine (HT.out w1).mono ?_
     rintro e w2 ⟨rfl, hw⟩
     obtain rfl : w1 = w2 := hw.symm
     clear hw
     have hl := HL.out w1 HB.out
     have c1 := (H.out.next HB.out).h.c 1 _ rfl
     go_wp2_with (fail)
     refine (HT0.out w1).mono ?_
     rintro e w2 ⟨rfl, hw⟩
     obtain rfl : w1 = w2 := hw.symm
     clear hw
     go_wp2_with (fail)
     go_ret
     exact ⟨rfl, HI.out.stays HB.out⟩
   · rw [if_neg hf]
     have t2 : decide ((A : Int) - (K : Int) + (K0 : Int) < 0) = false := decide_eq_false (by omega)
     have HUK : Hid (us (rm t.data.toList (mp (·.1) E)) + (t.data.toList.length + s.data.toList.length + 16) ≤ sz) := Lib.hid (by rw [HU.out, hsz, hsl, hK]; omega)
     have HN1 := Lib.hid hne; have HN2 : Hid (t.data.toList.length ≤ 64) := Lib.hid (by omega)
     have HCL := Lib.hid (fun W => clone_any t W (by omega))
     clear hA hK hf hus hz htm hm0 hu' hK0
     go_enter Tryz.func17, Tryz.ntmps17
     go_wp2_with (fail)
     refine HR.out.mono ?_
     rintro e w1 ⟨rfl, hb⟩
     have HB := Lib.hid hb; clear hb
     go_wp2_with (fail)
     refine (HT.out w1).mono ?_
     rintro e w2 ⟨rfl, hw⟩
     obtain rfl : w1 = w2 := hw.symm
     clear hw
     have hl := HL.out w1 HB.out
     have c1 := (H.out.next HB.out).h.c 1 _ rfl
     go_wp2_with (fail)
     refine (HT0.out w1).mono ?_
     rintro e w2 ⟨rfl, hw⟩
     obtain rfl : w1 = w2 := hw.symm
     clear hw
     go_upto_region 9 with (fail)
     clear hl
     have HB0 := Lib.hid (below_drewN HB.out 1)
     obtain ⟨cp0, w3, hcv0, hcp0, hrw0, hbw0, _⟩ := bytes_made s w1.drew
     have HB3 := Lib.hid (Below.next HB0.out hbw0)
     have c13 := (H.out.next HB3.out).h.c 1 _ rfl
     have HV3 : Hid (Hd w3 (.slice (some ⟨w1.heap.size, 0, none⟩) s.size cp0) s.data.toList) := Lib.hid (hd_made hcp0 hrw0)
     have hs1 : w.heap.size ≤ w1.heap.size := HB.out.size
     have HLO := Lib.hid hs1
     clear hcp0 hrw0 hbw0 hs1
     change (convert 9 67 (.string s)).run Tryz.prog w1.drew = .ok (.slice (some ⟨w1.heap.size, 0, none⟩) s.size cp0) w3 at hcv0
     go_region_with (first
      | (refine (HCL.out w3).mono ?_
         rintro e w4 ⟨rfl, hb⟩
         have hb4 := Below.next HB3.out hb
         have c14 := (H.out.next hb4).h.c 1 _ rfl
         obtain ⟨w5, hmu, hT⟩ := put_all H.out hb4 HN1.out HN2.out HUK.out (HV3.out.kp (Below.kp (fun _ => False) hb) (fun _ _ h => h)) (fun b hl => by rw [lies_at hl]; exact HLO.out)
         have HTT := Lib.hid hT
         clear hb hb4 hT)
      | (refine (HCL.out _).mono ?_
         rintro e w4 ⟨rfl, hb⟩
         have hb4 := Below.next HB0.out hb
         have c14 := (H.out.next hb4).h.c 1 _ rfl
         obtain ⟨cp5, w5, hcv5, hcp5, hrw5, hbw5, _⟩ := bytes_made s w4
         have hb5 := Below.next hb4 hbw5
         have c15 := (H.out.next hb5).h.c 1 _ rfl
         obtain ⟨w6, hmu, hT⟩ := put_all H.out hb5 HN1.out HN2.out HUK.out (hd_made hcp5 hrw5) (fun b hl => by rw [lies_at hl]; exact hb4.size)
         have HTT := Lib.hid hT
         clear hb hb4 hT hcp5 hrw5 hbw5 hb5))
     all_goals
      go_wp2_with (fail)
      go_ret
      exact ⟨rfl, HTT.out⟩
end Go.Proofs.YtchmepalhldpcaaGreatDoor.Dk

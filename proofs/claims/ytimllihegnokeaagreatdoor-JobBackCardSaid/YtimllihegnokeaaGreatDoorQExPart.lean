/-
  A text of this claim: ExPart.
-/
import Derived.Test.YtimllihegnokeaaGreatDoorQ5
namespace Go.Proofs.YtimllihegnokeaaGreatDoor.Ex
open Go.ChangeShapes Go.WideShapes Go.ChangeAt Go.RowKit Ov Va
theorem ne_nil_of {s : ByteArray} (h : s.size ≠ 0) : s.data.toList ≠ [] := by rw [← ByteArray.toList_eq]; exact full_of h
set_option maxRecDepth 100000 in
set_option maxHeartbeats 2000000 in
theorem part_end (s : ByteArray) (b wi : Nat) (w : World) (hz : s.size = 0) : Calls Tryz.prog 182 #[.string s, .int .i64 (b : Int), .int .i64 (wi : Int)] w (Gives (cpv (cp s.data.toList b wi)) w) := by
 have h1 := empty_of hz
 have h1' : s.toList.isEmpty = true := by rw [h1]; rfl
 have HE : Hid (cp s.data.toList b wi = (nz, 0, 2)) := by show _ = _; rw [← ByteArray.toList_eq, h1]; rfl
 clear h1 hz
 go_enter Tryz.func182, Tryz.ntmps182
 go_wp2_with (fail)
 rw [HE.out]
 refine bodyPost_ret (v := cpv (nz, 0, 2)) (by simp [results, Tryz.results182, go_sem]; rfl) rfl ⟨rfl, ?_⟩
 exact box1 w _
set_option maxRecDepth 100000 in
set_option maxHeartbeats 2000000 in
theorem part_many (s : ByteArray) (b wi : Nat) (w : World) (hz : s.size ≠ 0) (hb : b = 400) : Calls Tryz.prog 182 #[.string s, .int .i64 (b : Int), .int .i64 (wi : Int)] w (Gives (cpv (cp s.data.toList b wi)) w) := by
 have h1' : s.toList.isEmpty = false := by simpa using full_of hz
 have hn := ne_nil_of hz
 subst hb
 have HE : Hid (cp s.data.toList 400 wi = (nz, 0, 22)) := by show _ = _; unfold cp; rw [if_neg hn, if_pos rfl]
 clear hn hz
 go_enter Tryz.func182, Tryz.ntmps182
 go_wp2_with (fail)
 rw [HE.out]
 refine bodyPost_ret (v := cpv (nz, 0, 22)) (by simp [results, Tryz.results182, go_sem]; rfl) rfl ⟨rfl, ?_⟩
 exact box1 w _
set_option maxRecDepth 100000 in
set_option maxHeartbeats 2000000 in
theorem part_nest (s : ByteArray) (b wi : Nat) (w : World) (hz : s.size ≠ 0) (hb : b ≠ 400) (hw : 24 < wi) : Calls Tryz.prog 182 #[.string s, .int .i64 (b : Int), .int .i64 (wi : Int)] w (Gives (cpv (cp s.data.toList b wi)) w) := by
 have h1' : s.toList.isEmpty = false := by simpa using full_of hz
 have hn := ne_nil_of hz
 have HE : Hid (cp s.data.toList b wi = (nz, 0, 23)) := by show _ = _; unfold cp; rw [if_neg hn, if_neg hb, if_pos hw]
 have g1 : ((b : Int) == 400) = false := by rw [beq_eq_false_iff_ne]; omega
 have g2 : (24 : Int) < (wi : Int) := by omega
 clear hn hz hb hw
 go_enter Tryz.func182, Tryz.ntmps182
 go_wp2_with (fail)
 rw [HE.out]
 refine bodyPost_ret (v := cpv (nz, 0, 23)) (by simp [results, Tryz.results182, go_sem]; rfl) rfl ⟨rfl, ?_⟩
 exact box1 w _
set_option maxRecDepth 100000 in
set_option maxHeartbeats 2000000 in
theorem part_arity (s : ByteArray) (b wi : Nat) (w : World) (hz : s.size ≠ 0) (hb : b ≠ 400) (hw : ¬ 24 < wi) (h0 : 0 < wi) (h41 : s.data.toList.head? = some 41) : Calls Tryz.prog 182 #[.string s, .int .i64 (b : Int), .int .i64 (wi : Int)] w (Gives (cpv (cp s.data.toList b wi)) w) := by
 have h1' : s.toList.isEmpty = false := by simpa using full_of hz
 have hn := ne_nil_of hz
 have h3 : 0 < s.size := by omega
 have hh := head_at h3
 obtain ⟨c, hc⟩ : ∃ c : UInt8, s[0]'h3 = c := ⟨_, rfl⟩
 rw [hc] at hh
 have g1 : ((b : Int) == 400) = false := by rw [beq_eq_false_iff_ne]; omega
 have g2 : ¬ (24 : Int) < (wi : Int) := by omega
 rw [h41] at hh
 obtain rfl := Option.some.inj hh
 have HE : Hid (cp s.data.toList b wi = (nz, 0, 12)) := by show _ = _; unfold cp; rw [if_neg hn, if_neg hb, if_neg hw, if_pos ⟨h0, h41⟩]
 have g3 : (0 : Int) < (wi : Int) := by omega
 clear hn hz hb hw h41 hh h0
 go_enter Tryz.func182, Tryz.ntmps182
 go_wp2_with (fail)
 rw [HE.out]
 refine bodyPost_ret (v := cpv (nz, 0, 12)) (by simp [results, Tryz.results182, go_sem]; rfl) rfl ⟨rfl, ?_⟩
 exact box1 w _
set_option maxRecDepth 100000 in
set_option maxHeartbeats 2000000 in
theorem part_kind0 (s : ByteArray) (b wi : Nat) (w : World) (hz : s.size ≠ 0) (hb : b ≠ 400) (hw : wi = 0) (h40 : s.data.toList.head? = some 40) (hs : s.size ≤ 281474976710656) (hk : KM w) : Calls Tryz.prog 182 #[.string s, .int .i64 (b : Int), .int .i64 (wi : Int)] w (Gives (cpv (cp s.data.toList b wi)) w) := by
 subst hw
 have hw : ¬ 24 < 0 := by omega
 have h41 : ¬ (0 < 0 ∧ s.data.toList.head? = some 41) := fun h => absurd h.1 (by omega)
 have h1' : s.toList.isEmpty = false := by simpa using full_of hz
 have hn := ne_nil_of hz
 have h3 : 0 < s.size := by omega
 have hh := head_at h3
 obtain ⟨c, hc⟩ : ∃ c : UInt8, s[0]'h3 = c := ⟨_, rfl⟩
 rw [hc] at hh
 have g1 : ((b : Int) == 400) = false := by rw [beq_eq_false_iff_ne]; omega
 have HE : Hid (cp s.data.toList b 0 = ck s.data.toList) := by show _ = _; unfold cp; rw [if_neg hn, if_neg hb, if_neg hw, if_neg h41, if_pos h40]
 rw [h40] at hh
 obtain rfl := Option.some.inj hh
 clear hn hz hb hw h41 hh h40
 have HC := Lib.hid (fun w hk => cutKind_any s h3 hs w hk)
 have HK := Lib.hid hk; clear hk
 rw [HE.out]; clear HE
 have HE : Hid (True) := trivial
 generalize ck s.data.toList = r at *
 obtain ⟨nn, z, e⟩ := r
 go_enter Tryz.func182, Tryz.ntmps182
 go_wp2_with (fail)
 have kb := Lib.hid (box1 w (.cells #[.int .i64 0, .int .i64 0, .int .i64 0, .string ⟨#[]⟩, .int .i64 0, .int .i64 0] 118))
 have D := Lib.hid (Blk.made w 118 (ncs 0 0 0 ⟨#[]⟩ 0 0) rfl)
 change Hid (Blk (w.alloc (.cells #[.int .i64 0, .int .i64 0, .int .i64 0, .string ⟨#[]⟩, .int .i64 0, .int .i64 0] 118)) w.heap.size _) at D
 generalize w.alloc (.cells #[.int .i64 0, .int .i64 0, .int .i64 0, .string ⟨#[]⟩, .int .i64 0, .int .i64 0] 118) = v at *
 refine (HC.out _ (HK.out.next kb.out)).mono ?_
 rintro e w1 ⟨rfl, hb⟩
 have D1 := D.out.next hb
 have HB1 := Lib.hid (Below.next kb.out hb)
 clear hb D kb HC
 unfold cpv nov
 have r0 := D1.c 0 _ rfl; have r1 := D1.c 1 _ rfl; have r2 := D1.c 2 _ rfl; have r3 := D1.c 3 _ rfl; have r4 := D1.c 4 _ rfl; have r5 := D1.c 5 _ rfl
 have f0 := D1.f 0 _ rfl; have f1 := D1.f 1 _ rfl; have f2 := D1.f 2 _ rfl; have f3 := D1.f 3 _ rfl; have f4 := D1.f 4 _ rfl; have f5 := D1.f 5 _ rfl
 have RH := Lib.hid (D1.all6 rfl)
 clear D1
 go_wp2_with (fail)
 have RF := RH.out (.int .i64 nn.o) (.int .i64 nn.v.k) (.int .i64 nn.v.n) (.string (tx nn.v.s)) (.int .i64 nn.v.x) (.int .i64 nn.v.y)
 have c0 := RF.c 0 _ rfl; have c1 := RF.c 1 _ rfl; have c2 := RF.c 2 _ rfl; have c3 := RF.c 3 _ rfl; have c4 := RF.c 4 _ rfl; have c5 := RF.c 5 _ rfl
 clear RF
 refine bodyPost_ret (v := cpv (nn, z, e)) (by simp [results, Tryz.results182, go_sem, c0, c1, c2, c3, c4, c5]; rfl) rfl ⟨rfl, ?_⟩
 exact below_all6 HB1.out (Nat.le_refl _) _ _ _ _ _ _
set_option maxRecDepth 100000 in
set_option maxHeartbeats 2000000 in
theorem part_kind1 (s : ByteArray) (b wi : Nat) (w : World) (hz : s.size ≠ 0) (hb : b ≠ 400) (hw : ¬ 24 < wi) (h0 : 0 < wi) (h41 : ¬ s.data.toList.head? = some 41) (h40 : s.data.toList.head? = some 40) (hs : s.size ≤ 281474976710656) (hk : KM w) : Calls Tryz.prog 182 #[.string s, .int .i64 (b : Int), .int .i64 (wi : Int)] w (Gives (cpv (cp s.data.toList b wi)) w) := by
 have h1' : s.toList.isEmpty = false := by simpa using full_of hz
 have hn := ne_nil_of hz
 have h3 : 0 < s.size := by omega
 have hh := head_at h3
 obtain ⟨c, hc⟩ : ∃ c : UInt8, s[0]'h3 = c := ⟨_, rfl⟩
 rw [hc] at hh
 have g1 : ((b : Int) == 400) = false := by rw [beq_eq_false_iff_ne]; omega
 have g2 : ¬ (24 : Int) < (wi : Int) := by omega
 have g3 : (0 : Int) < (wi : Int) := by omega
 have g4 : ((c.toNat : Int) == 41) = false := by
  rw [beq_eq_false_iff_ne]
  intro e
  exact h41 (by rw [hh, UInt8.toNat_inj.1 (show c.toNat = (41 : UInt8).toNat by show c.toNat = 41; omega)])
 have h41 : ¬ (0 < wi ∧ s.data.toList.head? = some 41) := fun h => h41 h.2
 have HE : Hid (cp s.data.toList b wi = ck s.data.toList) := by show _ = _; unfold cp; rw [if_neg hn, if_neg hb, if_neg hw, if_neg h41, if_pos h40]
 rw [h40] at hh
 obtain rfl := Option.some.inj hh
 clear hn hz hb hw h41 hh h40
 have HC := Lib.hid (fun w hk => cutKind_any s h3 hs w hk)
 have HK := Lib.hid hk; clear hk
 rw [HE.out]; clear HE
 have HE : Hid (True) := trivial
 generalize ck s.data.toList = r at *
 obtain ⟨nn, z, e⟩ := r
 go_enter Tryz.func182, Tryz.ntmps182
 go_wp2_with (fail)
 have kb := Lib.hid (box1 w (.cells #[.int .i64 0, .int .i64 0, .int .i64 0, .string ⟨#[]⟩, .int .i64 0, .int .i64 0] 118))
 have D := Lib.hid (Blk.made w 118 (ncs 0 0 0 ⟨#[]⟩ 0 0) rfl)
 change Hid (Blk (w.alloc (.cells #[.int .i64 0, .int .i64 0, .int .i64 0, .string ⟨#[]⟩, .int .i64 0, .int .i64 0] 118)) w.heap.size _) at D
 generalize w.alloc (.cells #[.int .i64 0, .int .i64 0, .int .i64 0, .string ⟨#[]⟩, .int .i64 0, .int .i64 0] 118) = v at *
 refine (HC.out _ (HK.out.next kb.out)).mono ?_
 rintro e w1 ⟨rfl, hb⟩
 have D1 := D.out.next hb
 have HB1 := Lib.hid (Below.next kb.out hb)
 clear hb D kb HC
 unfold cpv nov
 have r0 := D1.c 0 _ rfl; have r1 := D1.c 1 _ rfl; have r2 := D1.c 2 _ rfl; have r3 := D1.c 3 _ rfl; have r4 := D1.c 4 _ rfl; have r5 := D1.c 5 _ rfl
 have f0 := D1.f 0 _ rfl; have f1 := D1.f 1 _ rfl; have f2 := D1.f 2 _ rfl; have f3 := D1.f 3 _ rfl; have f4 := D1.f 4 _ rfl; have f5 := D1.f 5 _ rfl
 have RH := Lib.hid (D1.all6 rfl)
 clear D1
 go_wp2_with (fail)
 have RF := RH.out (.int .i64 nn.o) (.int .i64 nn.v.k) (.int .i64 nn.v.n) (.string (tx nn.v.s)) (.int .i64 nn.v.x) (.int .i64 nn.v.y)
 have c0 := RF.c 0 _ rfl; have c1 := RF.c 1 _ rfl; have c2 := RF.c 2 _ rfl; have c3 := RF.c 3 _ rfl; have c4 := RF.c 4 _ rfl; have c5 := RF.c 5 _ rfl
 clear RF
 refine bodyPost_ret (v := cpv (nn, z, e)) (by simp [results, Tryz.results182, go_sem, c0, c1, c2, c3, c4, c5]; rfl) rfl ⟨rfl, ?_⟩
 exact below_all6 HB1.out (Nat.le_refl _) _ _ _ _ _ _
set_option maxRecDepth 100000 in
set_option maxHeartbeats 2000000 in
theorem part_value0 (s : ByteArray) (b wi : Nat) (w : World) (hz : s.size ≠ 0) (hb : b ≠ 400) (hw : wi = 0) (h40 : ¬ s.data.toList.head? = some 40) (hs : s.size ≤ 281474976710656) (hk : KM w) : Calls Tryz.prog 182 #[.string s, .int .i64 (b : Int), .int .i64 (wi : Int)] w (Gives (cpv (cp s.data.toList b wi)) w) := by
 subst hw
 have hw : ¬ 24 < 0 := by omega
 have h41 : ¬ (0 < 0 ∧ s.data.toList.head? = some 41) := fun h => absurd h.1 (by omega)
 have h1' : s.toList.isEmpty = false := by simpa using full_of hz
 have hn := ne_nil_of hz
 have h3 : 0 < s.size := by omega
 have hh := head_at h3
 obtain ⟨c, hc⟩ : ∃ c : UInt8, s[0]'h3 = c := ⟨_, rfl⟩
 rw [hc] at hh
 have g1 : ((b : Int) == 400) = false := by rw [beq_eq_false_iff_ne]; omega
 have HE0 : Hid (cp s.data.toList b 0 = cv s.data.toList) := by show _ = _; unfold cp; rw [if_neg hn, if_neg hb, if_neg hw, if_neg h41, if_neg h40]
 have g5 : ((c.toNat : Int) == 40) = false := by
  rw [beq_eq_false_iff_ne]
  intro e
  exact h40 (by rw [hh, UInt8.toNat_inj.1 (show c.toNat = (40 : UInt8).toNat by show c.toNat = 40; omega)])
 clear hn hz hb hw h41 hh h40
 have HV := Lib.hid (fun w => parse_any s w hs)
 have HN := Lib.hid (fun w hk => cutName_any s w hk)
 have HK := Lib.hid hk; clear hk
 have HC : Hid (cv s.data.toList = if (pz s.data.toList).2.2 = 10 then cn s.data.toList else if (pz s.data.toList).2.2 ≠ 0 then (nz, 0, (pz s.data.toList).2.2) else (⟨0, (pz s.data.toList).1⟩, (pz s.data.toList).2.1, 0)) := rfl
 generalize pz s.data.toList = r at *
 obtain ⟨vv', z, k⟩ := r
 dsimp only at HC
 by_cases hk10 : k = 10
 · have HE := Lib.hid (HE0.out.trans (HC.out.trans (if_pos hk10)))
   subst hk10
   clear HC HE0
   rw [HE.out]; clear HE
   generalize cn s.data.toList = q at *
   obtain ⟨nn, z', e'⟩ := q
   go_enter Tryz.func182, Tryz.ntmps182
   go_wp2_with (fail)
   have kb := Lib.hid (box1 w (.cells #[.int .i64 0, .int .i64 0, .int .i64 0, .string ⟨#[]⟩, .int .i64 0, .int .i64 0] 118))
   have D := Lib.hid (Blk.made w 118 (ncs 0 0 0 ⟨#[]⟩ 0 0) rfl)
   change Hid (Blk (w.alloc (.cells #[.int .i64 0, .int .i64 0, .int .i64 0, .string ⟨#[]⟩, .int .i64 0, .int .i64 0] 118)) w.heap.size _) at D
   generalize w.alloc (.cells #[.int .i64 0, .int .i64 0, .int .i64 0, .string ⟨#[]⟩, .int .i64 0, .int .i64 0] 118) = v at *
   refine (HV.out _).mono ?_
   rintro e w1 ⟨rfl, hb⟩
   have D1 := D.out.next hb
   have HB1 := Lib.hid (Below.next kb.out hb)
   clear hb D kb HV
   unfold prv vv
   go_wp2_with (fail)
   have hb := box1 w1 (.cells #[.int .i64 vv'.k, .int .i64 vv'.n, .string (tx vv'.s), .int .i64 vv'.x, .int .i64 vv'.y] 45)
   generalize w1.alloc (.cells #[.int .i64 vv'.k, .int .i64 vv'.n, .string (tx vv'.s), .int .i64 vv'.x, .int .i64 vv'.y] 45) = v2 at *
   have D2 := D1.next hb
   have HB2 := Lib.hid (Below.next HB1.out hb)
   clear hb D1
   refine (HN.out _ (HK.out.next HB2.out)).mono ?_
   rintro e w3 ⟨rfl, hb⟩
   have D3 := D2.next hb
   have HB3 := Lib.hid (Below.next HB2.out hb)
   clear hb D2 HN
   unfold cpv nov
   have r0 := D3.c 0 _ rfl; have r1 := D3.c 1 _ rfl; have r2 := D3.c 2 _ rfl; have r3 := D3.c 3 _ rfl; have r4 := D3.c 4 _ rfl; have r5 := D3.c 5 _ rfl
   have f0 := D3.f 0 _ rfl; have f1 := D3.f 1 _ rfl; have f2 := D3.f 2 _ rfl; have f3 := D3.f 3 _ rfl; have f4 := D3.f 4 _ rfl; have f5 := D3.f 5 _ rfl
   have RH := Lib.hid (D3.all6 rfl)
   clear D3
   go_wp2_with (fail)
   have RF := RH.out (.int .i64 nn.o) (.int .i64 nn.v.k) (.int .i64 nn.v.n) (.string (tx nn.v.s)) (.int .i64 nn.v.x) (.int .i64 nn.v.y)
   have c0 := RF.c 0 _ rfl; have c1 := RF.c 1 _ rfl; have c2 := RF.c 2 _ rfl; have c3 := RF.c 3 _ rfl; have c4 := RF.c 4 _ rfl; have c5 := RF.c 5 _ rfl
   clear RF
   refine bodyPost_ret (v := cpv (nn, z', e')) (by simp [results, Tryz.results182, go_sem, c0, c1, c2, c3, c4, c5]; rfl) rfl ⟨rfl, ?_⟩
   exact below_all6 HB3.out (Nat.le_refl _) _ _ _ _ _ _
 by_cases hk0 : k ≠ 0
 · have HE := Lib.hid (HE0.out.trans (HC.out.trans ((if_neg hk10).trans (if_pos hk0))))
   have g6 : ((k : Int) == 10) = false := by rw [beq_eq_false_iff_ne]; omega
   have g7 : ((k : Int) != 0) = true := by rw [bne_iff_ne]; omega
   clear HC HE0 hk10 hk0 HN
   go_enter Tryz.func182, Tryz.ntmps182
   go_wp2_with (fail)
   have kb := Lib.hid (box1 w (.cells #[.int .i64 0, .int .i64 0, .int .i64 0, .string ⟨#[]⟩, .int .i64 0, .int .i64 0] 118))
   have D := Lib.hid (Blk.made w 118 (ncs 0 0 0 ⟨#[]⟩ 0 0) rfl)
   change Hid (Blk (w.alloc (.cells #[.int .i64 0, .int .i64 0, .int .i64 0, .string ⟨#[]⟩, .int .i64 0, .int .i64 0] 118)) w.heap.size _) at D
   generalize w.alloc (.cells #[.int .i64 0, .int .i64 0, .int .i64 0, .string ⟨#[]⟩, .int .i64 0, .int .i64 0] 118) = v at *
   refine (HV.out _).mono ?_
   rintro e w1 ⟨rfl, hb⟩
   have D1 := D.out.next hb
   have HB1 := Lib.hid (Below.next kb.out hb)
   clear hb D kb HV
   unfold prv vv
   have hb := box1 w1 (.cells #[.int .i64 vv'.k, .int .i64 vv'.n, .string (tx vv'.s), .int .i64 vv'.x, .int .i64 vv'.y] 45)
   have D2 := D1.next hb
   have HB2 := Lib.hid (Below.next HB1.out hb)
   clear hb D1
   have r0 := D2.c 0 _ rfl; have r1 := D2.c 1 _ rfl; have r2 := D2.c 2 _ rfl; have r3 := D2.c 3 _ rfl; have r4 := D2.c 4 _ rfl; have r5 := D2.c 5 _ rfl
   have f0 := D2.f 0 _ rfl; have f1 := D2.f 1 _ rfl; have f2 := D2.f 2 _ rfl; have f3 := D2.f 3 _ rfl; have f4 := D2.f 4 _ rfl; have f5 := D2.f 5 _ rfl
   have RH := Lib.hid (D2.all6 rfl)
   clear D2
   go_wp2_with (fail)
   have RF := RH.out (.int .i64 0) (.int .i64 0) (.int .i64 0) (.string ⟨#[]⟩) (.int .i64 0) (.int .i64 0)
   have c0 := RF.c 0 _ rfl; have c1 := RF.c 1 _ rfl; have c2 := RF.c 2 _ rfl; have c3 := RF.c 3 _ rfl; have c4 := RF.c 4 _ rfl; have c5 := RF.c 5 _ rfl
   clear RF
   rw [HE.out]
   refine bodyPost_ret (v := cpv (nz, 0, k)) (by simp [results, Tryz.results182, go_sem, c0, c1, c2, c3, c4, c5]; rfl) rfl ⟨rfl, ?_⟩
   exact below_all6 (HB2.out) (Nat.le_refl _) _ _ _ _ _ _
 · have hk0 : k = 0 := by omega
   have HE := Lib.hid (HE0.out.trans (HC.out.trans ((if_neg (by omega)).trans (if_neg (fun h => h hk0)))))
   subst hk0
   clear HC HE0 HN
   go_enter Tryz.func182, Tryz.ntmps182
   go_wp2_with (fail)
   have kb := Lib.hid (box1 w (.cells #[.int .i64 0, .int .i64 0, .int .i64 0, .string ⟨#[]⟩, .int .i64 0, .int .i64 0] 118))
   have D := Lib.hid (Blk.made w 118 (ncs 0 0 0 ⟨#[]⟩ 0 0) rfl)
   change Hid (Blk (w.alloc (.cells #[.int .i64 0, .int .i64 0, .int .i64 0, .string ⟨#[]⟩, .int .i64 0, .int .i64 0] 118)) w.heap.size _) at D
   generalize w.alloc (.cells #[.int .i64 0, .int .i64 0, .int .i64 0, .string ⟨#[]⟩, .int .i64 0, .int .i64 0] 118) = v at *
   refine (HV.out _).mono ?_
   rintro e w1 ⟨rfl, hb⟩
   have D1 := D.out.next hb
   have HB1 := Lib.hid (Below.next kb.out hb)
   clear hb D kb HV
   unfold prv vv
   have hb := box1 w1 (.cells #[.int .i64 vv'.k, .int .i64 vv'.n, .string (tx vv'.s), .int .i64 vv'.x, .int .i64 vv'.y] 45)
   have D2 := D1.next hb
   have HB2 := Lib.hid (Below.next HB1.out hb)
   clear hb D1
   have r0 := D2.c 0 _ rfl; have r1 := D2.c 1 _ rfl; have r2 := D2.c 2 _ rfl; have r3 := D2.c 3 _ rfl; have r4 := D2.c 4 _ rfl; have r5 := D2.c 5 _ rfl
   have f0 := D2.f 0 _ rfl; have f1 := D2.f 1 _ rfl; have f2 := D2.f 2 _ rfl; have f3 := D2.f 3 _ rfl; have f4 := D2.f 4 _ rfl; have f5 := D2.f 5 _ rfl
   have RH := Lib.hid (D2.all6 rfl)
   clear D2
   go_wp2_with (fail)
   have RF := RH.out (.int .i64 0) (.int .i64 vv'.k) (.int .i64 vv'.n) (.string (tx vv'.s)) (.int .i64 vv'.x) (.int .i64 vv'.y)
   have c0 := RF.c 0 _ rfl; have c1 := RF.c 1 _ rfl; have c2 := RF.c 2 _ rfl; have c3 := RF.c 3 _ rfl; have c4 := RF.c 4 _ rfl; have c5 := RF.c 5 _ rfl
   clear RF
   rw [HE.out]
   refine bodyPost_ret (v := cpv (⟨0, vv'⟩, z, 0)) (by simp [results, Tryz.results182, go_sem, c0, c1, c2, c3, c4, c5]; rfl) rfl ⟨rfl, ?_⟩
   exact below_all6 (HB2.out) (Nat.le_refl _) _ _ _ _ _ _
set_option maxRecDepth 100000 in
set_option maxHeartbeats 2000000 in
theorem part_value1 (s : ByteArray) (b wi : Nat) (w : World) (hz : s.size ≠ 0) (hb : b ≠ 400) (hw : ¬ 24 < wi) (h0 : 0 < wi) (h41 : ¬ s.data.toList.head? = some 41) (h40 : ¬ s.data.toList.head? = some 40) (hs : s.size ≤ 281474976710656) (hk : KM w) : Calls Tryz.prog 182 #[.string s, .int .i64 (b : Int), .int .i64 (wi : Int)] w (Gives (cpv (cp s.data.toList b wi)) w) := by
 have h1' : s.toList.isEmpty = false := by simpa using full_of hz
 have hn := ne_nil_of hz
 have h3 : 0 < s.size := by omega
 have hh := head_at h3
 obtain ⟨c, hc⟩ : ∃ c : UInt8, s[0]'h3 = c := ⟨_, rfl⟩
 rw [hc] at hh
 have g1 : ((b : Int) == 400) = false := by rw [beq_eq_false_iff_ne]; omega
 have g2 : ¬ (24 : Int) < (wi : Int) := by omega
 have g3 : (0 : Int) < (wi : Int) := by omega
 have g4 : ((c.toNat : Int) == 41) = false := by
  rw [beq_eq_false_iff_ne]
  intro e
  exact h41 (by rw [hh, UInt8.toNat_inj.1 (show c.toNat = (41 : UInt8).toNat by show c.toNat = 41; omega)])
 have h41 : ¬ (0 < wi ∧ s.data.toList.head? = some 41) := fun h => h41 h.2
 have HE0 : Hid (cp s.data.toList b wi = cv s.data.toList) := by show _ = _; unfold cp; rw [if_neg hn, if_neg hb, if_neg hw, if_neg h41, if_neg h40]
 have g5 : ((c.toNat : Int) == 40) = false := by
  rw [beq_eq_false_iff_ne]
  intro e
  exact h40 (by rw [hh, UInt8.toNat_inj.1 (show c.toNat = (40 : UInt8).toNat by show c.toNat = 40; omega)])
 clear hn hz hb hw h41 hh h40
 have HV := Lib.hid (fun w => parse_any s w hs)
 have HN := Lib.hid (fun w hk => cutName_any s w hk)
 have HK := Lib.hid hk; clear hk
 have HC : Hid (cv s.data.toList = if (pz s.data.toList).2.2 = 10 then cn s.data.toList else if (pz s.data.toList).2.2 ≠ 0 then (nz, 0, (pz s.data.toList).2.2) else (⟨0, (pz s.data.toList).1⟩, (pz s.data.toList).2.1, 0)) := rfl
 generalize pz s.data.toList = r at *
 obtain ⟨vv', z, k⟩ := r
 dsimp only at HC
 by_cases hk10 : k = 10
 · have HE := Lib.hid (HE0.out.trans (HC.out.trans (if_pos hk10)))
   subst hk10
   clear HC HE0
   rw [HE.out]; clear HE
   generalize cn s.data.toList = q at *
   obtain ⟨nn, z', e'⟩ := q
   go_enter Tryz.func182, Tryz.ntmps182
   go_wp2_with (fail)
   have kb := Lib.hid (box1 w (.cells #[.int .i64 0, .int .i64 0, .int .i64 0, .string ⟨#[]⟩, .int .i64 0, .int .i64 0] 118))
   have D := Lib.hid (Blk.made w 118 (ncs 0 0 0 ⟨#[]⟩ 0 0) rfl)
   change Hid (Blk (w.alloc (.cells #[.int .i64 0, .int .i64 0, .int .i64 0, .string ⟨#[]⟩, .int .i64 0, .int .i64 0] 118)) w.heap.size _) at D
   generalize w.alloc (.cells #[.int .i64 0, .int .i64 0, .int .i64 0, .string ⟨#[]⟩, .int .i64 0, .int .i64 0] 118) = v at *
   refine (HV.out _).mono ?_
   rintro e w1 ⟨rfl, hb⟩
   have D1 := D.out.next hb
   have HB1 := Lib.hid (Below.next kb.out hb)
   clear hb D kb HV
   unfold prv vv
   go_wp2_with (fail)
   have hb := box1 w1 (.cells #[.int .i64 vv'.k, .int .i64 vv'.n, .string (tx vv'.s), .int .i64 vv'.x, .int .i64 vv'.y] 45)
   generalize w1.alloc (.cells #[.int .i64 vv'.k, .int .i64 vv'.n, .string (tx vv'.s), .int .i64 vv'.x, .int .i64 vv'.y] 45) = v2 at *
   have D2 := D1.next hb
   have HB2 := Lib.hid (Below.next HB1.out hb)
   clear hb D1
   refine (HN.out _ (HK.out.next HB2.out)).mono ?_
   rintro e w3 ⟨rfl, hb⟩
   have D3 := D2.next hb
   have HB3 := Lib.hid (Below.next HB2.out hb)
   clear hb D2 HN
   unfold cpv nov
   have r0 := D3.c 0 _ rfl; have r1 := D3.c 1 _ rfl; have r2 := D3.c 2 _ rfl; have r3 := D3.c 3 _ rfl; have r4 := D3.c 4 _ rfl; have r5 := D3.c 5 _ rfl
   have f0 := D3.f 0 _ rfl; have f1 := D3.f 1 _ rfl; have f2 := D3.f 2 _ rfl; have f3 := D3.f 3 _ rfl; have f4 := D3.f 4 _ rfl; have f5 := D3.f 5 _ rfl
   have RH := Lib.hid (D3.all6 rfl)
   clear D3
   go_wp2_with (fail)
   have RF := RH.out (.int .i64 nn.o) (.int .i64 nn.v.k) (.int .i64 nn.v.n) (.string (tx nn.v.s)) (.int .i64 nn.v.x) (.int .i64 nn.v.y)
   have c0 := RF.c 0 _ rfl; have c1 := RF.c 1 _ rfl; have c2 := RF.c 2 _ rfl; have c3 := RF.c 3 _ rfl; have c4 := RF.c 4 _ rfl; have c5 := RF.c 5 _ rfl
   clear RF
   refine bodyPost_ret (v := cpv (nn, z', e')) (by simp [results, Tryz.results182, go_sem, c0, c1, c2, c3, c4, c5]; rfl) rfl ⟨rfl, ?_⟩
   exact below_all6 HB3.out (Nat.le_refl _) _ _ _ _ _ _
 by_cases hk0 : k ≠ 0
 · have HE := Lib.hid (HE0.out.trans (HC.out.trans ((if_neg hk10).trans (if_pos hk0))))
   have g6 : ((k : Int) == 10) = false := by rw [beq_eq_false_iff_ne]; omega
   have g7 : ((k : Int) != 0) = true := by rw [bne_iff_ne]; omega
   clear HC HE0 hk10 hk0 HN
   go_enter Tryz.func182, Tryz.ntmps182
   go_wp2_with (fail)
   have kb := Lib.hid (box1 w (.cells #[.int .i64 0, .int .i64 0, .int .i64 0, .string ⟨#[]⟩, .int .i64 0, .int .i64 0] 118))
   have D := Lib.hid (Blk.made w 118 (ncs 0 0 0 ⟨#[]⟩ 0 0) rfl)
   change Hid (Blk (w.alloc (.cells #[.int .i64 0, .int .i64 0, .int .i64 0, .string ⟨#[]⟩, .int .i64 0, .int .i64 0] 118)) w.heap.size _) at D
   generalize w.alloc (.cells #[.int .i64 0, .int .i64 0, .int .i64 0, .string ⟨#[]⟩, .int .i64 0, .int .i64 0] 118) = v at *
   refine (HV.out _).mono ?_
   rintro e w1 ⟨rfl, hb⟩
   have D1 := D.out.next hb
   have HB1 := Lib.hid (Below.next kb.out hb)
   clear hb D kb HV
   unfold prv vv
   have hb := box1 w1 (.cells #[.int .i64 vv'.k, .int .i64 vv'.n, .string (tx vv'.s), .int .i64 vv'.x, .int .i64 vv'.y] 45)
   have D2 := D1.next hb
   have HB2 := Lib.hid (Below.next HB1.out hb)
   clear hb D1
   have r0 := D2.c 0 _ rfl; have r1 := D2.c 1 _ rfl; have r2 := D2.c 2 _ rfl; have r3 := D2.c 3 _ rfl; have r4 := D2.c 4 _ rfl; have r5 := D2.c 5 _ rfl
   have f0 := D2.f 0 _ rfl; have f1 := D2.f 1 _ rfl; have f2 := D2.f 2 _ rfl; have f3 := D2.f 3 _ rfl; have f4 := D2.f 4 _ rfl; have f5 := D2.f 5 _ rfl
   have RH := Lib.hid (D2.all6 rfl)
   clear D2
   go_wp2_with (fail)
   have RF := RH.out (.int .i64 0) (.int .i64 0) (.int .i64 0) (.string ⟨#[]⟩) (.int .i64 0) (.int .i64 0)
   have c0 := RF.c 0 _ rfl; have c1 := RF.c 1 _ rfl; have c2 := RF.c 2 _ rfl; have c3 := RF.c 3 _ rfl; have c4 := RF.c 4 _ rfl; have c5 := RF.c 5 _ rfl
   clear RF
   rw [HE.out]
   refine bodyPost_ret (v := cpv (nz, 0, k)) (by simp [results, Tryz.results182, go_sem, c0, c1, c2, c3, c4, c5]; rfl) rfl ⟨rfl, ?_⟩
   exact below_all6 (HB2.out) (Nat.le_refl _) _ _ _ _ _ _
 · have hk0 : k = 0 := by omega
   have HE := Lib.hid (HE0.out.trans (HC.out.trans ((if_neg (by omega)).trans (if_neg (fun h => h hk0)))))
   subst hk0
   clear HC HE0 HN
   go_enter Tryz.func182, Tryz.ntmps182
   go_wp2_with (fail)
   have kb := Lib.hid (box1 w (.cells #[.int .i64 0, .int .i64 0, .int .i64 0, .string ⟨#[]⟩, .int .i64 0, .int .i64 0] 118))
   have D := Lib.hid (Blk.made w 118 (ncs 0 0 0 ⟨#[]⟩ 0 0) rfl)
   change Hid (Blk (w.alloc (.cells #[.int .i64 0, .int .i64 0, .int .i64 0, .string ⟨#[]⟩, .int .i64 0, .int .i64 0] 118)) w.heap.size _) at D
   generalize w.alloc (.cells #[.int .i64 0, .int .i64 0, .int .i64 0, .string ⟨#[]⟩, .int .i64 0, .int .i64 0] 118) = v at *
   refine (HV.out _).mono ?_
   rintro e w1 ⟨rfl, hb⟩
   have D1 := D.out.next hb
   have HB1 := Lib.hid (Below.next kb.out hb)
   clear hb D kb HV
   unfold prv vv
   have hb := box1 w1 (.cells #[.int .i64 vv'.k, .int .i64 vv'.n, .string (tx vv'.s), .int .i64 vv'.x, .int .i64 vv'.y] 45)
   have D2 := D1.next hb
   have HB2 := Lib.hid (Below.next HB1.out hb)
   clear hb D1
   have r0 := D2.c 0 _ rfl; have r1 := D2.c 1 _ rfl; have r2 := D2.c 2 _ rfl; have r3 := D2.c 3 _ rfl; have r4 := D2.c 4 _ rfl; have r5 := D2.c 5 _ rfl
   have f0 := D2.f 0 _ rfl; have f1 := D2.f 1 _ rfl; have f2 := D2.f 2 _ rfl; have f3 := D2.f 3 _ rfl; have f4 := D2.f 4 _ rfl; have f5 := D2.f 5 _ rfl
   have RH := Lib.hid (D2.all6 rfl)
   clear D2
   go_wp2_with (fail)
   have RF := RH.out (.int .i64 0) (.int .i64 vv'.k) (.int .i64 vv'.n) (.string (tx vv'.s)) (.int .i64 vv'.x) (.int .i64 vv'.y)
   have c0 := RF.c 0 _ rfl; have c1 := RF.c 1 _ rfl; have c2 := RF.c 2 _ rfl; have c3 := RF.c 3 _ rfl; have c4 := RF.c 4 _ rfl; have c5 := RF.c 5 _ rfl
   clear RF
   rw [HE.out]
   refine bodyPost_ret (v := cpv (⟨0, vv'⟩, z, 0)) (by simp [results, Tryz.results182, go_sem, c0, c1, c2, c3, c4, c5]; rfl) rfl ⟨rfl, ?_⟩
   exact below_all6 (HB2.out) (Nat.le_refl _) _ _ _ _ _ _
theorem part_any (s : ByteArray) (b wi : Nat) (hs : s.size ≤ 281474976710656) (w : World) (hk : KM w) : Calls Tryz.prog 182 #[.string s, .int .i64 (b : Int), .int .i64 (wi : Int)] w (Gives (cpv (cp s.data.toList b wi)) w) := by
 by_cases hz : s.size = 0
 · exact part_end s b wi w hz
 by_cases hb : b = 400
 · exact part_many s b wi w hz hb
 by_cases hw : 24 < wi
 · exact part_nest s b wi w hz hb hw
 by_cases h0 : wi = 0
 · by_cases h40 : s.data.toList.head? = some 40
   · exact part_kind0 s b wi w hz hb h0 h40 hs hk
   · exact part_value0 s b wi w hz hb h0 h40 hs hk
 · by_cases h41 : s.data.toList.head? = some 41
   · exact part_arity s b wi w hz hb hw (by omega) h41
   by_cases h40 : s.data.toList.head? = some 40
   · exact part_kind1 s b wi w hz hb hw (by omega) h41 h40 hs hk
   · exact part_value1 s b wi w hz hb hw (by omega) h41 h40 hs hk
end Go.Proofs.YtimllihegnokeaaGreatDoor.Ex

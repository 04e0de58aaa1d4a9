/-
  What readNumber and readPoint answer (written by gen_vard.py).
-/
import Derived.Test.YtgakcpcpfkoaiaaVaRd
import Derived.Test.YtgakcpcpfkoaiaaVaCut3
import Derived.Test.YtgakcpcpfkoaiaaTpTape
namespace Go.Proofs.Ytgakcpcpfkoaiaa.Va
open Go.ChangeShapes Go.WideShapes Go.ChangeAt Go.RowKit Go.Proofs.Ytgakcpcpfkoaiaa.Ov Go.Proofs.Ytgakcpcpfkoaiaa.Tp

theorem cn_len {l t : List UInt8} {m : Nat} (h : cn 0 0 l = (m, t, 0)) (hl : l.length ≤ 281474976710656) : t.length ≤ 281474976710656 := by
  have := congrArg List.length (cn_own h)
  rw [List.length_append] at this; omega
theorem cn_max {l t : List UInt8} {m : Nat} (h : cn 0 0 l = (m, t, 0)) : m ≤ 9007199254740991 := by
  have := (cn_ok 0 0 l (by rw [h])).2
  rw [h] at this; exact this
theorem sg_in {m : Nat} (h : m ≤ 9007199254740991) : -4503599627370496 ≤ sg m ∧ sg m ≤ 4503599627370495 := by
  unfold sg; split <;> omega
theorem tur_all5 (w : World) (c : Nat) (a0 a1 a2 a3 a4 : Value) : Tur c w (((((w.setCell ⟨c, 0, none⟩ a0).setCell ⟨c, 1, none⟩ a1).setCell ⟨c, 2, none⟩ a2).setCell ⟨c, 3, none⟩ a3).setCell ⟨c, 4, none⟩ a4) :=
  ((((Tur.refl.setCell 0 a0).setCell 1 a1).setCell 2 a2).setCell 3 a3).setCell 4 a4
end Go.Proofs.Ytgakcpcpfkoaiaa.Va
namespace Go.Proofs.Ytgakcpcpfkoaiaa.Ov
open Go.ChangeShapes Go.WideShapes Go.ChangeAt Go.RowKit
theorem Tur.new {b c : Nat} {w w' : World} (h : Tur b w w') (hc : w.heap.size ≤ c) (j : Nat) (v : Value) : Tur b w (w'.setCell ⟨c, j, none⟩ v) :=
  ⟨h.os, h.tape, h.output, by have := h.size; simpa [World.setCell] using this, fun k hk hb => (Below.heap_setCell _ _ _ _ (by show k ≠ c; omega)).trans (h.block k hk hb)⟩
theorem Tur.new5 {b c : Nat} {w w' : World} (h : Tur b w w') (hc : w.heap.size ≤ c) (a0 a1 a2 a3 a4 : Value) : Tur b w (((((w'.setCell ⟨c, 0, none⟩ a0).setCell ⟨c, 1, none⟩ a1).setCell ⟨c, 2, none⟩ a2).setCell ⟨c, 3, none⟩ a3).setCell ⟨c, 4, none⟩ a4) :=
  ((((h.new hc 0 a0).new hc 1 a1).new hc 2 a2).new hc 3 a3).new hc 4 a4
theorem Blk.tur {b c : Nat} {w w' : World} {vs : List Value} (h : Blk w c vs) (k : Tur b w w') (hne : c ≠ b) : Blk w' c vs :=
  ⟨fun i v e => (k.cell (p := ⟨c, i, none⟩) hne h.lt).trans (h.c i v e), fun i v e => by
    have hb := k.block c h.lt hne
    have := h.f i v e
    unfold World.frozen? at this ⊢
    rw [hb]; exact this, Nat.lt_of_lt_of_le h.lt k.size⟩
end Go.Proofs.Ytgakcpcpfkoaiaa.Ov
namespace Go.Proofs.Ytgakcpcpfkoaiaa.Va
open Go.ChangeShapes Go.WideShapes Go.ChangeAt Go.RowKit Go.Proofs.Ytgakcpcpfkoaiaa.Ov Go.Proofs.Ytgakcpcpfkoaiaa.Tp

set_option maxRecDepth 100000 in
set_option maxHeartbeats 2000000 in
theorem readNumber_any (b : Nat) (l : List UInt8) (w : World) (h : IsT w b l) (hl : l.length ≤ 281474976710656) :
    Calls Try.prog 65 #[.pointer (some ⟨b, 0, none⟩)] w (LeftT b (.tuple #[vv (rnum l).1, .int .i64 ((rnum l).2.1 : Int)]) (rnum l).2.2 w) := by
  have HT := Lib.hid h; clear h
  rcases cn_cases l with ⟨m, t, e, htl, hm⟩ | ⟨k, e, hk, _⟩
  · have hs := sg_in hm
    have ht := cn_len e hl
    clear htl
    rcases cn_cases t with ⟨r, u, e2, hul, hr⟩ | ⟨k, e2, hk, _⟩
    · clear hul
      by_cases hbad : sg m < -67108864 ∨ 67108864 < sg m ∨ 134217728 ≤ r
      · have HE : Hid (rnum l = (vz, 6, u)) := by
          show _ = _
          unfold rnum; rw [e, if_neg (fun h => h rfl)]; dsimp only
          rw [e2, if_neg (fun h => h rfl), if_pos hbad]
        have HQ := Lib.hid e; have HQ2 := Lib.hid e2
        clear e e2
        by_cases b1 : sg m < -67108864
        · clear hbad
          go_enter Try.func65, Try.ntmps65
          go_wp2_with (fail)
          have KB0 := Lib.hid (Below.tur (b := b) (box1 w (.cells #[.int .i64 0, .int .i64 0, .string ⟨#[]⟩, .int .i64 0, .int .i64 0] 42)))
          have HT0 : Hid (IsT (w.alloc (.cells #[.int .i64 0, .int .i64 0, .string ⟨#[]⟩, .int .i64 0, .int .i64 0] 42)) b l) := One.old HT.out (box1 w (.cells #[.int .i64 0, .int .i64 0, .string ⟨#[]⟩, .int .i64 0, .int .i64 0] 42))
          have R := Blk.made w 42 (vcs 0 0 ⟨#[]⟩ 0 0) rfl
          change Blk (w.alloc (.cells #[.int .i64 0, .int .i64 0, .string ⟨#[]⟩, .int .i64 0, .int .i64 0] 42)) w.heap.size _ at R
          have R0 := Lib.hid R; clear R
          have hne : w.heap.size ≠ b := Nat.ne_of_gt (One.lt HT.out)
          clear HT
          generalize w.alloc (.cells #[.int .i64 0, .int .i64 0, .string ⟨#[]⟩, .int .i64 0, .int .i64 0] 42) = w0 at *
          refine (whole_ok b l _ HT0.out hl HQ.out).mono ?_
          rintro e w1 ⟨rfl, ht, hu⟩
          have HT1 := Lib.hid ht
          have KB1 := Lib.hid (KB0.out.trans hu)
          have R1 := Lib.hid (R0.out.tur hu hne)
          clear ht hu HT0 KB0 R0
          go_wp2_with (fail)
          refine (num_ok b t _ HT1.out ht HQ2.out).mono ?_
          rintro e w2 ⟨rfl, ht, hu⟩
          have HT2 := Lib.hid ht
          have KB2 := Lib.hid (KB1.out.trans hu)
          have R2 := Lib.hid (R1.out.tur hu hne)
          clear ht hu HT1 KB1 R1
          have r0 := R2.out.v0; have r1 := R2.out.v1; have r2 := R2.out.v2; have r3 := R2.out.v3; have r4 := R2.out.v4
          have f0 := R2.out.g0; have f1 := R2.out.g1; have f2 := R2.out.g2; have f3 := R2.out.g3; have f4 := R2.out.g4
          go_wp2_with (fail)
          have RF := R2.out.all5 (.int .i64 0) (.int .i64 0) (.string ⟨#[]⟩) (.int .i64 0) (.int .i64 0)
          have c0 := RF.c 0 _ rfl; have c1 := RF.c 1 _ rfl; have c2 := RF.c 2 _ rfl; have c3 := RF.c 3 _ rfl; have c4 := RF.c 4 _ rfl
          clear RF
          rw [HE.out]
          refine bodyPost_ret (v := .tuple #[vv vz, .int .i64 6]) (by simp [results, Try.results65, go_sem, c0, c1, c2, c3, c4]; try rfl) rfl ⟨rfl, ?_, ?_⟩
          · exact One.tur HT2.out (tur_all5 _ _ _ _ _ _ _) hne.symm
          · exact KB2.out.new5 (Nat.le_refl _) _ _ _ _ _
        · by_cases b2 : 67108864 < sg m
          · clear hbad
            go_enter Try.func65, Try.ntmps65
            go_wp2_with (fail)
            have KB0 := Lib.hid (Below.tur (b := b) (box1 w (.cells #[.int .i64 0, .int .i64 0, .string ⟨#[]⟩, .int .i64 0, .int .i64 0] 42)))
            have HT0 : Hid (IsT (w.alloc (.cells #[.int .i64 0, .int .i64 0, .string ⟨#[]⟩, .int .i64 0, .int .i64 0] 42)) b l) := One.old HT.out (box1 w (.cells #[.int .i64 0, .int .i64 0, .string ⟨#[]⟩, .int .i64 0, .int .i64 0] 42))
            have R := Blk.made w 42 (vcs 0 0 ⟨#[]⟩ 0 0) rfl
            change Blk (w.alloc (.cells #[.int .i64 0, .int .i64 0, .string ⟨#[]⟩, .int .i64 0, .int .i64 0] 42)) w.heap.size _ at R
            have R0 := Lib.hid R; clear R
            have hne : w.heap.size ≠ b := Nat.ne_of_gt (One.lt HT.out)
            clear HT
            generalize w.alloc (.cells #[.int .i64 0, .int .i64 0, .string ⟨#[]⟩, .int .i64 0, .int .i64 0] 42) = w0 at *
            refine (whole_ok b l _ HT0.out hl HQ.out).mono ?_
            rintro e w1 ⟨rfl, ht, hu⟩
            have HT1 := Lib.hid ht
            have KB1 := Lib.hid (KB0.out.trans hu)
            have R1 := Lib.hid (R0.out.tur hu hne)
            clear ht hu HT0 KB0 R0
            go_wp2_with (fail)
            refine (num_ok b t _ HT1.out ht HQ2.out).mono ?_
            rintro e w2 ⟨rfl, ht, hu⟩
            have HT2 := Lib.hid ht
            have KB2 := Lib.hid (KB1.out.trans hu)
            have R2 := Lib.hid (R1.out.tur hu hne)
            clear ht hu HT1 KB1 R1
            have r0 := R2.out.v0; have r1 := R2.out.v1; have r2 := R2.out.v2; have r3 := R2.out.v3; have r4 := R2.out.v4
            have f0 := R2.out.g0; have f1 := R2.out.g1; have f2 := R2.out.g2; have f3 := R2.out.g3; have f4 := R2.out.g4
            go_wp2_with (fail)
            have RF := R2.out.all5 (.int .i64 0) (.int .i64 0) (.string ⟨#[]⟩) (.int .i64 0) (.int .i64 0)
            have c0 := RF.c 0 _ rfl; have c1 := RF.c 1 _ rfl; have c2 := RF.c 2 _ rfl; have c3 := RF.c 3 _ rfl; have c4 := RF.c 4 _ rfl
            clear RF
            rw [HE.out]
            refine bodyPost_ret (v := .tuple #[vv vz, .int .i64 6]) (by simp [results, Try.results65, go_sem, c0, c1, c2, c3, c4]; try rfl) rfl ⟨rfl, ?_, ?_⟩
            · exact One.tur HT2.out (tur_all5 _ _ _ _ _ _ _) hne.symm
            · exact KB2.out.new5 (Nat.le_refl _) _ _ _ _ _
          · have b3 : (134217728 : Int) ≤ (r : Int) := by omega
            clear hbad
            go_enter Try.func65, Try.ntmps65
            go_wp2_with (fail)
            have KB0 := Lib.hid (Below.tur (b := b) (box1 w (.cells #[.int .i64 0, .int .i64 0, .string ⟨#[]⟩, .int .i64 0, .int .i64 0] 42)))
            have HT0 : Hid (IsT (w.alloc (.cells #[.int .i64 0, .int .i64 0, .string ⟨#[]⟩, .int .i64 0, .int .i64 0] 42)) b l) := One.old HT.out (box1 w (.cells #[.int .i64 0, .int .i64 0, .string ⟨#[]⟩, .int .i64 0, .int .i64 0] 42))
            have R := Blk.made w 42 (vcs 0 0 ⟨#[]⟩ 0 0) rfl
            change Blk (w.alloc (.cells #[.int .i64 0, .int .i64 0, .string ⟨#[]⟩, .int .i64 0, .int .i64 0] 42)) w.heap.size _ at R
            have R0 := Lib.hid R; clear R
            have hne : w.heap.size ≠ b := Nat.ne_of_gt (One.lt HT.out)
            clear HT
            generalize w.alloc (.cells #[.int .i64 0, .int .i64 0, .string ⟨#[]⟩, .int .i64 0, .int .i64 0] 42) = w0 at *
            refine (whole_ok b l _ HT0.out hl HQ.out).mono ?_
            rintro e w1 ⟨rfl, ht, hu⟩
            have HT1 := Lib.hid ht
            have KB1 := Lib.hid (KB0.out.trans hu)
            have R1 := Lib.hid (R0.out.tur hu hne)
            clear ht hu HT0 KB0 R0
            go_wp2_with (fail)
            refine (num_ok b t _ HT1.out ht HQ2.out).mono ?_
            rintro e w2 ⟨rfl, ht, hu⟩
            have HT2 := Lib.hid ht
            have KB2 := Lib.hid (KB1.out.trans hu)
            have R2 := Lib.hid (R1.out.tur hu hne)
            clear ht hu HT1 KB1 R1
            have r0 := R2.out.v0; have r1 := R2.out.v1; have r2 := R2.out.v2; have r3 := R2.out.v3; have r4 := R2.out.v4
            have f0 := R2.out.g0; have f1 := R2.out.g1; have f2 := R2.out.g2; have f3 := R2.out.g3; have f4 := R2.out.g4
            go_wp2_with (fail)
            have RF := R2.out.all5 (.int .i64 0) (.int .i64 0) (.string ⟨#[]⟩) (.int .i64 0) (.int .i64 0)
            have c0 := RF.c 0 _ rfl; have c1 := RF.c 1 _ rfl; have c2 := RF.c 2 _ rfl; have c3 := RF.c 3 _ rfl; have c4 := RF.c 4 _ rfl
            clear RF
            rw [HE.out]
            refine bodyPost_ret (v := .tuple #[vv vz, .int .i64 6]) (by simp [results, Try.results65, go_sem, c0, c1, c2, c3, c4]; try rfl) rfl ⟨rfl, ?_, ?_⟩
            · exact One.tur HT2.out (tur_all5 _ _ _ _ _ _ _) hne.symm
            · exact KB2.out.new5 (Nat.le_refl _) _ _ _ _ _
      · have HE : Hid (rnum l = (⟨0, sg m * 134217728 + (r : Int), [], 0, 0⟩, 0, u)) := by
          show _ = _
          unfold rnum; rw [e, if_neg (fun h => h rfl)]; dsimp only
          rw [e2, if_neg (fun h => h rfl), if_neg hbad]
        have HQ := Lib.hid e; have HQ2 := Lib.hid e2
        have HQ3 := Lib.hid (fun w h => whole_ok b l w h hl HQ.out)
        have b1 : -67108864 ≤ sg m := by omega
        have b2 : sg m ≤ 67108864 := by omega
        have b3 : (r : Int) ≤ 134217727 := by omega
        have HQ4 := Lib.hid (fun w h => num_ok b t w h ht HQ2.out)
        have b4 : 0 ≤ (r : Int) := by omega
        clear e e2 hbad hs hr hm HQ HQ2
        generalize (r : Int) = z at *
        generalize sg m = q at *
        obtain ⟨p, hp⟩ : ∃ p, q * 134217728 = p := ⟨_, rfl⟩
        have p1 : -9007199254740992 ≤ p := by omega
        have p2 : p ≤ 9007199254740992 := by omega
        rw [hp] at HE
        go_enter Try.func65, Try.ntmps65
        go_wp2_with (fail)
        have KB0 := Lib.hid (Below.tur (b := b) (box1 w (.cells #[.int .i64 0, .int .i64 0, .string ⟨#[]⟩, .int .i64 0, .int .i64 0] 42)))
        have HT0 : Hid (IsT (w.alloc (.cells #[.int .i64 0, .int .i64 0, .string ⟨#[]⟩, .int .i64 0, .int .i64 0] 42)) b l) := One.old HT.out (box1 w (.cells #[.int .i64 0, .int .i64 0, .string ⟨#[]⟩, .int .i64 0, .int .i64 0] 42))
        have R := Blk.made w 42 (vcs 0 0 ⟨#[]⟩ 0 0) rfl
        change Blk (w.alloc (.cells #[.int .i64 0, .int .i64 0, .string ⟨#[]⟩, .int .i64 0, .int .i64 0] 42)) w.heap.size _ at R
        have R0 := Lib.hid R; clear R
        have hne : w.heap.size ≠ b := Nat.ne_of_gt (One.lt HT.out)
        clear HT
        generalize w.alloc (.cells #[.int .i64 0, .int .i64 0, .string ⟨#[]⟩, .int .i64 0, .int .i64 0] 42) = w0 at *
        refine (HQ3.out _ HT0.out).mono ?_
        rintro e w1 ⟨rfl, ht, hu⟩
        have HT1 := Lib.hid ht
        have KB1 := Lib.hid (KB0.out.trans hu)
        have R1 := Lib.hid (R0.out.tur hu hne)
        clear ht hu HT0 KB0 R0
        go_wp2_with (fail)
        refine (HQ4.out _ HT1.out).mono ?_
        rintro e w2 ⟨rfl, ht, hu⟩
        have HT2 := Lib.hid ht
        have KB2 := Lib.hid (KB1.out.trans hu)
        have R2 := Lib.hid (R1.out.tur hu hne)
        clear ht hu HT1 KB1 R1
        go_wp2_with (fail)
        refine (number_any _ _).mono ?_
        rintro e w3 ⟨rfl, hb⟩
        have HT3 : Hid (IsT w3 b u) := One.old HT2.out hb
        have KB3 := Lib.hid (KB2.out.trans (Below.tur hb))
        have R3 := Lib.hid (R2.out.next hb)
        clear hb HT2 KB2 R2
        have r0 := R3.out.v0; have r1 := R3.out.v1; have r2 := R3.out.v2; have r3 := R3.out.v3; have r4 := R3.out.v4
        have f0 := R3.out.g0; have f1 := R3.out.g1; have f2 := R3.out.g2; have f3 := R3.out.g3; have f4 := R3.out.g4
        go_wp2_with (fail)
        have RF := R3.out.all5 (.int .i64 0) (.int .i64 (p + z)) (.string ⟨#[]⟩) (.int .i64 0) (.int .i64 0)
        have c0 := RF.c 0 _ rfl; have c1 := RF.c 1 _ rfl; have c2 := RF.c 2 _ rfl; have c3 := RF.c 3 _ rfl; have c4 := RF.c 4 _ rfl
        clear RF
        rw [HE.out]
        refine bodyPost_ret (v := .tuple #[vv ⟨0, p + z, [], 0, 0⟩, .int .i64 0]) (by simp [results, Try.results65, go_sem, c0, c1, c2, c3, c4]; try rfl) rfl ⟨rfl, ?_, ?_⟩
        · exact One.tur HT3.out (tur_all5 _ _ _ _ _ _ _) hne.symm
        · exact KB3.out.new5 (Nat.le_refl _) _ _ _ _ _
    · have g0 : ((k : Int) != 0) = true := by rw [bne_iff_ne]; omega
      have HE : Hid (rnum l = (vz, k, t)) := by
        show _ = _
        unfold rnum; rw [e, if_neg (fun h => h rfl)]; dsimp only
        rw [e2, if_pos (by show k ≠ 0; omega)]
      have HQ := Lib.hid e; have HQ2 := Lib.hid e2
      clear e e2
      go_enter Try.func65, Try.ntmps65
      go_wp2_with (fail)
      have KB0 := Lib.hid (Below.tur (b := b) (box1 w (.cells #[.int .i64 0, .int .i64 0, .string ⟨#[]⟩, .int .i64 0, .int .i64 0] 42)))
      have HT0 : Hid (IsT (w.alloc (.cells #[.int .i64 0, .int .i64 0, .string ⟨#[]⟩, .int .i64 0, .int .i64 0] 42)) b l) := One.old HT.out (box1 w (.cells #[.int .i64 0, .int .i64 0, .string ⟨#[]⟩, .int .i64 0, .int .i64 0] 42))
      have R := Blk.made w 42 (vcs 0 0 ⟨#[]⟩ 0 0) rfl
      change Blk (w.alloc (.cells #[.int .i64 0, .int .i64 0, .string ⟨#[]⟩, .int .i64 0, .int .i64 0] 42)) w.heap.size _ at R
      have R0 := Lib.hid R; clear R
      have hne : w.heap.size ≠ b := Nat.ne_of_gt (One.lt HT.out)
      clear HT
      generalize w.alloc (.cells #[.int .i64 0, .int .i64 0, .string ⟨#[]⟩, .int .i64 0, .int .i64 0] 42) = w0 at *
      refine (whole_ok b l _ HT0.out hl HQ.out).mono ?_
      rintro e w1 ⟨rfl, ht, hu⟩
      have HT1 := Lib.hid ht
      have KB1 := Lib.hid (KB0.out.trans hu)
      have R1 := Lib.hid (R0.out.tur hu hne)
      clear ht hu HT0 KB0 R0
      go_wp2_with (fail)
      refine (num_no b t _ HT1.out ht HQ2.out hk).mono ?_
      rintro e w2 ⟨rfl, ht, hu⟩
      have HT2 := Lib.hid ht
      have KB2 := Lib.hid (KB1.out.trans hu)
      have R2 := Lib.hid (R1.out.tur hu hne)
      clear ht hu HT1 KB1 R1
      have r0 := R2.out.v0; have r1 := R2.out.v1; have r2 := R2.out.v2; have r3 := R2.out.v3; have r4 := R2.out.v4
      have f0 := R2.out.g0; have f1 := R2.out.g1; have f2 := R2.out.g2; have f3 := R2.out.g3; have f4 := R2.out.g4
      go_wp2_with (fail)
      have RF := R2.out.all5 (.int .i64 0) (.int .i64 0) (.string ⟨#[]⟩) (.int .i64 0) (.int .i64 0)
      have c0 := RF.c 0 _ rfl; have c1 := RF.c 1 _ rfl; have c2 := RF.c 2 _ rfl; have c3 := RF.c 3 _ rfl; have c4 := RF.c 4 _ rfl
      clear RF
      rw [HE.out]
      refine bodyPost_ret (v := .tuple #[vv vz, .int .i64 (k : Int)]) (by simp [results, Try.results65, go_sem, c0, c1, c2, c3, c4]; try rfl) rfl ⟨rfl, ?_, ?_⟩
      · exact One.tur HT2.out (tur_all5 _ _ _ _ _ _ _) hne.symm
      · exact KB2.out.new5 (Nat.le_refl _) _ _ _ _ _
  · have g0 : ((k : Int) != 0) = true := by rw [bne_iff_ne]; omega
    have HE : Hid (rnum l = (vz, k, l)) := by
      show _ = _
      unfold rnum; rw [e, if_pos (by show k ≠ 0; omega)]
    have HQ := Lib.hid e
    clear e
    go_enter Try.func65, Try.ntmps65
    go_wp2_with (fail)
    have KB0 := Lib.hid (Below.tur (b := b) (box1 w (.cells #[.int .i64 0, .int .i64 0, .string ⟨#[]⟩, .int .i64 0, .int .i64 0] 42)))
    have HT0 : Hid (IsT (w.alloc (.cells #[.int .i64 0, .int .i64 0, .string ⟨#[]⟩, .int .i64 0, .int .i64 0] 42)) b l) := One.old HT.out (box1 w (.cells #[.int .i64 0, .int .i64 0, .string ⟨#[]⟩, .int .i64 0, .int .i64 0] 42))
    have R := Blk.made w 42 (vcs 0 0 ⟨#[]⟩ 0 0) rfl
    change Blk (w.alloc (.cells #[.int .i64 0, .int .i64 0, .string ⟨#[]⟩, .int .i64 0, .int .i64 0] 42)) w.heap.size _ at R
    have R0 := Lib.hid R; clear R
    have hne : w.heap.size ≠ b := Nat.ne_of_gt (One.lt HT.out)
    clear HT
    generalize w.alloc (.cells #[.int .i64 0, .int .i64 0, .string ⟨#[]⟩, .int .i64 0, .int .i64 0] 42) = w0 at *
    refine (whole_no b l _ HT0.out hl HQ.out hk).mono ?_
    rintro e w1 ⟨rfl, ht, hu⟩
    have HT1 := Lib.hid ht
    have KB1 := Lib.hid (KB0.out.trans hu)
    have R1 := Lib.hid (R0.out.tur hu hne)
    clear ht hu HT0 KB0 R0
    have r0 := R1.out.v0; have r1 := R1.out.v1; have r2 := R1.out.v2; have r3 := R1.out.v3; have r4 := R1.out.v4
    have f0 := R1.out.g0; have f1 := R1.out.g1; have f2 := R1.out.g2; have f3 := R1.out.g3; have f4 := R1.out.g4
    go_wp2_with (fail)
    have RF := R1.out.all5 (.int .i64 0) (.int .i64 0) (.string ⟨#[]⟩) (.int .i64 0) (.int .i64 0)
    have c0 := RF.c 0 _ rfl; have c1 := RF.c 1 _ rfl; have c2 := RF.c 2 _ rfl; have c3 := RF.c 3 _ rfl; have c4 := RF.c 4 _ rfl
    clear RF
    rw [HE.out]
    refine bodyPost_ret (v := .tuple #[vv vz, .int .i64 (k : Int)]) (by simp [results, Try.results65, go_sem, c0, c1, c2, c3, c4]; try rfl) rfl ⟨rfl, ?_, ?_⟩
    · exact One.tur HT1.out (tur_all5 _ _ _ _ _ _ _) hne.symm
    · exact KB1.out.new5 (Nat.le_refl _) _ _ _ _ _
set_option maxRecDepth 100000 in
set_option maxHeartbeats 2000000 in
theorem readPoint_any (b : Nat) (l : List UInt8) (w : World) (h : IsT w b l) (hl : l.length ≤ 281474976710656) :
    Calls Try.prog 66 #[.pointer (some ⟨b, 0, none⟩)] w (LeftT b (.tuple #[vv (rpt l).1, .int .i64 ((rpt l).2.1 : Int)]) (rpt l).2.2 w) := by
  have HT := Lib.hid h; clear h
  rcases cn_cases l with ⟨m, t, e, htl, hm⟩ | ⟨k, e, hk, _⟩
  · have ht := cn_len e hl
    clear htl
    rcases cn_cases t with ⟨r, u, e2, hul, hr⟩ | ⟨k, e2, hk, _⟩
    · have HE : Hid (rpt l = (⟨2, 0, [], sg m, sg r⟩, 0, u)) := by
        show _ = _
        unfold rpt; rw [e, if_neg (fun h => h rfl)]; dsimp only
        rw [e2, if_neg (fun h => h rfl)]
      have HQ := Lib.hid e; have HQ2 := Lib.hid e2
      clear e e2 hul
      go_enter Try.func66, Try.ntmps66
      go_wp2_with (fail)
      have KB0 := Lib.hid (Below.tur (b := b) (box1 w (.cells #[.int .i64 0, .int .i64 0, .string ⟨#[]⟩, .int .i64 0, .int .i64 0] 42)))
      have HT0 : Hid (IsT (w.alloc (.cells #[.int .i64 0, .int .i64 0, .string ⟨#[]⟩, .int .i64 0, .int .i64 0] 42)) b l) := One.old HT.out (box1 w (.cells #[.int .i64 0, .int .i64 0, .string ⟨#[]⟩, .int .i64 0, .int .i64 0] 42))
      have R := Blk.made w 42 (vcs 0 0 ⟨#[]⟩ 0 0) rfl
      change Blk (w.alloc (.cells #[.int .i64 0, .int .i64 0, .string ⟨#[]⟩, .int .i64 0, .int .i64 0] 42)) w.heap.size _ at R
      have R0 := Lib.hid R; clear R
      have hne : w.heap.size ≠ b := Nat.ne_of_gt (One.lt HT.out)
      clear HT
      generalize w.alloc (.cells #[.int .i64 0, .int .i64 0, .string ⟨#[]⟩, .int .i64 0, .int .i64 0] 42) = w0 at *
      refine (whole_ok b l _ HT0.out hl HQ.out).mono ?_
      rintro e w1 ⟨rfl, ht, hu⟩
      have HT1 := Lib.hid ht
      have KB1 := Lib.hid (KB0.out.trans hu)
      have R1 := Lib.hid (R0.out.tur hu hne)
      clear ht hu HT0 KB0 R0
      go_wp2_with (fail)
      refine (whole_ok b t _ HT1.out ht HQ2.out).mono ?_
      rintro e w2 ⟨rfl, ht, hu⟩
      have HT2 := Lib.hid ht
      have KB2 := Lib.hid (KB1.out.trans hu)
      have R2 := Lib.hid (R1.out.tur hu hne)
      clear ht hu HT1 KB1 R1
      go_wp2_with (fail)
      refine (point_any _ _ _).mono ?_
      rintro e w3 ⟨rfl, hb⟩
      have HT3 : Hid (IsT w3 b u) := One.old HT2.out hb
      have KB3 := Lib.hid (KB2.out.trans (Below.tur hb))
      have R3 := Lib.hid (R2.out.next hb)
      clear hb HT2 KB2 R2
      have r0 := R3.out.v0; have r1 := R3.out.v1; have r2 := R3.out.v2; have r3 := R3.out.v3; have r4 := R3.out.v4
      have f0 := R3.out.g0; have f1 := R3.out.g1; have f2 := R3.out.g2; have f3 := R3.out.g3; have f4 := R3.out.g4
      go_wp2_with (fail)
      have RF := R3.out.all5 (.int .i64 2) (.int .i64 0) (.string ⟨#[]⟩) (.int .i64 (sg m)) (.int .i64 (sg r))
      have c0 := RF.c 0 _ rfl; have c1 := RF.c 1 _ rfl; have c2 := RF.c 2 _ rfl; have c3 := RF.c 3 _ rfl; have c4 := RF.c 4 _ rfl
      clear RF
      rw [HE.out]
      refine bodyPost_ret (v := .tuple #[vv ⟨2, 0, [], sg m, sg r⟩, .int .i64 0]) (by simp [results, Try.results66, go_sem, c0, c1, c2, c3, c4]; try rfl) rfl ⟨rfl, ?_, ?_⟩
      · exact One.tur HT3.out (tur_all5 _ _ _ _ _ _ _) hne.symm
      · exact KB3.out.new5 (Nat.le_refl _) _ _ _ _ _
    · have HE : Hid (rpt l = (⟨2, 0, [], sg m, 0⟩, k, t)) := by
        show _ = _
        unfold rpt; rw [e, if_neg (fun h => h rfl)]; dsimp only
        rw [e2, if_pos (by show k ≠ 0; omega)]
      have HQ := Lib.hid e; have HQ2 := Lib.hid e2
      clear e e2
      go_enter Try.func66, Try.ntmps66
      go_wp2_with (fail)
      have KB0 := Lib.hid (Below.tur (b := b) (box1 w (.cells #[.int .i64 0, .int .i64 0, .string ⟨#[]⟩, .int .i64 0, .int .i64 0] 42)))
      have HT0 : Hid (IsT (w.alloc (.cells #[.int .i64 0, .int .i64 0, .string ⟨#[]⟩, .int .i64 0, .int .i64 0] 42)) b l) := One.old HT.out (box1 w (.cells #[.int .i64 0, .int .i64 0, .string ⟨#[]⟩, .int .i64 0, .int .i64 0] 42))
      have R := Blk.made w 42 (vcs 0 0 ⟨#[]⟩ 0 0) rfl
      change Blk (w.alloc (.cells #[.int .i64 0, .int .i64 0, .string ⟨#[]⟩, .int .i64 0, .int .i64 0] 42)) w.heap.size _ at R
      have R0 := Lib.hid R; clear R
      have hne : w.heap.size ≠ b := Nat.ne_of_gt (One.lt HT.out)
      clear HT
      generalize w.alloc (.cells #[.int .i64 0, .int .i64 0, .string ⟨#[]⟩, .int .i64 0, .int .i64 0] 42) = w0 at *
      refine (whole_ok b l _ HT0.out hl HQ.out).mono ?_
      rintro e w1 ⟨rfl, ht, hu⟩
      have HT1 := Lib.hid ht
      have KB1 := Lib.hid (KB0.out.trans hu)
      have R1 := Lib.hid (R0.out.tur hu hne)
      clear ht hu HT0 KB0 R0
      go_wp2_with (fail)
      refine (whole_no b t _ HT1.out ht HQ2.out hk).mono ?_
      rintro e w2 ⟨rfl, ht, hu⟩
      have HT2 := Lib.hid ht
      have KB2 := Lib.hid (KB1.out.trans hu)
      have R2 := Lib.hid (R1.out.tur hu hne)
      clear ht hu HT1 KB1 R1
      go_wp2_with (fail)
      refine (point_any _ _ _).mono ?_
      rintro e w3 ⟨rfl, hb⟩
      have HT3 : Hid (IsT w3 b t) := One.old HT2.out hb
      have KB3 := Lib.hid (KB2.out.trans (Below.tur hb))
      have R3 := Lib.hid (R2.out.next hb)
      clear hb HT2 KB2 R2
      have r0 := R3.out.v0; have r1 := R3.out.v1; have r2 := R3.out.v2; have r3 := R3.out.v3; have r4 := R3.out.v4
      have f0 := R3.out.g0; have f1 := R3.out.g1; have f2 := R3.out.g2; have f3 := R3.out.g3; have f4 := R3.out.g4
      go_wp2_with (fail)
      have RF := R3.out.all5 (.int .i64 2) (.int .i64 0) (.string ⟨#[]⟩) (.int .i64 (sg m)) (.int .i64 0)
      have c0 := RF.c 0 _ rfl; have c1 := RF.c 1 _ rfl; have c2 := RF.c 2 _ rfl; have c3 := RF.c 3 _ rfl; have c4 := RF.c 4 _ rfl
      clear RF
      rw [HE.out]
      refine bodyPost_ret (v := .tuple #[vv ⟨2, 0, [], sg m, 0⟩, .int .i64 (k : Int)]) (by simp [results, Try.results66, go_sem, c0, c1, c2, c3, c4]; try rfl) rfl ⟨rfl, ?_, ?_⟩
      · exact One.tur HT3.out (tur_all5 _ _ _ _ _ _ _) hne.symm
      · exact KB3.out.new5 (Nat.le_refl _) _ _ _ _ _
  · have g0 : ((k : Int) != 0) = true := by rw [bne_iff_ne]; omega
    have HE : Hid (rpt l = (vz, k, l)) := by
      show _ = _
      unfold rpt; rw [e, if_pos (by show k ≠ 0; omega)]
    have HQ := Lib.hid e
    clear e
    go_enter Try.func66, Try.ntmps66
    go_wp2_with (fail)
    have KB0 := Lib.hid (Below.tur (b := b) (box1 w (.cells #[.int .i64 0, .int .i64 0, .string ⟨#[]⟩, .int .i64 0, .int .i64 0] 42)))
    have HT0 : Hid (IsT (w.alloc (.cells #[.int .i64 0, .int .i64 0, .string ⟨#[]⟩, .int .i64 0, .int .i64 0] 42)) b l) := One.old HT.out (box1 w (.cells #[.int .i64 0, .int .i64 0, .string ⟨#[]⟩, .int .i64 0, .int .i64 0] 42))
    have R := Blk.made w 42 (vcs 0 0 ⟨#[]⟩ 0 0) rfl
    change Blk (w.alloc (.cells #[.int .i64 0, .int .i64 0, .string ⟨#[]⟩, .int .i64 0, .int .i64 0] 42)) w.heap.size _ at R
    have R0 := Lib.hid R; clear R
    have hne : w.heap.size ≠ b := Nat.ne_of_gt (One.lt HT.out)
    clear HT
    generalize w.alloc (.cells #[.int .i64 0, .int .i64 0, .string ⟨#[]⟩, .int .i64 0, .int .i64 0] 42) = w0 at *
    refine (whole_no b l _ HT0.out hl HQ.out hk).mono ?_
    rintro e w1 ⟨rfl, ht, hu⟩
    have HT1 := Lib.hid ht
    have KB1 := Lib.hid (KB0.out.trans hu)
    have R1 := Lib.hid (R0.out.tur hu hne)
    clear ht hu HT0 KB0 R0
    have r0 := R1.out.v0; have r1 := R1.out.v1; have r2 := R1.out.v2; have r3 := R1.out.v3; have r4 := R1.out.v4
    have f0 := R1.out.g0; have f1 := R1.out.g1; have f2 := R1.out.g2; have f3 := R1.out.g3; have f4 := R1.out.g4
    go_wp2_with (fail)
    have RF := R1.out.all5 (.int .i64 0) (.int .i64 0) (.string ⟨#[]⟩) (.int .i64 0) (.int .i64 0)
    have c0 := RF.c 0 _ rfl; have c1 := RF.c 1 _ rfl; have c2 := RF.c 2 _ rfl; have c3 := RF.c 3 _ rfl; have c4 := RF.c 4 _ rfl
    clear RF
    rw [HE.out]
    refine bodyPost_ret (v := .tuple #[vv vz, .int .i64 (k : Int)]) (by simp [results, Try.results66, go_sem, c0, c1, c2, c3, c4]; try rfl) rfl ⟨rfl, ?_, ?_⟩
    · exact One.tur HT1.out (tur_all5 _ _ _ _ _ _ _) hne.symm
    · exact KB1.out.new5 (Nat.le_refl _) _ _ _ _ _
end Go.Proofs.Ytgakcpcpfkoaiaa.Va

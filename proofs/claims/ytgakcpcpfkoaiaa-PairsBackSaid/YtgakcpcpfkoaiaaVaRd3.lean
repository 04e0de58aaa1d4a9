/-
  What readValue and Read answer (written by gen_vard.py).
-/
import Derived.Test.YtgakcpcpfkoaiaaVaRd2
namespace Go.Proofs.Ytgakcpcpfkoaiaa.Va
open Go.ChangeShapes Go.WideShapes Go.ChangeAt Go.RowKit Go.Proofs.Ytgakcpcpfkoaiaa.Ov Go.Proofs.Ytgakcpcpfkoaiaa.Tp

set_option maxRecDepth 100000 in
set_option maxHeartbeats 4000000 in
theorem readValue_any (b : Nat) (l : List UInt8) (w : World) (h : IsT w b l) (hl : l.length ≤ 281474976710656) :
    Calls Try.prog 59 #[.pointer (some ⟨b, 0, none⟩)] w (LeftT b (.tuple #[vv (rval l).1, .int .i64 ((rval l).2.1 : Int)]) (rval l).2.2 w) := by
  have HT := Lib.hid h; clear h
  rcases cn_cases l with ⟨n, t, e, htl, hm⟩ | ⟨k, e, hk, _⟩
  · have ht := cn_len e hl
    clear htl
    by_cases n0 : n = 0
    · subst n0
      have HE1 : Hid (rval l = rnum t) := by
        show _ = _
        unfold rval; rw [e, if_neg (fun h => h rfl)]
        exact if_pos rfl
      have HV := Lib.hid (fun w h => readNumber_any b t w h ht)
      generalize rnum t = r at *
      obtain ⟨v, k, u⟩ := r
      have HE := HE1
      have HQ3 := Lib.hid (fun w h => num_ok b l w h hl e)
      clear e HE1
      go_enter Try.func59, Try.ntmps59
      go_wp2_with (fail)
      have KB0 := Lib.hid (Below.tur (b := b) (box1 w (.cells #[.int .i64 0, .int .i64 0, .string ⟨#[]⟩, .int .i64 0, .int .i64 0] 42)))
      have HT0 : Hid (IsT (w.alloc (.cells #[.int .i64 0, .int .i64 0, .string ⟨#[]⟩, .int .i64 0, .int .i64 0] 42)) b l) := One.old HT.out (box1 w (.cells #[.int .i64 0, .int .i64 0, .string ⟨#[]⟩, .int .i64 0, .int .i64 0] 42))
      have R := Blk.made w 42 (vcs 0 0 ⟨#[]⟩ 0 0) rfl
      change Blk (w.alloc (.cells #[.int .i64 0, .int .i64 0, .string ⟨#[]⟩, .int .i64 0, .int .i64 0] 42)) w.heap.size _ at R
      have R0 := Lib.hid R; clear R
      have hne : w.heap.size ≠ b := Nat.ne_of_gt (One.lt HT.out)
      clear HT
      generalize w.alloc (.cells #[.int .i64 0, .int .i64 0, .string ⟨#[]⟩, .int .i64 0, .int .i64 0] 42) = w0 at *
      refine (HQ3.out _ HT0.out).mono ?_
      rintro e w1 ⟨rfl, ht, hu⟩
      have HT1 := Lib.hid ht
      have KB1 := Lib.hid (KB0.out.trans hu)
      have R1 := Lib.hid (R0.out.tur hu hne)
      clear ht hu HT0 KB0 R0
      go_wp2_with (fail)
      refine (HV.out _ HT1.out).mono ?_
      rintro e w2 ⟨rfl, ht, hu⟩
      have HT2 := Lib.hid ht
      have KB2 := Lib.hid (KB1.out.trans hu)
      have R2 := Lib.hid (R1.out.tur hu hne)
      clear ht hu HT1 KB1 R1
      unfold vv
      have r0 := R2.out.v0; have r1 := R2.out.v1; have r2 := R2.out.v2; have r3 := R2.out.v3; have r4 := R2.out.v4
      have f0 := R2.out.g0; have f1 := R2.out.g1; have f2 := R2.out.g2; have f3 := R2.out.g3; have f4 := R2.out.g4
      go_wp2_with (fail)
      have RF := R2.out.all5 (.int .i64 v.k) (.int .i64 v.n) (.string (tx v.s)) (.int .i64 v.x) (.int .i64 v.y)
      have c0 := RF.c 0 _ rfl; have c1 := RF.c 1 _ rfl; have c2 := RF.c 2 _ rfl; have c3 := RF.c 3 _ rfl; have c4 := RF.c 4 _ rfl
      clear RF
      rw [HE.out]
      refine bodyPost_ret (v := .tuple #[.agg #[.int .i64 v.k, .int .i64 v.n, .string (tx v.s), .int .i64 v.x, .int .i64 v.y], .int .i64 (k : Int)]) (by simp [results, Try.results59, go_sem, c0, c1, c2, c3, c4]; try rfl) rfl ⟨rfl, ?_, ?_⟩
      · exact One.tur HT2.out (tur_all5 _ _ _ _ _ _ _) hne.symm
      · exact KB2.out.new5 (Nat.le_refl _) _ _ _ _ _
    by_cases n1 : n = 1
    · subst n1
      rcases cc_cases 4096 t with ⟨m, u, ec, hul, hmm⟩ | ⟨k, ec, hk, _⟩
      · by_cases hlt : u.length < m
        · have hsh := hlt
          have HE : Hid (rval l = (⟨1, 0, [], 0, 0⟩, 2, t)) := by
            show _ = _
            unfold rval; rw [e, if_neg (fun h => h rfl)]
            refine (if_neg (show ¬ (1 : Nat) = 0 by decide)).trans ((if_pos rfl).trans ?_)
            dsimp only
            unfold rtx
            rw [ec, if_neg (fun h => h rfl), if_pos hlt]
          have HQ3 := Lib.hid (fun w h => num_ok b l w h hl e)
          have HX := Lib.hid (fun w h => text_short b t 4096 w h ht ec hsh)
          clear e
          go_enter Try.func59, Try.ntmps59
          go_wp2_with (fail)
          have KB0 := Lib.hid (Below.tur (b := b) (box1 w (.cells #[.int .i64 0, .int .i64 0, .string ⟨#[]⟩, .int .i64 0, .int .i64 0] 42)))
          have HT0 : Hid (IsT (w.alloc (.cells #[.int .i64 0, .int .i64 0, .string ⟨#[]⟩, .int .i64 0, .int .i64 0] 42)) b l) := One.old HT.out (box1 w (.cells #[.int .i64 0, .int .i64 0, .string ⟨#[]⟩, .int .i64 0, .int .i64 0] 42))
          have R := Blk.made w 42 (vcs 0 0 ⟨#[]⟩ 0 0) rfl
          change Blk (w.alloc (.cells #[.int .i64 0, .int .i64 0, .string ⟨#[]⟩, .int .i64 0, .int .i64 0] 42)) w.heap.size _ at R
          have R0 := Lib.hid R; clear R
          have hne : w.heap.size ≠ b := Nat.ne_of_gt (One.lt HT.out)
          clear HT
          generalize w.alloc (.cells #[.int .i64 0, .int .i64 0, .string ⟨#[]⟩, .int .i64 0, .int .i64 0] 42) = w0 at *
          refine (HQ3.out _ HT0.out).mono ?_
          rintro e w1 ⟨rfl, ht, hu⟩
          have HT1 := Lib.hid ht
          have KB1 := Lib.hid (KB0.out.trans hu)
          have R1 := Lib.hid (R0.out.tur hu hne)
          clear ht hu HT0 KB0 R0
          go_wp2_with (fail)
          refine (HX.out _ HT1.out).mono ?_
          rintro e w2 ⟨rfl, ht, hu⟩
          have HT2 := Lib.hid ht
          have KB2 := Lib.hid (KB1.out.trans hu)
          have R2 := Lib.hid (R1.out.tur hu hne)
          clear ht hu HT1 KB1 R1
          go_wp2_with (fail)
          refine (text_any _ _).mono ?_
          rintro e w3 ⟨rfl, hb⟩
          have HT3 : Hid (IsT w3 b t) := One.old HT2.out hb
          have KB3 := Lib.hid (KB2.out.trans (Below.tur hb))
          have R3 := Lib.hid (R2.out.next hb)
          clear hb HT2 KB2 R2
          have r0 := R3.out.v0; have r1 := R3.out.v1; have r2 := R3.out.v2; have r3 := R3.out.v3; have r4 := R3.out.v4
          have f0 := R3.out.g0; have f1 := R3.out.g1; have f2 := R3.out.g2; have f3 := R3.out.g3; have f4 := R3.out.g4
          go_wp2_with (fail)
          have RF := R3.out.all5 (.int .i64 1) (.int .i64 0) (.string ⟨#[]⟩) (.int .i64 0) (.int .i64 0)
          have c0 := RF.c 0 _ rfl; have c1 := RF.c 1 _ rfl; have c2 := RF.c 2 _ rfl; have c3 := RF.c 3 _ rfl; have c4 := RF.c 4 _ rfl
          clear RF
          rw [HE.out]
          refine bodyPost_ret (v := .tuple #[.agg #[.int .i64 1, .int .i64 0, .string ⟨#[]⟩, .int .i64 0, .int .i64 0], .int .i64 2]) (by simp [results, Try.results59, go_sem, c0, c1, c2, c3, c4]; try rfl) rfl ⟨rfl, ?_, ?_⟩
          · exact One.tur HT3.out (tur_all5 _ _ _ _ _ _ _) hne.symm
          · exact KB3.out.new5 (Nat.le_refl _) _ _ _ _ _
        · have hge : m ≤ u.length := by omega
          have HE : Hid (rval l = (⟨1, 0, u.take m, 0, 0⟩, 0, u.drop m)) := by
            show _ = _
            unfold rval; rw [e, if_neg (fun h => h rfl)]
            refine (if_neg (show ¬ (1 : Nat) = 0 by decide)).trans ((if_pos rfl).trans ?_)
            dsimp only
            unfold rtx
            rw [ec, if_neg (fun h => h rfl), if_neg hlt]
          have HQ3 := Lib.hid (fun w h => num_ok b l w h hl e)
          have HX := Lib.hid (fun w h => text_ok b t 4096 w h ht ec hge)
          clear e
          go_enter Try.func59, Try.ntmps59
          go_wp2_with (fail)
          have KB0 := Lib.hid (Below.tur (b := b) (box1 w (.cells #[.int .i64 0, .int .i64 0, .string ⟨#[]⟩, .int .i64 0, .int .i64 0] 42)))
          have HT0 : Hid (IsT (w.alloc (.cells #[.int .i64 0, .int .i64 0, .string ⟨#[]⟩, .int .i64 0, .int .i64 0] 42)) b l) := One.old HT.out (box1 w (.cells #[.int .i64 0, .int .i64 0, .string ⟨#[]⟩, .int .i64 0, .int .i64 0] 42))
          have R := Blk.made w 42 (vcs 0 0 ⟨#[]⟩ 0 0) rfl
          change Blk (w.alloc (.cells #[.int .i64 0, .int .i64 0, .string ⟨#[]⟩, .int .i64 0, .int .i64 0] 42)) w.heap.size _ at R
          have R0 := Lib.hid R; clear R
          have hne : w.heap.size ≠ b := Nat.ne_of_gt (One.lt HT.out)
          clear HT
          generalize w.alloc (.cells #[.int .i64 0, .int .i64 0, .string ⟨#[]⟩, .int .i64 0, .int .i64 0] 42) = w0 at *
          refine (HQ3.out _ HT0.out).mono ?_
          rintro e w1 ⟨rfl, ht, hu⟩
          have HT1 := Lib.hid ht
          have KB1 := Lib.hid (KB0.out.trans hu)
          have R1 := Lib.hid (R0.out.tur hu hne)
          clear ht hu HT0 KB0 R0
          go_wp2_with (fail)
          refine (HX.out _ HT1.out).mono ?_
          rintro e w2 ⟨rfl, ht, hu⟩
          have HT2 := Lib.hid ht
          have KB2 := Lib.hid (KB1.out.trans hu)
          have R2 := Lib.hid (R1.out.tur hu hne)
          clear ht hu HT1 KB1 R1
          go_wp2_with (fail)
          refine (text_any _ _).mono ?_
          rintro e w3 ⟨rfl, hb⟩
          have HT3 : Hid (IsT w3 b (u.drop m)) := One.old HT2.out hb
          have KB3 := Lib.hid (KB2.out.trans (Below.tur hb))
          have R3 := Lib.hid (R2.out.next hb)
          clear hb HT2 KB2 R2
          have r0 := R3.out.v0; have r1 := R3.out.v1; have r2 := R3.out.v2; have r3 := R3.out.v3; have r4 := R3.out.v4
          have f0 := R3.out.g0; have f1 := R3.out.g1; have f2 := R3.out.g2; have f3 := R3.out.g3; have f4 := R3.out.g4
          go_wp2_with (fail)
          have RF := R3.out.all5 (.int .i64 1) (.int .i64 0) (.string (tx (u.take m))) (.int .i64 0) (.int .i64 0)
          have c0 := RF.c 0 _ rfl; have c1 := RF.c 1 _ rfl; have c2 := RF.c 2 _ rfl; have c3 := RF.c 3 _ rfl; have c4 := RF.c 4 _ rfl
          clear RF
          rw [HE.out]
          refine bodyPost_ret (v := .tuple #[.agg #[.int .i64 1, .int .i64 0, .string (tx (u.take m)), .int .i64 0, .int .i64 0], .int .i64 0]) (by simp [results, Try.results59, go_sem, c0, c1, c2, c3, c4]; try rfl) rfl ⟨rfl, ?_, ?_⟩
          · exact One.tur HT3.out (tur_all5 _ _ _ _ _ _ _) hne.symm
          · exact KB3.out.new5 (Nat.le_refl _) _ _ _ _ _
      · have hkk := hk
        have HE : Hid (rval l = (⟨1, 0, [], 0, 0⟩, k, t)) := by
          show _ = _
          unfold rval; rw [e, if_neg (fun h => h rfl)]
          refine (if_neg (show ¬ (1 : Nat) = 0 by decide)).trans ((if_pos rfl).trans ?_)
          dsimp only
          unfold rtx
          rw [ec, if_pos (by show k ≠ 0; omega)]
        have HQ3 := Lib.hid (fun w h => num_ok b l w h hl e)
        have HX := Lib.hid (fun w h => text_no b t 4096 w h ht ec hkk)
        clear e
        go_enter Try.func59, Try.ntmps59
        go_wp2_with (fail)
        have KB0 := Lib.hid (Below.tur (b := b) (box1 w (.cells #[.int .i64 0, .int .i64 0, .string ⟨#[]⟩, .int .i64 0, .int .i64 0] 42)))
        have HT0 : Hid (IsT (w.alloc (.cells #[.int .i64 0, .int .i64 0, .string ⟨#[]⟩, .int .i64 0, .int .i64 0] 42)) b l) := One.old HT.out (box1 w (.cells #[.int .i64 0, .int .i64 0, .string ⟨#[]⟩, .int .i64 0, .int .i64 0] 42))
        have R := Blk.made w 42 (vcs 0 0 ⟨#[]⟩ 0 0) rfl
        change Blk (w.alloc (.cells #[.int .i64 0, .int .i64 0, .string ⟨#[]⟩, .int .i64 0, .int .i64 0] 42)) w.heap.size _ at R
        have R0 := Lib.hid R; clear R
        have hne : w.heap.size ≠ b := Nat.ne_of_gt (One.lt HT.out)
        clear HT
        generalize w.alloc (.cells #[.int .i64 0, .int .i64 0, .string ⟨#[]⟩, .int .i64 0, .int .i64 0] 42) = w0 at *
        refine (HQ3.out _ HT0.out).mono ?_
        rintro e w1 ⟨rfl, ht, hu⟩
        have HT1 := Lib.hid ht
        have KB1 := Lib.hid (KB0.out.trans hu)
        have R1 := Lib.hid (R0.out.tur hu hne)
        clear ht hu HT0 KB0 R0
        go_wp2_with (fail)
        refine (HX.out _ HT1.out).mono ?_
        rintro e w2 ⟨rfl, ht, hu⟩
        have HT2 := Lib.hid ht
        have KB2 := Lib.hid (KB1.out.trans hu)
        have R2 := Lib.hid (R1.out.tur hu hne)
        clear ht hu HT1 KB1 R1
        go_wp2_with (fail)
        refine (text_any _ _).mono ?_
        rintro e w3 ⟨rfl, hb⟩
        have HT3 : Hid (IsT w3 b t) := One.old HT2.out hb
        have KB3 := Lib.hid (KB2.out.trans (Below.tur hb))
        have R3 := Lib.hid (R2.out.next hb)
        clear hb HT2 KB2 R2
        have r0 := R3.out.v0; have r1 := R3.out.v1; have r2 := R3.out.v2; have r3 := R3.out.v3; have r4 := R3.out.v4
        have f0 := R3.out.g0; have f1 := R3.out.g1; have f2 := R3.out.g2; have f3 := R3.out.g3; have f4 := R3.out.g4
        go_wp2_with (fail)
        have RF := R3.out.all5 (.int .i64 1) (.int .i64 0) (.string ⟨#[]⟩) (.int .i64 0) (.int .i64 0)
        have c0 := RF.c 0 _ rfl; have c1 := RF.c 1 _ rfl; have c2 := RF.c 2 _ rfl; have c3 := RF.c 3 _ rfl; have c4 := RF.c 4 _ rfl
        clear RF
        rw [HE.out]
        refine bodyPost_ret (v := .tuple #[.agg #[.int .i64 1, .int .i64 0, .string ⟨#[]⟩, .int .i64 0, .int .i64 0], .int .i64 (k : Int)]) (by simp [results, Try.results59, go_sem, c0, c1, c2, c3, c4]; try rfl) rfl ⟨rfl, ?_, ?_⟩
        · exact One.tur HT3.out (tur_all5 _ _ _ _ _ _ _) hne.symm
        · exact KB3.out.new5 (Nat.le_refl _) _ _ _ _ _
    by_cases n2 : n = 2
    · subst n2
      have HE1 : Hid (rval l = rpt t) := by
        show _ = _
        unfold rval; rw [e, if_neg (fun h => h rfl)]
        exact (if_neg (show ¬ (2 : Nat) = 0 by decide)).trans ((if_neg (show ¬ (2 : Nat) = 1 by decide)).trans (if_pos rfl))
      have HV := Lib.hid (fun w h => readPoint_any b t w h ht)
      generalize rpt t = r at *
      obtain ⟨v, k, u⟩ := r
      have HE := HE1
      have HQ3 := Lib.hid (fun w h => num_ok b l w h hl e)
      clear e HE1
      go_enter Try.func59, Try.ntmps59
      go_wp2_with (fail)
      have KB0 := Lib.hid (Below.tur (b := b) (box1 w (.cells #[.int .i64 0, .int .i64 0, .string ⟨#[]⟩, .int .i64 0, .int .i64 0] 42)))
      have HT0 : Hid (IsT (w.alloc (.cells #[.int .i64 0, .int .i64 0, .string ⟨#[]⟩, .int .i64 0, .int .i64 0] 42)) b l) := One.old HT.out (box1 w (.cells #[.int .i64 0, .int .i64 0, .string ⟨#[]⟩, .int .i64 0, .int .i64 0] 42))
      have R := Blk.made w 42 (vcs 0 0 ⟨#[]⟩ 0 0) rfl
      change Blk (w.alloc (.cells #[.int .i64 0, .int .i64 0, .string ⟨#[]⟩, .int .i64 0, .int .i64 0] 42)) w.heap.size _ at R
      have R0 := Lib.hid R; clear R
      have hne : w.heap.size ≠ b := Nat.ne_of_gt (One.lt HT.out)
      clear HT
      generalize w.alloc (.cells #[.int .i64 0, .int .i64 0, .string ⟨#[]⟩, .int .i64 0, .int .i64 0] 42) = w0 at *
      refine (HQ3.out _ HT0.out).mono ?_
      rintro e w1 ⟨rfl, ht, hu⟩
      have HT1 := Lib.hid ht
      have KB1 := Lib.hid (KB0.out.trans hu)
      have R1 := Lib.hid (R0.out.tur hu hne)
      clear ht hu HT0 KB0 R0
      go_wp2_with (fail)
      refine (HV.out _ HT1.out).mono ?_
      rintro e w2 ⟨rfl, ht, hu⟩
      have HT2 := Lib.hid ht
      have KB2 := Lib.hid (KB1.out.trans hu)
      have R2 := Lib.hid (R1.out.tur hu hne)
      clear ht hu HT1 KB1 R1
      unfold vv
      have r0 := R2.out.v0; have r1 := R2.out.v1; have r2 := R2.out.v2; have r3 := R2.out.v3; have r4 := R2.out.v4
      have f0 := R2.out.g0; have f1 := R2.out.g1; have f2 := R2.out.g2; have f3 := R2.out.g3; have f4 := R2.out.g4
      go_wp2_with (fail)
      have RF := R2.out.all5 (.int .i64 v.k) (.int .i64 v.n) (.string (tx v.s)) (.int .i64 v.x) (.int .i64 v.y)
      have c0 := RF.c 0 _ rfl; have c1 := RF.c 1 _ rfl; have c2 := RF.c 2 _ rfl; have c3 := RF.c 3 _ rfl; have c4 := RF.c 4 _ rfl
      clear RF
      rw [HE.out]
      refine bodyPost_ret (v := .tuple #[.agg #[.int .i64 v.k, .int .i64 v.n, .string (tx v.s), .int .i64 v.x, .int .i64 v.y], .int .i64 (k : Int)]) (by simp [results, Try.results59, go_sem, c0, c1, c2, c3, c4]; try rfl) rfl ⟨rfl, ?_, ?_⟩
      · exact One.tur HT2.out (tur_all5 _ _ _ _ _ _ _) hne.symm
      · exact KB2.out.new5 (Nat.le_refl _) _ _ _ _ _
    have HE : Hid (rval l = (vz, 6, t)) := by
      show _ = _
      unfold rval; rw [e, if_neg (fun h => h rfl)]
      exact (if_neg n0).trans ((if_neg n1).trans (if_neg n2))
    have HQ3 := Lib.hid (fun w h => num_ok b l w h hl e)
    have g0 : ((n : Int) == 0) = false := by rw [beq_eq_false_iff_ne]; omega
    have g1 : ((n : Int) == 1) = false := by rw [beq_eq_false_iff_ne]; omega
    have g2 : ((n : Int) == 2) = false := by rw [beq_eq_false_iff_ne]; omega
    clear e n0 n1 n2
    generalize (n : Int) = q at *
    go_enter Try.func59, Try.ntmps59
    go_wp2_with (fail)
    have KB0 := Lib.hid (Below.tur (b := b) (box1 w (.cells #[.int .i64 0, .int .i64 0, .string ⟨#[]⟩, .int .i64 0, .int .i64 0] 42)))
    have HT0 : Hid (IsT (w.alloc (.cells #[.int .i64 0, .int .i64 0, .string ⟨#[]⟩, .int .i64 0, .int .i64 0] 42)) b l) := One.old HT.out (box1 w (.cells #[.int .i64 0, .int .i64 0, .string ⟨#[]⟩, .int .i64 0, .int .i64 0] 42))
    have R := Blk.made w 42 (vcs 0 0 ⟨#[]⟩ 0 0) rfl
    change Blk (w.alloc (.cells #[.int .i64 0, .int .i64 0, .string ⟨#[]⟩, .int .i64 0, .int .i64 0] 42)) w.heap.size _ at R
    have R0 := Lib.hid R; clear R
    have hne : w.heap.size ≠ b := Nat.ne_of_gt (One.lt HT.out)
    clear HT
    generalize w.alloc (.cells #[.int .i64 0, .int .i64 0, .string ⟨#[]⟩, .int .i64 0, .int .i64 0] 42) = w0 at *
    refine (HQ3.out _ HT0.out).mono ?_
    rintro e w1 ⟨rfl, ht, hu⟩
    have HT1 := Lib.hid ht
    have KB1 := Lib.hid (KB0.out.trans hu)
    have R1 := Lib.hid (R0.out.tur hu hne)
    clear ht hu HT0 KB0 R0
    have r0 := R1.out.v0; have r1 := R1.out.v1; have r2 := R1.out.v2; have r3 := R1.out.v3; have r4 := R1.out.v4
    have f0 := R1.out.g0; have f1 := R1.out.g1; have f2 := R1.out.g2; have f3 := R1.out.g3; have f4 := R1.out.g4
    go_wp2_with (fail)
    have RF := R1.out.all5 (.int .i64 0) (.int .i64 0) (.string ⟨#[]⟩) (.int .i64 0) (.int .i64 0)
    have c0 := RF.c 0 _ rfl; have c1 := RF.c 1 _ rfl; have c2 := RF.c 2 _ rfl; have c3 := RF.c 3 _ rfl; have c4 := RF.c 4 _ rfl
    clear RF
    rw [HE.out]
    refine bodyPost_ret (v := .tuple #[vv vz, .int .i64 6]) (by simp [results, Try.results59, go_sem, c0, c1, c2, c3, c4]; try rfl) rfl ⟨rfl, ?_, ?_⟩
    · exact One.tur HT1.out (tur_all5 _ _ _ _ _ _ _) hne.symm
    · exact KB1.out.new5 (Nat.le_refl _) _ _ _ _ _
  · have g0 : ((k : Int) != 0) = true := by rw [bne_iff_ne]; omega
    have HE : Hid (rval l = (vz, k, l)) := by
      show _ = _
      unfold rval; rw [e, if_pos (by show k ≠ 0; omega)]
    have HQ := Lib.hid e
    clear e
    go_enter Try.func59, Try.ntmps59
    go_wp2_with (fail)
    have KB0 := Lib.hid (Below.tur (b := b) (box1 w (.cells #[.int .i64 0, .int .i64 0, .string ⟨#[]⟩, .int .i64 0, .int .i64 0] 42)))
    have HT0 : Hid (IsT (w.alloc (.cells #[.int .i64 0, .int .i64 0, .string ⟨#[]⟩, .int .i64 0, .int .i64 0] 42)) b l) := One.old HT.out (box1 w (.cells #[.int .i64 0, .int .i64 0, .string ⟨#[]⟩, .int .i64 0, .int .i64 0] 42))
    have R := Blk.made w 42 (vcs 0 0 ⟨#[]⟩ 0 0) rfl
    change Blk (w.alloc (.cells #[.int .i64 0, .int .i64 0, .string ⟨#[]⟩, .int .i64 0, .int .i64 0] 42)) w.heap.size _ at R
    have R0 := Lib.hid R; clear R
    have hne : w.heap.size ≠ b := Nat.ne_of_gt (One.lt HT.out)
    clear HT
    generalize w.alloc (.cells #[.int .i64 0, .int .i64 0, .string ⟨#[]⟩, .int .i64 0, .int .i64 0] 42) = w0 at *
    refine (num_no b l _ HT0.out hl HQ.out hk).mono ?_
    rintro e w1 ⟨rfl, ht, hu⟩
    have HT1 := Lib.hid ht
    have KB1 := Lib.hid (KB0.out.trans hu)
    have R1 := Lib.hid (R0.out.tur hu hne)
    clear ht hu HT0 KB0 R0
    have r0 := R1.out.v0; have r1 := R1.out.v1; have r2 := R1.out.v2; have r3 := R1.out.v3; have r4 := R1.out.v4
    have f0 := R1.out.g0; have f1 := R1.out.g1; have f2 := R1.out.g2; have f3 := R1.out.g3; have f4 := R1.out.g4
    go_wp2_with (fail)
    have RF := R1.out.all5 (.int .i64 0) (.int .i64 0) (.string ⟨#[]⟩) (.int .i64 0) (.int .i64 0)
    have c0 := RF.c 0 _ rfl; have c1 := RF.c 1 _ rfl; have c2 := RF.c 2 _ rfl; have c3 := RF.c 3 _ rfl; have c4 := RF.c 4 _ rfl
    clear RF
    rw [HE.out]
    refine bodyPost_ret (v := .tuple #[vv vz, .int .i64 (k : Int)]) (by simp [results, Try.results59, go_sem, c0, c1, c2, c3, c4]; try rfl) rfl ⟨rfl, ?_, ?_⟩
    · exact One.tur HT1.out (tur_all5 _ _ _ _ _ _ _) hne.symm
    · exact KB1.out.new5 (Nat.le_refl _) _ _ _ _ _
set_option maxRecDepth 100000 in
set_option maxHeartbeats 4000000 in
theorem read_any (b : Nat) (l : List UInt8) (w : World) (h : IsT w b l) (hl : l.length ≤ 281474976710656) :
    Calls Try.prog 46 #[.pointer (some ⟨b, 0, none⟩)] w (LeftT b (.tuple #[vv (rd l).1, .int .i64 ((rd l).2.1 : Int)]) (rd l).2.2 w) := by
  have HT := Lib.hid h; clear h
  have HV := Lib.hid (fun w h => readValue_any b l w h hl)
  have HE0 : Hid (rd l = if (rval l).2.1 ≠ 0 then (vz, (rval l).2.1, (rval l).2.2) else if rt (rval l).1 = true then rval l else (vz, 6, (rval l).2.2)) := rfl
  generalize rval l = r at *
  obtain ⟨v, k, u⟩ := r
  by_cases hk : k = 0
  · subst hk
    have HR : Hid (∀ w, Calls Try.prog 40 #[.agg #[.int .i64 v.k, .int .i64 v.n, .string (tx v.s), .int .i64 v.x, .int .i64 v.y]] w (Gives (.bool (rt v)) w)) := fun w => by
      have := right_val v.k v.n v.x v.y (tx v.s) w
      rwa [tx_list] at this
    rcases Bool.eq_false_or_eq_true (rt v) with hr | hr
    · have HE : Hid (rd l = (v, 0, u)) := by
        show _ = _
        rw [HE0.out, if_neg (fun h => h rfl), if_pos hr]
      rw [hr] at HR; clear hr HE0
      go_enter Try.func46, Try.ntmps46
      go_wp2_with (fail)
      have KB0 := Lib.hid (Below.tur (b := b) (box1 w (.cells #[.int .i64 0, .int .i64 0, .string ⟨#[]⟩, .int .i64 0, .int .i64 0] 42)))
      have HT0 : Hid (IsT (w.alloc (.cells #[.int .i64 0, .int .i64 0, .string ⟨#[]⟩, .int .i64 0, .int .i64 0] 42)) b l) := One.old HT.out (box1 w (.cells #[.int .i64 0, .int .i64 0, .string ⟨#[]⟩, .int .i64 0, .int .i64 0] 42))
      have R := Blk.made w 42 (vcs 0 0 ⟨#[]⟩ 0 0) rfl
      change Blk (w.alloc (.cells #[.int .i64 0, .int .i64 0, .string ⟨#[]⟩, .int .i64 0, .int .i64 0] 42)) w.heap.size _ at R
      have R0 := Lib.hid R; clear R
      have hne : w.heap.size ≠ b := Nat.ne_of_gt (One.lt HT.out)
      clear HT
      generalize w.alloc (.cells #[.int .i64 0, .int .i64 0, .string ⟨#[]⟩, .int .i64 0, .int .i64 0] 42) = w0 at *
      refine (HV.out _ HT0.out).mono ?_
      rintro e w1 ⟨rfl, ht, hu⟩
      have KB1 := Lib.hid ((KB0.out.trans hu).trans (Below.tur (box1 w1 (.cells #[.int .i64 v.k, .int .i64 v.n, .string (tx v.s), .int .i64 v.x, .int .i64 v.y] 42))))
      have HT1 : Hid (IsT (w1.alloc (.cells #[.int .i64 v.k, .int .i64 v.n, .string (tx v.s), .int .i64 v.x, .int .i64 v.y] 42)) b u) := One.old ht (box1 w1 (.cells #[.int .i64 v.k, .int .i64 v.n, .string (tx v.s), .int .i64 v.x, .int .i64 v.y] 42))
      have R1 := Lib.hid ((R0.out.tur hu hne).old (.cells #[.int .i64 v.k, .int .i64 v.n, .string (tx v.s), .int .i64 v.x, .int .i64 v.y] 42))
      have D := Blk.made w1 42 (vcs v.k v.n (tx v.s) v.x v.y) rfl
      clear ht hu HT0 KB0 R0
      unfold vv
      go_wp2_with (fail)
      change Blk (w1.alloc (.cells #[.int .i64 v.k, .int .i64 v.n, .string (tx v.s), .int .i64 v.x, .int .i64 v.y] 42)) w1.heap.size _ at D
      have D1 := Lib.hid D; clear D
      generalize w1.alloc (.cells #[.int .i64 v.k, .int .i64 v.n, .string (tx v.s), .int .i64 v.x, .int .i64 v.y] 42) = w2 at *
      generalize w1.heap.size = d at *
      refine (HR.out _).mono ?_
      rintro e w3 ⟨rfl, hb⟩
      have KB3 := Lib.hid (KB1.out.trans (Below.tur hb))
      have HT3 : Hid (IsT w3 b u) := One.old HT1.out hb
      have R3 := Lib.hid (R1.out.next hb)
      have D3 := Lib.hid (D1.out.next hb)
      clear hb KB1 HT1 R1 D1
      have r0 := R3.out.v0; have r1 := R3.out.v1; have r2 := R3.out.v2; have r3 := R3.out.v3; have r4 := R3.out.v4
      have f0 := R3.out.g0; have f1 := R3.out.g1; have f2 := R3.out.g2; have f3 := R3.out.g3; have f4 := R3.out.g4
      have d0 := D3.out.v0; have d1 := D3.out.v1; have d2 := D3.out.v2; have d3 := D3.out.v3; have d4 := D3.out.v4
      go_wp2_with (fail)
      have RF := R3.out.all5 (.int .i64 v.k) (.int .i64 v.n) (.string (tx v.s)) (.int .i64 v.x) (.int .i64 v.y)
      have c0 := RF.c 0 _ rfl; have c1 := RF.c 1 _ rfl; have c2 := RF.c 2 _ rfl; have c3 := RF.c 3 _ rfl; have c4 := RF.c 4 _ rfl
      clear RF
      rw [HE.out]
      refine bodyPost_ret (v := .tuple #[.agg #[.int .i64 v.k, .int .i64 v.n, .string (tx v.s), .int .i64 v.x, .int .i64 v.y], .int .i64 0]) (by simp [results, Try.results46, go_sem, c0, c1, c2, c3, c4]; try rfl) rfl ⟨rfl, ?_, ?_⟩
      · exact One.tur HT3.out (tur_all5 _ _ _ _ _ _ _) hne.symm
      · exact KB3.out.new5 (Nat.le_refl _) _ _ _ _ _
    · have HE : Hid (rd l = (vz, 6, u)) := by
        show _ = _
        rw [HE0.out, if_neg (fun h => h rfl), if_neg (by rw [hr]; decide)]
      rw [hr] at HR; clear hr HE0
      go_enter Try.func46, Try.ntmps46
      go_wp2_with (fail)
      have KB0 := Lib.hid (Below.tur (b := b) (box1 w (.cells #[.int .i64 0, .int .i64 0, .string ⟨#[]⟩, .int .i64 0, .int .i64 0] 42)))
      have HT0 : Hid (IsT (w.alloc (.cells #[.int .i64 0, .int .i64 0, .string ⟨#[]⟩, .int .i64 0, .int .i64 0] 42)) b l) := One.old HT.out (box1 w (.cells #[.int .i64 0, .int .i64 0, .string ⟨#[]⟩, .int .i64 0, .int .i64 0] 42))
      have R := Blk.made w 42 (vcs 0 0 ⟨#[]⟩ 0 0) rfl
      change Blk (w.alloc (.cells #[.int .i64 0, .int .i64 0, .string ⟨#[]⟩, .int .i64 0, .int .i64 0] 42)) w.heap.size _ at R
      have R0 := Lib.hid R; clear R
      have hne : w.heap.size ≠ b := Nat.ne_of_gt (One.lt HT.out)
      clear HT
      generalize w.alloc (.cells #[.int .i64 0, .int .i64 0, .string ⟨#[]⟩, .int .i64 0, .int .i64 0] 42) = w0 at *
      refine (HV.out _ HT0.out).mono ?_
      rintro e w1 ⟨rfl, ht, hu⟩
      have KB1 := Lib.hid ((KB0.out.trans hu).trans (Below.tur (box1 w1 (.cells #[.int .i64 v.k, .int .i64 v.n, .string (tx v.s), .int .i64 v.x, .int .i64 v.y] 42))))
      have HT1 : Hid (IsT (w1.alloc (.cells #[.int .i64 v.k, .int .i64 v.n, .string (tx v.s), .int .i64 v.x, .int .i64 v.y] 42)) b u) := One.old ht (box1 w1 (.cells #[.int .i64 v.k, .int .i64 v.n, .string (tx v.s), .int .i64 v.x, .int .i64 v.y] 42))
      have R1 := Lib.hid ((R0.out.tur hu hne).old (.cells #[.int .i64 v.k, .int .i64 v.n, .string (tx v.s), .int .i64 v.x, .int .i64 v.y] 42))
      have D := Blk.made w1 42 (vcs v.k v.n (tx v.s) v.x v.y) rfl
      clear ht hu HT0 KB0 R0
      unfold vv
      go_wp2_with (fail)
      change Blk (w1.alloc (.cells #[.int .i64 v.k, .int .i64 v.n, .string (tx v.s), .int .i64 v.x, .int .i64 v.y] 42)) w1.heap.size _ at D
      have D1 := Lib.hid D; clear D
      generalize w1.alloc (.cells #[.int .i64 v.k, .int .i64 v.n, .string (tx v.s), .int .i64 v.x, .int .i64 v.y] 42) = w2 at *
      generalize w1.heap.size = d at *
      refine (HR.out _).mono ?_
      rintro e w3 ⟨rfl, hb⟩
      have KB3 := Lib.hid (KB1.out.trans (Below.tur hb))
      have HT3 : Hid (IsT w3 b u) := One.old HT1.out hb
      have R3 := Lib.hid (R1.out.next hb)
      clear hb KB1 HT1 R1 D1
      have r0 := R3.out.v0; have r1 := R3.out.v1; have r2 := R3.out.v2; have r3 := R3.out.v3; have r4 := R3.out.v4
      have f0 := R3.out.g0; have f1 := R3.out.g1; have f2 := R3.out.g2; have f3 := R3.out.g3; have f4 := R3.out.g4
      go_wp2_with (fail)
      have RF := R3.out.all5 (.int .i64 0) (.int .i64 0) (.string ⟨#[]⟩) (.int .i64 0) (.int .i64 0)
      have c0 := RF.c 0 _ rfl; have c1 := RF.c 1 _ rfl; have c2 := RF.c 2 _ rfl; have c3 := RF.c 3 _ rfl; have c4 := RF.c 4 _ rfl
      clear RF
      rw [HE.out]
      refine bodyPost_ret (v := .tuple #[vv vz, .int .i64 6]) (by simp [results, Try.results46, go_sem, c0, c1, c2, c3, c4]; try rfl) rfl ⟨rfl, ?_, ?_⟩
      · exact One.tur HT3.out (tur_all5 _ _ _ _ _ _ _) hne.symm
      · exact KB3.out.new5 (Nat.le_refl _) _ _ _ _ _
  · have HE : Hid (rd l = (vz, k, u)) := by
      show _ = _
      rw [HE0.out, if_pos hk]
    have g0 : ((k : Int) == 0) = false := by rw [beq_eq_false_iff_ne]; omega
    have g1 : ((k : Int) != 0) = true := by rw [bne_iff_ne]; omega
    clear HE0 hk
    go_enter Try.func46, Try.ntmps46
    go_wp2_with (fail)
    have KB0 := Lib.hid (Below.tur (b := b) (box1 w (.cells #[.int .i64 0, .int .i64 0, .string ⟨#[]⟩, .int .i64 0, .int .i64 0] 42)))
    have HT0 : Hid (IsT (w.alloc (.cells #[.int .i64 0, .int .i64 0, .string ⟨#[]⟩, .int .i64 0, .int .i64 0] 42)) b l) := One.old HT.out (box1 w (.cells #[.int .i64 0, .int .i64 0, .string ⟨#[]⟩, .int .i64 0, .int .i64 0] 42))
    have R := Blk.made w 42 (vcs 0 0 ⟨#[]⟩ 0 0) rfl
    change Blk (w.alloc (.cells #[.int .i64 0, .int .i64 0, .string ⟨#[]⟩, .int .i64 0, .int .i64 0] 42)) w.heap.size _ at R
    have R0 := Lib.hid R; clear R
    have hne : w.heap.size ≠ b := Nat.ne_of_gt (One.lt HT.out)
    clear HT
    generalize w.alloc (.cells #[.int .i64 0, .int .i64 0, .string ⟨#[]⟩, .int .i64 0, .int .i64 0] 42) = w0 at *
    refine (HV.out _ HT0.out).mono ?_
    rintro e w1 ⟨rfl, ht, hu⟩
    have KB1 := Lib.hid ((KB0.out.trans hu).trans (Below.tur (box1 w1 (.cells #[.int .i64 v.k, .int .i64 v.n, .string (tx v.s), .int .i64 v.x, .int .i64 v.y] 42))))
    have HT1 : Hid (IsT (w1.alloc (.cells #[.int .i64 v.k, .int .i64 v.n, .string (tx v.s), .int .i64 v.x, .int .i64 v.y] 42)) b u) := One.old ht (box1 w1 (.cells #[.int .i64 v.k, .int .i64 v.n, .string (tx v.s), .int .i64 v.x, .int .i64 v.y] 42))
    have R1 := Lib.hid ((R0.out.tur hu hne).old (.cells #[.int .i64 v.k, .int .i64 v.n, .string (tx v.s), .int .i64 v.x, .int .i64 v.y] 42))
    have D := Blk.made w1 42 (vcs v.k v.n (tx v.s) v.x v.y) rfl
    clear ht hu HT0 KB0 R0
    unfold vv
    clear D
    have r0 := R1.out.v0; have r1 := R1.out.v1; have r2 := R1.out.v2; have r3 := R1.out.v3; have r4 := R1.out.v4
    have f0 := R1.out.g0; have f1 := R1.out.g1; have f2 := R1.out.g2; have f3 := R1.out.g3; have f4 := R1.out.g4
    go_wp2_with (fail)
    have RF := R1.out.all5 (.int .i64 0) (.int .i64 0) (.string ⟨#[]⟩) (.int .i64 0) (.int .i64 0)
    have c0 := RF.c 0 _ rfl; have c1 := RF.c 1 _ rfl; have c2 := RF.c 2 _ rfl; have c3 := RF.c 3 _ rfl; have c4 := RF.c 4 _ rfl
    clear RF
    rw [HE.out]
    refine bodyPost_ret (v := .tuple #[vv vz, .int .i64 (k : Int)]) (by simp [results, Try.results46, go_sem, c0, c1, c2, c3, c4]; try rfl) rfl ⟨rfl, ?_, ?_⟩
    · exact One.tur HT1.out (tur_all5 _ _ _ _ _ _ _) hne.symm
    · exact KB1.out.new5 (Nat.le_refl _) _ _ _ _ _
end Go.Proofs.Ytgakcpcpfkoaiaa.Va

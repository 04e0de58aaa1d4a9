/-
  What Parse answers of any text.
-/
import Derived.Test.YtpickeicchmhnaaDoorVaText
namespace Go.Proofs.YtpickeicchmhnaaDoor.Va
open Go.ChangeShapes Go.WideShapes Go.ChangeAt Go.RowKit Go.Proofs.YtpickeicchmhnaaDoor.Ov Go.Proofs.YtpickeicchmhnaaDoor.Tp

theorem prv_box {w : World} {b : Nat} (h : Blk w b (vcs 0 0 ⟨#[]⟩ 0 0)) (v : Va) : Blk (((((w.setCell ⟨b, 0, none⟩ (.int .i64 v.k)).setCell ⟨b, 1, none⟩ (.int .i64 v.n)).setCell ⟨b, 2, none⟩ (.string (tx v.s))).setCell ⟨b, 3, none⟩ (.int .i64 v.x)).setCell ⟨b, 4, none⟩ (.int .i64 v.y)) b [.int .i64 v.k, .int .i64 v.n, .string (tx v.s), .int .i64 v.x, .int .i64 v.y] := h.all5 _ _ _ _ _
set_option maxHeartbeats 2000000 in
theorem parse_any (s : ByteArray) (w : World) (hs : s.size ≤ 281474976710656) :
    Calls Tryd.prog 13 #[.string s] w (Gives (prv (pz s.data.toList)) w) := by
  by_cases hz : s.size = 0
  · have h1 := empty_of hz
    have h1' : s.toList.isEmpty = true := by rw [h1]; rfl
    have HE : Hid (pz s.data.toList = (vz, 0, 10)) := by
      show _ = _
      rw [← ByteArray.toList_eq, h1]; unfold pz; simp
    go_enter Tryd.func13, Tryd.ntmps13
    go_wp2_with (fail)
    rw [HE.out]
    refine bodyPost_ret (v := prv (vz, 0, 10)) (by simp [results, Tryd.results13, go_sem]; rfl) rfl ⟨rfl, ?_⟩
    exact box1 w _
  · have h1 := full_of hz
    have h1' : s.toList.isEmpty = false := by simpa using h1
    have h3 : 0 < s.size := by omega
    have HH := Lib.hid (head_at h3)
    obtain ⟨c, hc⟩ : ∃ c : UInt8, s[0]'h3 = c := ⟨_, rfl⟩
    rw [hc] at HH
    have HP : Hid (pz s.data.toList = if c = 34 then ctx s.data.toList else if c = 45 ∨ dg c = true then cnum s.data.toList else (vz, 0, 10)) := by
      show _ = _
      unfold pz; rw [HH.out]; simp
    by_cases h34 : c = 34
    · subst h34
      have HE := Lib.hid (HP.out.trans (if_pos rfl))
      have HC := Lib.hid (cutText_any s)
      clear HP HH hz
      rw [HE.out]
      generalize ctx s.data.toList = r at *
      obtain ⟨v, z, k⟩ := r
      go_enter Tryd.func13, Tryd.ntmps13
      go_wp2_with (fail)
      have KB := Lib.hid (box1 w (.cells #[.int .i64 0, .int .i64 0, .string ⟨#[]⟩, .int .i64 0, .int .i64 0] 25))
      have R := Blk.made w 25 (vcs 0 0 ⟨#[]⟩ 0 0) rfl
      change Blk (w.alloc (.cells #[.int .i64 0, .int .i64 0, .string ⟨#[]⟩, .int .i64 0, .int .i64 0] 25)) w.heap.size _ at R
      generalize w.alloc (.cells #[.int .i64 0, .int .i64 0, .string ⟨#[]⟩, .int .i64 0, .int .i64 0] 25) = w0 at *
      refine (HC.out _ h3 hs).mono ?_
      rintro e w1 ⟨rfl, hb⟩
      have HB1 := Lib.hid (Below.next KB.out hb)
      have R1 := R.next hb
      clear hb R KB
      unfold prv vv
      have r0 := R1.v0; have r1 := R1.v1; have r2 := R1.v2; have r3 := R1.v3; have r4 := R1.v4
      have f0 := R1.g0; have f1 := R1.g1; have f2 := R1.g2; have f3 := R1.g3; have f4 := R1.g4
      have RH := Lib.hid (prv_box R1 v)
      clear R1
      go_wp2_with (fail)
      have RF := RH.out
      have c0 := RF.c 0 _ rfl; have c1 := RF.c 1 _ rfl; have c2 := RF.c 2 _ rfl; have c3 := RF.c 3 _ rfl; have c4 := RF.c 4 _ rfl
      clear RF
      refine bodyPost_ret (v := .tuple #[.agg #[.int .i64 v.k, .int .i64 v.n, .string (tx v.s), .int .i64 v.x, .int .i64 v.y], .int .i64 (z : Int), .int .i64 (k : Int)]) (by simp [results, Tryd.results13, go_sem, c0, c1, c2, c3, c4]) rfl ⟨rfl, ?_⟩
      exact below_all5 HB1.out (Nat.le_refl _) _ _ _ _ _
    · have g34 : ((c.toNat : Int) == 34) = false := by
        rw [beq_eq_false_iff_ne]
        intro e
        exact h34 (UInt8.toNat_inj.1 (show c.toNat = 34 by omega))
      have HE1 := Lib.hid (HP.out.trans (if_neg h34))
      have HC := Lib.hid (cutNumbers_any s)
      have HG := Lib.hid (isDigit_any c)
      clear HP HH hz h34
      by_cases h45 : c = 45
      · subst h45
        have HE := Lib.hid (HE1.out.trans (if_pos (.inl rfl)))
        clear HE1 HG
        rw [HE.out]
        generalize cnum s.data.toList = r at *
        obtain ⟨v, z, k⟩ := r
        go_enter Tryd.func13, Tryd.ntmps13
        go_wp2_with (fail)
        have KB := Lib.hid (box1 w (.cells #[.int .i64 0, .int .i64 0, .string ⟨#[]⟩, .int .i64 0, .int .i64 0] 25))
        have R := Blk.made w 25 (vcs 0 0 ⟨#[]⟩ 0 0) rfl
        change Blk (w.alloc (.cells #[.int .i64 0, .int .i64 0, .string ⟨#[]⟩, .int .i64 0, .int .i64 0] 25)) w.heap.size _ at R
        generalize w.alloc (.cells #[.int .i64 0, .int .i64 0, .string ⟨#[]⟩, .int .i64 0, .int .i64 0] 25) = w0 at *
        refine (HC.out _ hs).mono ?_
        rintro e w1 ⟨rfl, hb⟩
        have HB1 := Lib.hid (Below.next KB.out hb)
        have R1 := R.next hb
        clear hb R KB
        unfold prv vv
        have r0 := R1.v0; have r1 := R1.v1; have r2 := R1.v2; have r3 := R1.v3; have r4 := R1.v4
        have f0 := R1.g0; have f1 := R1.g1; have f2 := R1.g2; have f3 := R1.g3; have f4 := R1.g4
        have RH := Lib.hid (prv_box R1 v)
        clear R1
        go_wp2_with (fail)
        have RF := RH.out
        have c0 := RF.c 0 _ rfl; have c1 := RF.c 1 _ rfl; have c2 := RF.c 2 _ rfl; have c3 := RF.c 3 _ rfl; have c4 := RF.c 4 _ rfl
        clear RF
        refine bodyPost_ret (v := .tuple #[.agg #[.int .i64 v.k, .int .i64 v.n, .string (tx v.s), .int .i64 v.x, .int .i64 v.y], .int .i64 (z : Int), .int .i64 (k : Int)]) (by simp [results, Tryd.results13, go_sem, c0, c1, c2, c3, c4]) rfl ⟨rfl, ?_⟩
        exact below_all5 HB1.out (Nat.le_refl _) _ _ _ _ _
      · have g45 : ((c.toNat : Int) == 45) = false := by
          rw [beq_eq_false_iff_ne]
          intro e
          exact h45 (UInt8.toNat_inj.1 (show c.toNat = 45 by omega))
        rcases Bool.eq_false_or_eq_true (dg c) with hd | hd
        · have HE := Lib.hid (HE1.out.trans (if_pos (.inr hd)))
          rw [hd] at HG
          clear HE1 h45 hd
          rw [HE.out]
          generalize cnum s.data.toList = r at *
          obtain ⟨v, z, k⟩ := r
          go_enter Tryd.func13, Tryd.ntmps13
          go_wp2_with (fail)
          have KB := Lib.hid (box1 w (.cells #[.int .i64 0, .int .i64 0, .string ⟨#[]⟩, .int .i64 0, .int .i64 0] 25))
          have R := Blk.made w 25 (vcs 0 0 ⟨#[]⟩ 0 0) rfl
          change Blk (w.alloc (.cells #[.int .i64 0, .int .i64 0, .string ⟨#[]⟩, .int .i64 0, .int .i64 0] 25)) w.heap.size _ at R
          generalize w.alloc (.cells #[.int .i64 0, .int .i64 0, .string ⟨#[]⟩, .int .i64 0, .int .i64 0] 25) = w0 at *
          refine (HG.out _).mono ?_
          rintro e w' ⟨rfl, rfl⟩
          go_wp2_with (fail)
          refine (HC.out _ hs).mono ?_
          rintro e w1 ⟨rfl, hb⟩
          have HB1 := Lib.hid (Below.next KB.out hb)
          have R1 := R.next hb
          clear hb R KB
          unfold prv vv
          have r0 := R1.v0; have r1 := R1.v1; have r2 := R1.v2; have r3 := R1.v3; have r4 := R1.v4
          have f0 := R1.g0; have f1 := R1.g1; have f2 := R1.g2; have f3 := R1.g3; have f4 := R1.g4
          have RH := Lib.hid (prv_box R1 v)
          clear R1
          go_wp2_with (fail)
          have RF := RH.out
          have c0 := RF.c 0 _ rfl; have c1 := RF.c 1 _ rfl; have c2 := RF.c 2 _ rfl; have c3 := RF.c 3 _ rfl; have c4 := RF.c 4 _ rfl
          clear RF
          refine bodyPost_ret (v := .tuple #[.agg #[.int .i64 v.k, .int .i64 v.n, .string (tx v.s), .int .i64 v.x, .int .i64 v.y], .int .i64 (z : Int), .int .i64 (k : Int)]) (by simp [results, Tryd.results13, go_sem, c0, c1, c2, c3, c4]) rfl ⟨rfl, ?_⟩
          exact below_all5 HB1.out (Nat.le_refl _) _ _ _ _ _
        · have HE := Lib.hid (HE1.out.trans (if_neg (by rintro (h | h); exact h45 h; rw [hd] at h; cases h)))
          rw [hd] at HG
          clear HE1 h45 hd
          rw [HE.out]
          go_enter Tryd.func13, Tryd.ntmps13
          go_wp2_with (fail)
          refine (HG.out _).mono ?_
          rintro e w' ⟨rfl, rfl⟩
          go_wp2_with (fail)
          refine bodyPost_ret (v := prv (vz, 0, 10)) (by simp [results, Tryd.results13, go_sem]; rfl) rfl ⟨rfl, ?_⟩
          exact box1 w _
end Go.Proofs.YtpickeicchmhnaaDoor.Va

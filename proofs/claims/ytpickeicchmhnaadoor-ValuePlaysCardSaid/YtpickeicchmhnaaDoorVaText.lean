/-
  What cutText answers (written by gen_vatext.py).
-/
import Derived.Test.YtpickeicchmhnaaDoorVaByte
import Derived.Test.YtpickeicchmhnaaDoorVaCut3
import Derived.Test.YtpickeicchmhnaaDoorOvOwn
namespace Go.Proofs.YtpickeicchmhnaaDoor.Va
open Go.ChangeShapes Go.WideShapes Go.ChangeAt Go.RowKit Go.Proofs.YtpickeicchmhnaaDoor.Ov Go.Proofs.YtpickeicchmhnaaDoor.Tp

theorem own_shape {w : World} {B m : Nat} {v : Value} {xs : List Value} (h : w.ownsRow B 5 1 v m xs) : ∃ a c, v = .slice a m c := by
  rcases h.2 with ⟨e1, e2⟩ | ⟨g, cap, cur, rfl, _⟩
  · subst e1
    have hm : m = 0 := by subst e2; simp
    subst hm; exact ⟨none, 0, rfl⟩
  · exact ⟨_, _, rfl⟩
/-- cutText's loop: so far the bytes A are read, of which no more than 4097 are kept; k bytes are behind. -/
def RelX (s : ByteArray) (w0 : World) (L : Value) (at_ : Value) (wr : World) : Prop :=
  ∃ (k : Nat) (A : List UInt8), 1 ≤ k ∧ k ≤ s.size ∧ at_ = .int .i64 (k : Int) ∧ ct s.data.toList.tail = pre A (k - 1) (ct (s.data.toList.drop k)) ∧
    wr.ownsRow w0.heap.size 5 1 L (A.take 4097).length (vals (A.take 4097)) ∧ Below w0.heap.size w0 wr
theorem ctx_of {l A : List UInt8} {k : Nat} {r : List UInt8 × Nat × Nat} (h : ct l.tail = pre A k r) : ctx l = if r.2.2 ≠ 0 then (vz, 0, r.2.2) else if 4096 < (A ++ r.1).length then (vz, 0, 3) else (⟨1, 0, A ++ r.1, 0, 0⟩, k + r.2.1 + 1, 0) := by
  unfold ctx; rw [h]; unfold pre
  by_cases h1 : r.2.2 ≠ 0
  · rw [if_pos h1, if_pos h1, if_pos h1]
  · rw [if_neg h1, if_neg h1, if_neg (fun h => h rfl)]
theorem take_add {A : List UInt8} (c : UInt8) (h : A.length ≤ 4096) : A.take 4097 ++ [c] = (A ++ [c]).take 4097 := by
  rw [List.take_of_length_le (by omega), List.take_of_length_le (by simp; omega)]
theorem take_full {A : List UInt8} (c : UInt8) (h : ¬ A.length ≤ 4096) : A.take 4097 = (A ++ [c]).take 4097 := by
  rw [List.take_append_of_le_length (by omega)]
set_option maxRecDepth 100000 in
set_option maxHeartbeats 4000000 in
theorem cutText_any (s : ByteArray) (w : World) (h0 : 0 < s.size) (hs : s.size ≤ 281474976710656) :
    Calls Tryd.prog 31 #[.string s] w (Gives (prv (ctx s.data.toList)) w) := by
  obtain ⟨i0, hi0, hz0, hz1, hz2⟩ := info_parts info8
  have HI := Lib.hid hi0; have HZ0 := Lib.hid hz0; have HZ1 := Lib.hid hz1; have HZ2 := Lib.hid hz2
  clear hi0 hz0 hz1 hz2
  go_enter Tryd.func31, Tryd.ntmps31
  go_wp2_with (fail)
  have KB := Lib.hid (box1 w (.cells #[.int .i64 0, .int .i64 0, .string ⟨#[]⟩, .int .i64 0, .int .i64 0] 25))
  have R := Blk.made w 25 (vcs 0 0 ⟨#[]⟩ 0 0) rfl
  change Blk (w.alloc (.cells #[.int .i64 0, .int .i64 0, .string ⟨#[]⟩, .int .i64 0, .int .i64 0] 25)) w.heap.size _ at R
  have HR := Lib.hid R; clear R
  generalize w.alloc (.cells #[.int .i64 0, .int .i64 0, .string ⟨#[]⟩, .int .i64 0, .int .i64 0] 25) = w0 at *
  go_loopw [5, 6] (fun L at_ wr => RelX s w0 L at_ wr) (fun _ at_ _ => s.size - (intOf at_).toNat)
  case atStart => exact ⟨1, [], Nat.le_refl _, h0, rfl, by rw [List.drop_one]; exact (pre_nil (ct_norm _)).symm, World.ownsRow_nil _ _ _ _, Below.refl _ _⟩
  case round =>
    obtain ⟨k, A, hk1, hk, rfl, hct, ho, hb⟩ := hrel
    obtain ⟨a, c, rfl⟩ := own_shape ho
    have HC := Lib.hid hct; have HO := Lib.hid ho; have HB := Lib.hid hb
    have R1 := HR.out.next hb
    clear hct ho hb
    have hB0 : w0.heap.size ≤ wr.heap.size := HB.out.size
    by_cases hlt : k < s.size
    · have HD := Lib.hid (drop_at hlt)
      obtain ⟨q, hq⟩ : ∃ q : UInt8, s[k] = q := ⟨_, rfl⟩
      rw [hq] at HD
      by_cases h34 : q = 34
      · subst h34
        have HE1 : Hid (ctx s.data.toList = if 4096 < A.length then (vz, 0, 3) else (⟨1, 0, A, 0, 0⟩, k + 1, 0)) := by
          show _ = _
          rw [ctx_of HC.out, HD.out, ct_quote, if_neg (fun h => h rfl)]
          dsimp only
          rw [List.append_nil, show k - 1 + 1 + 1 = k + 1 by omega]
        have hlen : (A.take 4097).length = min 4097 A.length := List.length_take
        rw [hlen] at HO ⊢
        clear hlen
        by_cases hA : 4096 < A.length
        · have HE := Lib.hid (HE1.out.trans (if_pos hA))
          have hm : min 4097 A.length = 4097 := by omega
          rw [hm] at HO ⊢
          clear hm hA HE1
          have r0 := R1.v0; have r1 := R1.v1; have r2 := R1.v2; have r3 := R1.v3; have r4 := R1.v4
          have f0 := R1.g0; have f1 := R1.g1; have f2 := R1.g2; have f3 := R1.g3; have f4 := R1.g4
          have RH := Lib.hid (fun a0 a1 a2 a3 a4 => R1.all5 a0 a1 a2 a3 a4)
          clear R1
          go_wp2_with (fail)
          have RF := RH.out (.int .i64 0) (.int .i64 0) (.string ⟨#[]⟩) (.int .i64 0) (.int .i64 0)
          have c0 := RF.c 0 _ rfl; have c1 := RF.c 1 _ rfl; have c2 := RF.c 2 _ rfl; have c3 := RF.c 3 _ rfl; have c4 := RF.c 4 _ rfl
          clear RF
          rw [HE.out]
          refine bodyPost_ret (v := prv (vz, 0, 3)) (by simp [results, Tryd.results31, go_sem, c0, c1, c2, c3, c4]; rfl) rfl ⟨rfl, ?_⟩
          exact below_all5 (Below.next KB.out HB.out) (Nat.le_refl _) _ _ _ _ _
        · have HE := Lib.hid (HE1.out.trans (if_neg hA))
          have hm : min 4097 A.length = A.length := by omega
          have ht : A.take 4097 = A := List.take_of_length_le (by omega)
          rw [hm] at HO ⊢
          rw [ht] at HO
          have hcv := run_own_text rfl HO.out ⟨wr, Below.refl _ _⟩
          have hn : ¬ (4096 : Int) < (A.length : Int) := by omega
          have hn2 : ¬ 4096 < A.length := hA
          clear hm hA ht HE1
          go_wp2_with (fail)
          refine (text_any (tx A) _).mono ?_
          rintro e w1 ⟨rfl, hb⟩
          have HB1 := Lib.hid (Below.next KB.out (Below.next HB.out hb))
          have R2 := R1.next hb
          clear hb R1 hcv
          have r0 := R2.v0; have r1 := R2.v1; have r2 := R2.v2; have r3 := R2.v3; have r4 := R2.v4
          have f0 := R2.g0; have f1 := R2.g1; have f2 := R2.g2; have f3 := R2.g3; have f4 := R2.g4
          have RH := Lib.hid (fun a0 a1 a2 a3 a4 => R2.all5 a0 a1 a2 a3 a4)
          clear R2
          go_wp2_with (fail)
          have RF := RH.out (.int .i64 1) (.int .i64 0) (.string (tx A)) (.int .i64 0) (.int .i64 0)
          have c0 := RF.c 0 _ rfl; have c1 := RF.c 1 _ rfl; have c2 := RF.c 2 _ rfl; have c3 := RF.c 3 _ rfl; have c4 := RF.c 4 _ rfl
          clear RF
          rw [HE.out]
          refine bodyPost_ret (v := prv (⟨1, 0, A, 0, 0⟩, k + 1, 0)) (by simp [results, Tryd.results31, go_sem, c0, c1, c2, c3, c4]; rfl) rfl ⟨rfl, ?_⟩
          exact below_all5 (HB1.out) (Nat.le_refl _) _ _ _ _ _
      · have g34 : ((q.toNat : Int) == 34) = false := by
          rw [beq_eq_false_iff_ne]
          intro e
          exact h34 (UInt8.toNat_inj.1 (show q.toNat = 34 by omega))
        have hh : (s.data.toList.drop k).head? ≠ some 34 := by rw [HD.out]; exact fun e => h34 (Option.some.inj e)
        have hne : s.data.toList.drop k ≠ [] := by rw [HD.out]; simp
        have HY := Lib.hid (cutByte_any (s.extract k s.size))
        have hz2 := ext_size s k
        rw [ext_list] at HY
        clear HD h34
        rcases cb_cases (s.data.toList.drop k) with ⟨d, z, e, hz, hz3⟩ | ⟨m, e, hm, _⟩
        · rw [e] at HY
          have HC1 : Hid (ct s.data.toList.tail = pre (A ++ [d]) (k + z - 1) (ct (s.data.toList.drop (k + z)))) := by
            show _ = _
            rw [HC.out, ct_step hh e hz, pre_pre, List.drop_drop, show k - 1 + z = k + z - 1 by omega]
          have hkz : k + z ≤ s.size := by
            rw [List.length_drop] at hz3
            have : s.data.toList.length = s.size := by simp
            omega
          clear e hh hne hz3 HC
          by_cases hA : A.length ≤ 4096
          · have ht : A.take 4097 = A := List.take_of_length_le (by omega)
            rw [ht] at HO ⊢
            have hn : (A.length : Int) ≤ 4096 := by omega
            clear ht
            go_wp2_with (fail)
            refine (HY.out _ (by omega) (by omega)).mono ?_
            rintro e w' ⟨rfl, rfl⟩
            unfold cbv
            go_wp2_with (at_builtin; refine wpList_append_own _ rfl _ _ 57 rfl w0.heap.size 5 i0 (.int .u8 0) 1 1 Tryd.underlying57 HI.out HZ0.out HZ1.out HZ2.out rfl (by decide) _ _ _ rfl (HO.out.alloc _) ⟨wr.heap.size, 0, none⟩ 1 1 [.int .u8 (d.toNat : Int)] rfl rfl (one_news wr _ _) (one_one rfl) ?c3 ?c4 ?c5 ?_)
            case c3 => unfold maxLen; omega
            case c4 => omega
            case c5 => exact Nat.le_trans hB0 (by simp)
            intro v' w1 hown' hgrow _
            have HN : Hid (w1.ownsRow w0.heap.size 5 1 v' ((A ++ [d]).take 4097).length (vals ((A ++ [d]).take 4097))) := by
              show World.ownsRow _ _ _ _ _ _ _
              rw [← take_add d hA, List.take_of_length_le (show A.length ≤ 4097 by omega), vals_snoc, List.length_append]; exact hown'
            have HB1 : Hid (Below w0.heap.size w0 w1) := (HB.out.alloc HB.out.size _).grown hgrow (Nat.le_trans hB0 (by simp)) (fun g e => (HO.out.lt g e).1)
            clear hown' hgrow
            go_wp2
            go_roundw
            case rel => exact ⟨k + z, A ++ [d], by omega, hkz, by go_num, HC1.out, HN.out, HB1.out⟩
            case measure => simp [intOf]; omega
          · have hlen : (A.take 4097).length = 4097 := by rw [List.length_take]; omega
            have HO2 : Hid (wr.ownsRow w0.heap.size 5 1 (.slice a 4097 c) ((A ++ [d]).take 4097).length (vals ((A ++ [d]).take 4097))) := by
              show World.ownsRow _ _ _ _ _ _ _
              have := HO.out
              rw [take_full d hA] at this
              rw [take_full d hA] at hlen
              rw [hlen] at this ⊢; exact this
            rw [hlen] at HO ⊢
            clear hlen
            go_wp2_with (fail)
            refine (HY.out _ (by omega) (by omega)).mono ?_
            rintro e w' ⟨rfl, rfl⟩
            unfold cbv
            go_wp2_with (fail)
            go_roundw
            case rel => exact ⟨k + z, A ++ [d], by omega, hkz, by go_num, HC1.out, HO2.out, HB.out⟩
            case measure => simp [intOf]; omega
        · rw [e] at HY
          have HE : Hid (ctx s.data.toList = (vz, 0, m)) := by
            show _ = _
            rw [ctx_of HC.out, ct_bad hne hh e hm]
            exact if_pos (by show m ≠ 0; omega)
          have g0 : ((m : Int) != 0) = true := by rw [bne_iff_ne]; omega
          clear e hh hne HC
          have r0 := R1.v0; have r1 := R1.v1; have r2 := R1.v2; have r3 := R1.v3; have r4 := R1.v4
          have f0 := R1.g0; have f1 := R1.g1; have f2 := R1.g2; have f3 := R1.g3; have f4 := R1.g4
          have RH := Lib.hid (fun a0 a1 a2 a3 a4 => R1.all5 a0 a1 a2 a3 a4)
          clear R1
          go_wp2_with (fail)
          refine (HY.out _ (by omega) (by omega)).mono ?_
          rintro e w' ⟨rfl, rfl⟩
          unfold cbv
          go_wp2_with (fail)
          have RF := RH.out (.int .i64 0) (.int .i64 0) (.string ⟨#[]⟩) (.int .i64 0) (.int .i64 0)
          have c0 := RF.c 0 _ rfl; have c1 := RF.c 1 _ rfl; have c2 := RF.c 2 _ rfl; have c3 := RF.c 3 _ rfl; have c4 := RF.c 4 _ rfl
          clear RF
          rw [HE.out]
          refine bodyPost_ret (v := prv (vz, 0, m)) (by simp [results, Tryd.results31, go_sem, c0, c1, c2, c3, c4]; rfl) rfl ⟨rfl, ?_⟩
          exact below_all5 (Below.next KB.out HB.out) (Nat.le_refl _) _ _ _ _ _
    · have HE : Hid (ctx s.data.toList = (vz, 0, 2)) := by
        show _ = _
        rw [ctx_of HC.out, List.drop_of_length_le (by simp; omega), ct_nil]
        exact if_pos (by decide)
      clear HC
      have r0 := R1.v0; have r1 := R1.v1; have r2 := R1.v2; have r3 := R1.v3; have r4 := R1.v4
      have f0 := R1.g0; have f1 := R1.g1; have f2 := R1.g2; have f3 := R1.g3; have f4 := R1.g4
      have RH := Lib.hid (fun a0 a1 a2 a3 a4 => R1.all5 a0 a1 a2 a3 a4)
      clear R1
      go_wp2_with (fail)
      have RF := RH.out (.int .i64 0) (.int .i64 0) (.string ⟨#[]⟩) (.int .i64 0) (.int .i64 0)
      have c0 := RF.c 0 _ rfl; have c1 := RF.c 1 _ rfl; have c2 := RF.c 2 _ rfl; have c3 := RF.c 3 _ rfl; have c4 := RF.c 4 _ rfl
      clear RF
      rw [HE.out]
      refine bodyPost_ret (v := prv (vz, 0, 2)) (by simp [results, Tryd.results31, go_sem, c0, c1, c2, c3, c4]; rfl) rfl ⟨rfl, ?_⟩
      exact below_all5 (Below.next KB.out HB.out) (Nat.le_refl _) _ _ _ _ _
end Go.Proofs.YtpickeicchmhnaaDoor.Va

/-
  Small texts of this claim, together: VaText, VaParse, ExWord, ExFind, ExBox, ExCut, VaRd2, JoAwake.
-/
import Derived.Test.YtimllihegnokeaaGreatDoorQ1
import Derived.Test.YtimllihegnokeaaGreatDoorQVaCut3
import Derived.Test.YtimllihegnokeaaGreatDoorQ2
import Derived.Test.YtimllihegnokeaaGreatDoorQ4
import Derived.Laws.RangeAny
import Derived.Lib.OthersKept
import Derived.Test.YtimllihegnokeaaGreatDoorQJoFold2
namespace Go.Proofs.YtimllihegnokeaaGreatDoor.Va
open Go.ChangeShapes Go.WideShapes Go.ChangeAt Go.RowKit Ov Tp
theorem own_shape {w : World} {B m : Nat} {v : Value} {xs : List Value} (h : w.ownsRow B 5 1 v m xs) : ∃ a c, v = .slice a m c := by
 rcases h.2 with ⟨e1, e2⟩ | ⟨g, cap, cur, rfl, _⟩
 · subst e1
   have hm : m = 0 := by subst e2; simp
   subst hm; exact ⟨none, 0, rfl⟩
 · exact ⟨_, _, rfl⟩
def RelX (s : ByteArray) (w0 : World) (L : Value) (at_ : Value) (wr : World) : Prop :=
 ∃ (k : Nat) (A : List UInt8), 1 ≤ k ∧ k ≤ s.size ∧ at_ = .int .i64 (k : Int) ∧ ct s.data.toList.tail = pre A (k - 1) (ct (s.data.toList.drop k)) ∧
  wr.ownsRow w0.heap.size 5 1 L (A.take 4097).length (vals (A.take 4097)) ∧ Below w0.heap.size w0 wr
theorem ctx_of {l A : List UInt8} {k : Nat} {r : List UInt8 × Nat × Nat} (h : ct l.tail = pre A k r) : ctx l = if r.2.2 ≠ 0 then (vz, 0, r.2.2) else if 4096 < (A ++ r.1).length then (vz, 0, 3) else (⟨1, 0, A ++ r.1, 0, 0⟩, k + r.2.1 + 1, 0) := by
 unfold ctx; rw [h]; unfold pre
 by_cases h1 : r.2.2 ≠ 0
 · rw [if_pos h1, if_pos h1, if_pos h1]
 · rw [if_neg h1, if_neg h1, if_neg (fun h => h rfl)]
theorem take_add {A : List UInt8} (c : UInt8) (h : A.length ≤ 4096) : A.take 4097 ++ [c] = (A ++ [c]).take 4097 := by
 rw [List.take_of_length_le (by omega), List.take_of_length_le (by simp; omega)]
theorem take_full {A : List UInt8} (c : UInt8) (h : ¬ A.length ≤ 4096) : A.take 4097 = (A ++ [c]).take 4097 := by
 rw [List.take_append_of_le_length (by omega)]
set_option maxRecDepth 100000 in
set_option maxHeartbeats 4000000 in
theorem cutText_any (s : ByteArray) (w : World) (h0 : 0 < s.size) (hs : s.size ≤ 281474976710656) :
 Calls Tryz.prog 242 #[.string s] w (Gives (prv (ctx s.data.toList)) w) := by
 obtain ⟨i0, hi0, hz0, hz1, hz2⟩ := info_parts info8
 have HI := Lib.hid hi0; have HZ0 := Lib.hid hz0; have HZ1 := Lib.hid hz1; have HZ2 := Lib.hid hz2
 clear hi0 hz0 hz1 hz2
 go_enter Tryz.func242, Tryz.ntmps242
 go_wp2_with (fail)
 have KB := Lib.hid (box1 w (.cells #[.int .i64 0, .int .i64 0, .string ⟨#[]⟩, .int .i64 0, .int .i64 0] 45))
 have R := Blk.made w 45 (vcs 0 0 ⟨#[]⟩ 0 0) rfl
 change Blk (w.alloc (.cells #[.int .i64 0, .int .i64 0, .string ⟨#[]⟩, .int .i64 0, .int .i64 0] 45)) w.heap.size _ at R
 have HR := Lib.hid R; clear R
 generalize w.alloc (.cells #[.int .i64 0, .int .i64 0, .string ⟨#[]⟩, .int .i64 0, .int .i64 0] 45) = w0 at *
 go_loopw [5, 6] (fun L at_ wr => RelX s w0 L at_ wr) (fun _ at_ _ => s.size - (intOf at_).toNat)
 case atStart => exact ⟨1, [], Nat.le_refl _, h0, rfl, by rw [List.drop_one]; exact (pre_nil (ct_norm _)).symm, World.ownsRow_nil _ _ _ _, Below.refl _ _⟩
 case round =>
  obtain ⟨k, A, hk1, hk, rfl, hct, ho, hb⟩ := hrel
  obtain ⟨a, c, rfl⟩ := own_shape ho
  have HC := Lib.hid hct; have HO := Lib.hid ho; have HB := Lib.hid hb
  have R1 := HR.out.next hb
  clear hct ho hb
  have hB0 : w0.heap.size ≤ wr.heap.size := HB.out.size
  by_cases hlt : k < s.size
  · have HD := Lib.hid (drop_at hlt)
    obtain ⟨q, hq⟩ : ∃ q : UInt8, s[k] = q := ⟨_, rfl⟩
    rw [hq] at HD
    by_cases h34 : q = 34
    · subst h34
      have HE1 : Hid (ctx s.data.toList = if 4096 < A.length then (vz, 0, 3) else (⟨1, 0, A, 0, 0⟩, k + 1, 0)) := by
       show _ = _
       rw [ctx_of HC.out, HD.out, ct_quote, if_neg (fun h => h rfl)]
       dsimp only
       rw [List.append_nil, show k - 1 + 1 + 1 = k + 1 by omega]
      have hlen : (A.take 4097).length = min 4097 A.length := List.length_take
      rw [hlen] at HO ⊢
      clear hlen
      by_cases hA : 4096 < A.length
      · have HE := Lib.hid (HE1.out.trans (if_pos hA))
        have hm : min 4097 A.length = 4097 := by omega
        rw [hm] at HO ⊢
        clear hm hA HE1
        have r0 := R1.v0; have r1 := R1.v1; have r2 := R1.v2; have r3 := R1.v3; have r4 := R1.v4
        have f0 := R1.g0; have f1 := R1.g1; have f2 := R1.g2; have f3 := R1.g3; have f4 := R1.g4
        have RH := Lib.hid (fun a0 a1 a2 a3 a4 => R1.all5 a0 a1 a2 a3 a4)
        clear R1
        go_wp2_with (fail)
        have RF := RH.out (.int .i64 0) (.int .i64 0) (.string ⟨#[]⟩) (.int .i64 0) (.int .i64 0)
        have c0 := RF.c 0 _ rfl; have c1 := RF.c 1 _ rfl; have c2 := RF.c 2 _ rfl; have c3 := RF.c 3 _ rfl; have c4 := RF.c 4 _ rfl
        clear RF
        rw [HE.out]
        refine bodyPost_ret (v := prv (vz, 0, 3)) (by simp [results, Tryz.results242, go_sem, c0, c1, c2, c3, c4]; rfl) rfl ⟨rfl, ?_⟩
        exact below_all5 (Below.next KB.out HB.out) (Nat.le_refl _) _ _ _ _ _
      · have HE := Lib.hid (HE1.out.trans (if_neg hA))
        have hm : min 4097 A.length = A.length := by omega
        have ht : A.take 4097 = A := List.take_of_length_le (by omega)
        rw [hm] at HO ⊢
        rw [ht] at HO
        have hcv := run_own_text rfl HO.out ⟨wr, Below.refl _ _⟩
        have hn : ¬ (4096 : Int) < (A.length : Int) := by omega
        have hn2 : ¬ 4096 < A.length := hA
        clear hm hA ht HE1
        go_wp2_with (fail)
        refine (text_any (tx A) _).mono ?_
        rintro e w1 ⟨rfl, hb⟩
        have HB1 := Lib.hid (Below.next KB.out (Below.next HB.out hb))
        have R2 := R1.next hb
        clear hb R1 hcv
        have r0 := R2.v0; have r1 := R2.v1; have r2 := R2.v2; have r3 := R2.v3; have r4 := R2.v4
        have f0 := R2.g0; have f1 := R2.g1; have f2 := R2.g2; have f3 := R2.g3; have f4 := R2.g4
        have RH := Lib.hid (fun a0 a1 a2 a3 a4 => R2.all5 a0 a1 a2 a3 a4)
        clear R2
        go_wp2_with (fail)
        have RF := RH.out (.int .i64 1) (.int .i64 0) (.string (tx A)) (.int .i64 0) (.int .i64 0)
        have c0 := RF.c 0 _ rfl; have c1 := RF.c 1 _ rfl; have c2 := RF.c 2 _ rfl; have c3 := RF.c 3 _ rfl; have c4 := RF.c 4 _ rfl
        clear RF
        rw [HE.out]
        refine bodyPost_ret (v := prv (⟨1, 0, A, 0, 0⟩, k + 1, 0)) (by simp [results, Tryz.results242, go_sem, c0, c1, c2, c3, c4]; rfl) rfl ⟨rfl, ?_⟩
        exact below_all5 (HB1.out) (Nat.le_refl _) _ _ _ _ _
    · have g34 : ((q.toNat : Int) == 34) = false := by
       rw [beq_eq_false_iff_ne]
       intro e
       exact h34 (UInt8.toNat_inj.1 (show q.toNat = 34 by omega))
      have hh : (s.data.toList.drop k).head? ≠ some 34 := by rw [HD.out]; exact fun e => h34 (Option.some.inj e)
      have hne : s.data.toList.drop k ≠ [] := by rw [HD.out]; simp
      have HY := Lib.hid (cutByte_any (s.extract k s.size))
      have hz2 := ext_size s k
      rw [ext_list] at HY
      clear HD h34
      rcases cb_cases (s.data.toList.drop k) with ⟨d, z, e, hz, hz3⟩ | ⟨m, e, hm, _⟩
      · rw [e] at HY
        have HC1 : Hid (ct s.data.toList.tail = pre (A ++ [d]) (k + z - 1) (ct (s.data.toList.drop (k + z)))) := by
         show _ = _
         rw [HC.out, ct_step hh e hz, pre_pre, List.drop_drop, show k - 1 + z = k + z - 1 by omega]
        have hkz : k + z ≤ s.size := by
         rw [List.length_drop] at hz3
         have : s.data.toList.length = s.size := by simp
         omega
        clear e hh hne hz3 HC
        by_cases hA : A.length ≤ 4096
        · have ht : A.take 4097 = A := List.take_of_length_le (by omega)
          rw [ht] at HO ⊢
          have hn : (A.length : Int) ≤ 4096 := by omega
          clear ht
          go_wp2_with (fail)
          refine (HY.out _ (by omega) (by omega)).mono ?_
          rintro e w' ⟨rfl, rfl⟩
          unfold cbv
          go_wp2_with (at_builtin; refine wpList_append_own _ rfl _ _ 59 rfl w0.heap.size 5 i0 (.int .u8 0) 1 1 Tryz.underlying59 HI.out HZ0.out HZ1.out HZ2.out rfl (by decide) _ _ _ rfl (HO.out.alloc _) ⟨wr.heap.size, 0, none⟩ 1 1 [.int .u8 (d.toNat : Int)] rfl rfl (one_news wr _ _) (one_one rfl) ?c3 ?c4 ?c5 ?_)
          case c3 => unfold maxLen; omega
          case c4 => omega
          case c5 => exact Nat.le_trans hB0 (by simp)
          intro v' w1 hown' hgrow _
          have HN : Hid (w1.ownsRow w0.heap.size 5 1 v' ((A ++ [d]).take 4097).length (vals ((A ++ [d]).take 4097))) := by
           show World.ownsRow _ _ _ _ _ _ _
           rw [← take_add d hA, List.take_of_length_le (show A.length ≤ 4097 by omega), vals_snoc, List.length_append]; exact hown'
          have HB1 : Hid (Below w0.heap.size w0 w1) := (HB.out.alloc HB.out.size _).grown hgrow (Nat.le_trans hB0 (by simp)) (fun g e => (HO.out.lt g e).1)
          clear hown' hgrow
          go_wp2
          go_roundw
          case rel => exact ⟨k + z, A ++ [d], by omega, hkz, by go_num, HC1.out, HN.out, HB1.out⟩
          case measure => simp [intOf]; omega
        · have hlen : (A.take 4097).length = 4097 := by rw [List.length_take]; omega
          have HO2 : Hid (wr.ownsRow w0.heap.size 5 1 (.slice a 4097 c) ((A ++ [d]).take 4097).length (vals ((A ++ [d]).take 4097))) := by
           show World.ownsRow _ _ _ _ _ _ _
           have := HO.out
           rw [take_full d hA] at this
           rw [take_full d hA] at hlen
           rw [hlen] at this ⊢; exact this
          rw [hlen] at HO ⊢
          clear hlen
          go_wp2_with (fail)
          refine (HY.out _ (by omega) (by omega)).mono ?_
          rintro e w' ⟨rfl, rfl⟩
          unfold cbv
          go_wp2_with (fail)
          go_roundw
          case rel => exact ⟨k + z, A ++ [d], by omega, hkz, by go_num, HC1.out, HO2.out, HB.out⟩
          case measure => simp [intOf]; omega
      · rw [e] at HY
        have HE : Hid (ctx s.data.toList = (vz, 0, m)) := by
         show _ = _
         rw [ctx_of HC.out, ct_bad hne hh e hm]
         exact if_pos (by show m ≠ 0; omega)
        have g0 : ((m : Int) != 0) = true := by rw [bne_iff_ne]; omega
        clear e hh hne HC
        have r0 := R1.v0; have r1 := R1.v1; have r2 := R1.v2; have r3 := R1.v3; have r4 := R1.v4
        have f0 := R1.g0; have f1 := R1.g1; have f2 := R1.g2; have f3 := R1.g3; have f4 := R1.g4
        have RH := Lib.hid (fun a0 a1 a2 a3 a4 => R1.all5 a0 a1 a2 a3 a4)
        clear R1
        go_wp2_with (fail)
        refine (HY.out _ (by omega) (by omega)).mono ?_
        rintro e w' ⟨rfl, rfl⟩
        unfold cbv
        go_wp2_with (fail)
        have RF := RH.out (.int .i64 0) (.int .i64 0) (.string ⟨#[]⟩) (.int .i64 0) (.int .i64 0)
        have c0 := RF.c 0 _ rfl; have c1 := RF.c 1 _ rfl; have c2 := RF.c 2 _ rfl; have c3 := RF.c 3 _ rfl; have c4 := RF.c 4 _ rfl
        clear RF
        rw [HE.out]
        refine bodyPost_ret (v := prv (vz, 0, m)) (by simp [results, Tryz.results242, go_sem, c0, c1, c2, c3, c4]; rfl) rfl ⟨rfl, ?_⟩
        exact below_all5 (Below.next KB.out HB.out) (Nat.le_refl _) _ _ _ _ _
  · have HE : Hid (ctx s.data.toList = (vz, 0, 2)) := by
     show _ = _
     rw [ctx_of HC.out, List.drop_of_length_le (by simp; omega), ct_nil]
     exact if_pos (by decide)
    clear HC
    have r0 := R1.v0; have r1 := R1.v1; have r2 := R1.v2; have r3 := R1.v3; have r4 := R1.v4
    have f0 := R1.g0; have f1 := R1.g1; have f2 := R1.g2; have f3 := R1.g3; have f4 := R1.g4
    have RH := Lib.hid (fun a0 a1 a2 a3 a4 => R1.all5 a0 a1 a2 a3 a4)
    clear R1
    go_wp2_with (fail)
    have RF := RH.out (.int .i64 0) (.int .i64 0) (.string ⟨#[]⟩) (.int .i64 0) (.int .i64 0)
    have c0 := RF.c 0 _ rfl; have c1 := RF.c 1 _ rfl; have c2 := RF.c 2 _ rfl; have c3 := RF.c 3 _ rfl; have c4 := RF.c 4 _ rfl
    clear RF
    rw [HE.out]
    refine bodyPost_ret (v := prv (vz, 0, 2)) (by simp [results, Tryz.results242, go_sem, c0, c1, c2, c3, c4]; rfl) rfl ⟨rfl, ?_⟩
    exact below_all5 (Below.next KB.out HB.out) (Nat.le_refl _) _ _ _ _ _
theorem prv_box {w : World} {b : Nat} (h : Blk w b (vcs 0 0 ⟨#[]⟩ 0 0)) (v : Va) : Blk (((((w.setCell ⟨b, 0, none⟩ (.int .i64 v.k)).setCell ⟨b, 1, none⟩ (.int .i64 v.n)).setCell ⟨b, 2, none⟩ (.string (tx v.s))).setCell ⟨b, 3, none⟩ (.int .i64 v.x)).setCell ⟨b, 4, none⟩ (.int .i64 v.y)) b [.int .i64 v.k, .int .i64 v.n, .string (tx v.s), .int .i64 v.x, .int .i64 v.y] := h.all5 _ _ _ _ _
set_option maxHeartbeats 2000000 in
theorem parse_any (s : ByteArray) (w : World) (hs : s.size ≤ 281474976710656) :
 Calls Tryz.prog 213 #[.string s] w (Gives (prv (pz s.data.toList)) w) := by
 by_cases hz : s.size = 0
 · have h1 := empty_of hz
   have h1' : s.toList.isEmpty = true := by rw [h1]; rfl
   have HE : Hid (pz s.data.toList = (vz, 0, 10)) := by
    show _ = _
    rw [← ByteArray.toList_eq, h1]; unfold pz; simp
   go_enter Tryz.func213, Tryz.ntmps213
   go_wp2_with (fail)
   rw [HE.out]
   refine bodyPost_ret (v := prv (vz, 0, 10)) (by simp [results, Tryz.results213, go_sem]; rfl) rfl ⟨rfl, ?_⟩
   exact box1 w _
 · have h1 := full_of hz
   have h1' : s.toList.isEmpty = false := by simpa using h1
   have h3 : 0 < s.size := by omega
   have HH := Lib.hid (head_at h3)
   obtain ⟨c, hc⟩ : ∃ c : UInt8, s[0]'h3 = c := ⟨_, rfl⟩
   rw [hc] at HH
   have HP : Hid (pz s.data.toList = if c = 34 then ctx s.data.toList else if c = 45 ∨ dg c = true then cnum s.data.toList else (vz, 0, 10)) := by
    show _ = _
    unfold pz; rw [HH.out]; simp
   by_cases h34 : c = 34
   · subst h34
     have HE := Lib.hid (HP.out.trans (if_pos rfl))
     have HC := Lib.hid (cutText_any s)
     clear HP HH hz
     rw [HE.out]
     generalize ctx s.data.toList = r at *
     obtain ⟨v, z, k⟩ := r
     go_enter Tryz.func213, Tryz.ntmps213
     go_wp2_with (fail)
     have KB := Lib.hid (box1 w (.cells #[.int .i64 0, .int .i64 0, .string ⟨#[]⟩, .int .i64 0, .int .i64 0] 45))
     have R := Blk.made w 45 (vcs 0 0 ⟨#[]⟩ 0 0) rfl
     change Blk (w.alloc (.cells #[.int .i64 0, .int .i64 0, .string ⟨#[]⟩, .int .i64 0, .int .i64 0] 45)) w.heap.size _ at R
     generalize w.alloc (.cells #[.int .i64 0, .int .i64 0, .string ⟨#[]⟩, .int .i64 0, .int .i64 0] 45) = w0 at *
     refine (HC.out _ h3 hs).mono ?_
     rintro e w1 ⟨rfl, hb⟩
     have HB1 := Lib.hid (Below.next KB.out hb)
     have R1 := R.next hb
     clear hb R KB
     unfold prv vv
     have r0 := R1.v0; have r1 := R1.v1; have r2 := R1.v2; have r3 := R1.v3; have r4 := R1.v4
     have f0 := R1.g0; have f1 := R1.g1; have f2 := R1.g2; have f3 := R1.g3; have f4 := R1.g4
     have RH := Lib.hid (prv_box R1 v)
     clear R1
     go_wp2_with (fail)
     have RF := RH.out
     have c0 := RF.c 0 _ rfl; have c1 := RF.c 1 _ rfl; have c2 := RF.c 2 _ rfl; have c3 := RF.c 3 _ rfl; have c4 := RF.c 4 _ rfl
     clear RF
     refine bodyPost_ret (v := .tuple #[.agg #[.int .i64 v.k, .int .i64 v.n, .string (tx v.s), .int .i64 v.x, .int .i64 v.y], .int .i64 (z : Int), .int .i64 (k : Int)]) (by simp [results, Tryz.results213, go_sem, c0, c1, c2, c3, c4]) rfl ⟨rfl, ?_⟩
     exact below_all5 HB1.out (Nat.le_refl _) _ _ _ _ _
   · have g34 : ((c.toNat : Int) == 34) = false := by
      rw [beq_eq_false_iff_ne]
      intro e
      exact h34 (UInt8.toNat_inj.1 (show c.toNat = 34 by omega))
     have HE1 := Lib.hid (HP.out.trans (if_neg h34))
     have HC := Lib.hid (cutNumbers_any s)
     have HG := Lib.hid (isDigit_any c)
     clear HP HH hz h34
     by_cases h45 : c = 45
     · subst h45
       have HE := Lib.hid (HE1.out.trans (if_pos (.inl rfl)))
       clear HE1 HG
       rw [HE.out]
       generalize cnum s.data.toList = r at *
       obtain ⟨v, z, k⟩ := r
       go_enter Tryz.func213, Tryz.ntmps213
       go_wp2_with (fail)
       have KB := Lib.hid (box1 w (.cells #[.int .i64 0, .int .i64 0, .string ⟨#[]⟩, .int .i64 0, .int .i64 0] 45))
       have R := Blk.made w 45 (vcs 0 0 ⟨#[]⟩ 0 0) rfl
       change Blk (w.alloc (.cells #[.int .i64 0, .int .i64 0, .string ⟨#[]⟩, .int .i64 0, .int .i64 0] 45)) w.heap.size _ at R
       generalize w.alloc (.cells #[.int .i64 0, .int .i64 0, .string ⟨#[]⟩, .int .i64 0, .int .i64 0] 45) = w0 at *
       refine (HC.out _ hs).mono ?_
       rintro e w1 ⟨rfl, hb⟩
       have HB1 := Lib.hid (Below.next KB.out hb)
       have R1 := R.next hb
       clear hb R KB
       unfold prv vv
       have r0 := R1.v0; have r1 := R1.v1; have r2 := R1.v2; have r3 := R1.v3; have r4 := R1.v4
       have f0 := R1.g0; have f1 := R1.g1; have f2 := R1.g2; have f3 := R1.g3; have f4 := R1.g4
       have RH := Lib.hid (prv_box R1 v)
       clear R1
       go_wp2_with (fail)
       have RF := RH.out
       have c0 := RF.c 0 _ rfl; have c1 := RF.c 1 _ rfl; have c2 := RF.c 2 _ rfl; have c3 := RF.c 3 _ rfl; have c4 := RF.c 4 _ rfl
       clear RF
       refine bodyPost_ret (v := .tuple #[.agg #[.int .i64 v.k, .int .i64 v.n, .string (tx v.s), .int .i64 v.x, .int .i64 v.y], .int .i64 (z : Int), .int .i64 (k : Int)]) (by simp [results, Tryz.results213, go_sem, c0, c1, c2, c3, c4]) rfl ⟨rfl, ?_⟩
       exact below_all5 HB1.out (Nat.le_refl _) _ _ _ _ _
     · have g45 : ((c.toNat : Int) == 45) = false := by
        rw [beq_eq_false_iff_ne]
        intro e
        exact h45 (UInt8.toNat_inj.1 (show c.toNat = 45 by omega))
       rcases Bool.eq_false_or_eq_true (dg c) with hd | hd
       · have HE := Lib.hid (HE1.out.trans (if_pos (.inr hd)))
         rw [hd] at HG
         clear HE1 h45 hd
         rw [HE.out]
         generalize cnum s.data.toList = r at *
         obtain ⟨v, z, k⟩ := r
         go_enter Tryz.func213, Tryz.ntmps213
         go_wp2_with (fail)
         have KB := Lib.hid (box1 w (.cells #[.int .i64 0, .int .i64 0, .string ⟨#[]⟩, .int .i64 0, .int .i64 0] 45))
         have R := Blk.made w 45 (vcs 0 0 ⟨#[]⟩ 0 0) rfl
         change Blk (w.alloc (.cells #[.int .i64 0, .int .i64 0, .string ⟨#[]⟩, .int .i64 0, .int .i64 0] 45)) w.heap.size _ at R
         generalize w.alloc (.cells #[.int .i64 0, .int .i64 0, .string ⟨#[]⟩, .int .i64 0, .int .i64 0] 45) = w0 at *
         refine (HG.out _).mono ?_
         rintro e w' ⟨rfl, rfl⟩
         go_wp2_with (fail)
         refine (HC.out _ hs).mono ?_
         rintro e w1 ⟨rfl, hb⟩
         have HB1 := Lib.hid (Below.next KB.out hb)
         have R1 := R.next hb
         clear hb R KB
         unfold prv vv
         have r0 := R1.v0; have r1 := R1.v1; have r2 := R1.v2; have r3 := R1.v3; have r4 := R1.v4
         have f0 := R1.g0; have f1 := R1.g1; have f2 := R1.g2; have f3 := R1.g3; have f4 := R1.g4
         have RH := Lib.hid (prv_box R1 v)
         clear R1
         go_wp2_with (fail)
         have RF := RH.out
         have c0 := RF.c 0 _ rfl; have c1 := RF.c 1 _ rfl; have c2 := RF.c 2 _ rfl; have c3 := RF.c 3 _ rfl; have c4 := RF.c 4 _ rfl
         clear RF
         refine bodyPost_ret (v := .tuple #[.agg #[.int .i64 v.k, .int .i64 v.n, .string (tx v.s), .int .i64 v.x, .int .i64 v.y], .int .i64 (z : Int), .int .i64 (k : Int)]) (by simp [results, Tryz.results213, go_sem, c0, c1, c2, c3, c4]) rfl ⟨rfl, ?_⟩
         exact below_all5 HB1.out (Nat.le_refl _) _ _ _ _ _
       · have HE := Lib.hid (HE1.out.trans (if_neg (by rintro (h | h); exact h45 h; rw [hd] at h; cases h)))
         rw [hd] at HG
         clear HE1 h45 hd
         rw [HE.out]
         go_enter Tryz.func213, Tryz.ntmps213
         go_wp2_with (fail)
         refine (HG.out _).mono ?_
         rintro e w' ⟨rfl, rfl⟩
         go_wp2_with (fail)
         refine bodyPost_ret (v := prv (vz, 0, 10)) (by simp [results, Tryz.results213, go_sem]; rfl) rfl ⟨rfl, ?_⟩
         exact box1 w _
end Go.Proofs.YtimllihegnokeaaGreatDoor.Va
namespace Go.Proofs.YtimllihegnokeaaGreatDoor.Ex
open Go.ChangeShapes Go.WideShapes Go.ChangeAt Go.RowKit Ov Va
theorem drop_end {s : ByteArray} {k : Nat} (h : ¬ k < s.size) : s.data.toList.drop k = [] := List.drop_of_length_le (by simp; omega)
set_option maxHeartbeats 1000000 in
theorem blanks_any (s : ByteArray) (w : World) (hs : s.size ≤ 281474976710656) : Calls Tryz.prog 181 #[.string s] w fun e w' => e = .returned (.int .i64 ((bl s.data.toList : Nat) : Int)) ∧ w = w' := by
 go_enter Tryz.func181, Tryz.ntmps181
 go_wp2_with (fail)
 go_loop [3] (fun i => ∃ k : Nat, k ≤ s.size ∧ i = .int .i64 (k : Int) ∧ bl s.data.toList = k + bl (s.data.toList.drop k)) (fun i => s.size - (intOf i).toNat)
 case atStart => exact ⟨0, Nat.zero_le _, rfl, by rw [List.drop_zero]; omega⟩
 case round =>
  obtain ⟨k, hk, rfl, hb⟩ := hrel
  by_cases hlt : k < s.size
  · have hd := drop_at hlt
    obtain ⟨c, hc⟩ : ∃ c : UInt8, s[k] = c := ⟨_, rfl⟩
    rw [hc] at hd
    by_cases h32 : c = 32
    · subst h32
      rw [hd, bl_blank] at hb
      have HB := Lib.hid hb
      clear hb hd
      go_wp2_with (fail)
      go_round
      case rel => exact ⟨k + 1, by omega, by go_num, by rw [HB.out]; omega⟩
      case measure => simp [intOf]; omega
    · rw [hd, bl_other _ h32] at hb
      have HB := Lib.hid hb
      have g : ((c.toNat : Int) == 32) = false := by
       rw [beq_eq_false_iff_ne]
       intro e
       exact h32 (UInt8.toNat_inj.1 (show c.toNat = 32 by omega))
      clear hb hd h32
      go_wp2_with (fail)
      go_ret
      exact ⟨ret_int (by rw [HB.out]; omega), rfl⟩
  · rw [drop_end hlt] at hb
    have HB := Lib.hid hb
    clear hb
    go_wp2_with (fail)
    go_ret
    exact ⟨ret_int (by rw [HB.out]; show _ = ((k + 0 : Nat) : Int); omega), rfl⟩
theorem shuts_any (s : ByteArray) (w : World) (hs : s.size ≤ 281474976710656) : Calls Tryz.prog 183 #[.string s] w fun e w' => e = .returned (.int .i64 ((sh s.data.toList : Nat) : Int)) ∧ w = w' := by
 by_cases hz : s.size = 0
 · have h1 := empty_of hz
   have h1' : s.toList.isEmpty = true := by rw [h1]; rfl
   have HE : Hid (sh s.data.toList = 2) := by show _ = _; rw [← ByteArray.toList_eq, h1]; rfl
   clear h1 hz
   go_enter Tryz.func183, Tryz.ntmps183
   go_wp2_with (fail)
   go_ret
   exact ⟨ret_int (by rw [HE.out]; rfl), rfl⟩
 · have h1 := full_of hz
   have h1' : s.toList.isEmpty = false := by simpa using h1
   have h3 : 0 < s.size := by omega
   have hd := drop_at h3
   rw [List.drop_zero] at hd
   obtain ⟨c, hc⟩ : ∃ c : UInt8, s[0] = c := ⟨_, rfl⟩
   rw [hc] at hd
   by_cases h41 : c = 41
   · subst h41
     have HE : Hid (sh s.data.toList = 0) := by show _ = _; rw [hd]; rfl
     clear hd h1 hz
     go_enter Tryz.func183, Tryz.ntmps183
     go_wp2_with (fail)
     go_ret
     exact ⟨ret_int (by rw [HE.out]; rfl), rfl⟩
   · have HE : Hid (sh s.data.toList = 12) := by show _ = _; rw [hd]; exact if_neg h41
     have g : ((c.toNat : Int) != 41) = true := by
      rw [bne_iff_ne]
      intro e
      exact h41 (UInt8.toNat_inj.1 (show c.toNat = 41 by omega))
     clear hd h1 hz h41
     go_enter Tryz.func183, Tryz.ntmps183
     go_wp2_with (fail)
     go_ret
     exact ⟨ret_int (by rw [HE.out]; rfl), rfl⟩
set_option maxRecDepth 100000 in
set_option maxHeartbeats 1000000 in
theorem letters_any (s : ByteArray) (w : World) : Calls Tryz.prog 254 #[.string s] w (Gives (.string (tx (fl s.data.toList))) w) := by
 go_enter Tryz.func254, Tryz.ntmps254
 go_wp2_with (fail)
 go_loopw [] (fun w' => ∃ k : Nat, k ≤ s.size ∧ w' = w.iter s k ∧ fl s.data.toList = s.data.toList.take k ++ fl (s.data.toList.drop k)) (fun w' => s.size - w'.iterPos w.heap.size)
 case atStart => exact ⟨0, Nat.zero_le _, rfl, by simp⟩
 case round =>
  obtain ⟨k, hk, rfl, hb⟩ := hrel
  by_cases hlt : k < s.size
  · have hd := drop_at hlt
    by_cases hc : le s[k] = true
    · have hm := of_decide_eq_true hc
      have HB : Hid (fl s.data.toList = s.data.toList.take (k + 1) ++ fl (s.data.toList.drop (k + 1))) := by
       show _ = _
       have e : fl (s[k] :: s.data.toList.drop (k + 1)) = s[k] :: fl (s.data.toList.drop (k + 1)) := by
        show List.takeWhile le _ = _
        rw [List.takeWhile_cons, if_pos hc]; rfl
       rw [hb, hd, e, take_snoc s k hlt, List.append_assoc]; rfl
      have hnx : ∀ ty, (Instr.next (.pointer (some ⟨w.heap.size, 0, none⟩)) true ty).run Tryz.prog (w.iter s k) = _ := fun ty => run_next_ascii w s k ty hlt (by omega)
      generalize s[k].toNat = m at *
      clear hb hd hc
      go_wp2_with (fail)
      go_roundw
      case rel => exact ⟨k + 1, by omega, rfl, HB.out⟩
      case measure => simp; omega
    · have HB : Hid (fl s.data.toList = s.data.toList.take k) := by
       show _ = _
       have e : fl (s[k] :: s.data.toList.drop (k + 1)) = [] := by
        show List.takeWhile le _ = _
        rw [List.takeWhile_cons, if_neg hc]
       rw [hb, hd, e, List.append_nil]
      obtain ⟨r, k', hr, hnx⟩ : ∃ r k' : Nat, (r < 97 ∨ 122 < r) ∧ ∀ ty, (Instr.next (.pointer (some ⟨w.heap.size, 0, none⟩)) true ty).run Tryz.prog (w.iter s k) = .ok (.tuple #[.bool true, .int .i64 (k : Int), .int .i32 (r : Int)]) (w.iter s k') := by
       by_cases ha : s[k].toNat < 128
       · refine ⟨s[k].toNat, k + 1, ?_, fun ty => run_next_ascii w s k ty hlt ha⟩
         have : ¬ (97 ≤ s[k].toNat ∧ s[k].toNat ≤ 122) := fun h => hc (decide_eq_true h)
         omega
       · refine ⟨(Utf8.decode s k).1, _, ?_, fun ty => run_next_any w s k ty hlt⟩
         have := (decode_high s k hlt (by omega)).1
         omega
      clear hb hd hc
      have hbl : Hid (∀ j, Below w.heap.size w (w.iter s j)) := fun j => (Below.refl _ _).alloc (Nat.le_refl _) _
      by_cases h1 : r < 97
      · clear hr
        go_wp2_with (fail)
        go_ret
        exact ⟨ret_str (by rw [HB.out, ext_take]), hbl.out _⟩
      · have h2 : 122 < r := by omega
        clear hr
        go_wp2_with (fail)
        go_ret
        exact ⟨ret_str (by rw [HB.out, ext_take]), hbl.out _⟩
  · have hnx : ∀ ty, (Instr.next (.pointer (some ⟨w.heap.size, 0, none⟩)) true ty).run Tryz.prog (w.iter s k) = _ := fun ty => run_next_end w s k ty hlt
    have HB : Hid (fl s.data.toList = s.data.toList) := by
     show _ = _
     rw [drop_end hlt, List.take_of_length_le (by simp; omega)] at hb
     rw [hb]; simp [fl]
    have hbl : Hid (∀ j, Below w.heap.size w (w.iter s j)) := fun j => (Below.refl _ _).alloc (Nat.le_refl _) _
    clear hb
    go_wp2_with (fail)
    go_ret
    exact ⟨ret_str (by rw [HB.out, tx_of]), hbl.out _⟩
theorem find_some {p : Nat → Bool} {n k : Nat} (hk : k < n) (hp : p k = true) (h : ∀ j, j < k → p j = false) : (List.range n).find? p = some k := by
 rw [List.find?_range_eq_some]
 exact ⟨hp, List.mem_range.2 hk, fun j hj => by rw [h j hj]; rfl⟩
theorem find_none {p : Nat → Bool} {n : Nat} (h : ∀ j, j < n → p j = false) : (List.range n).find? p = none := by
 rw [List.find?_range_eq_none]
 exact fun j hj => by rw [h j hj]; rfl
def fdv : Option Nat → Value
 | some i => .tuple #[.int .i64 (i : Int), .bool true]
 | none => .tuple #[.int .i64 0, .bool false]
theorem tx_beq (a b : List UInt8) : ((tx a).toList == (tx b).toList) = decide (a = b) := by
 rw [ByteArray.toList_eq, ByteArray.toList_eq, tx_list, tx_list, Bool.eq_iff_iff]; simp
set_option maxHeartbeats 1000000 in
theorem kindIs_any (i b : Nat) (hi : i < 30) (word : List UInt8) (w : World) (hk : KM w) (hw : w.cell? ⟨b, 0, none⟩ = some (.string (tx word))) : Calls Tryz.prog 256 #[.int .i64 (i : Int), .pointer (some ⟨b, 0, none⟩)] w (Gives (.bool (isK word i)) w) := by
 have e : isK word i = (decide (2 ≤ (i : Int) ∧ (i : Int) ≤ 29) && decide (wd (i : Int) = word)) := by
  unfold isK
  rw [wd_at hi, Bool.eq_iff_iff]; simp; omega
 rw [e, ← tx_beq]; clear e
 have HP : Hid (Calls Tryz.prog 136 #[.int .i64 (i : Int)] w (Gives (.tuple #[.string (tx (wd (i : Int))), .int .i64 ((pa (i : Int) : Nat) : Int), .bool (decide (2 ≤ (i : Int) ∧ (i : Int) ≤ 29))]) w)) := parts_any (i : Int) w hk
 clear hk
 have hlt := block_lt_of_cell hw
 generalize decide (2 ≤ (i : Int) ∧ (i : Int) ≤ 29) = q at *
 generalize tx (wd (i : Int)) = a at *
 generalize tx word = t at *
 generalize ((pa (i : Int) : Nat) : Int) = p at *
 cases q
 · rw [Bool.false_and]
   go_enter Tryz.func256, Tryz.ntmps256
   go_wp2_with (fail)
   refine HP.out.mono ?_
   rintro e w1 ⟨rfl, hb⟩
   have HB := Lib.hid hb
   clear hb
   go_wp2_with (fail)
   go_ret
   exact ⟨rfl, HB.out⟩
 · rw [Bool.true_and]
   go_enter Tryz.func256, Tryz.ntmps256
   go_wp2_with (fail)
   refine HP.out.mono ?_
   rintro e w1 ⟨rfl, hb⟩
   have HB := Lib.hid hb
   have hw1 : w1.cell? ⟨b, 0, none⟩ = some (.string t) := (hb.cell (p := ⟨b, 0, none⟩) hlt).trans hw
   clear hb hw
   go_wp2_with (fail)
   go_ret
   exact ⟨rfl, HB.out⟩
set_option maxHeartbeats 1000000 in
theorem nameIs_any (i b : Nat) (hi : i < 5) (word : List UInt8) (w : World) (hk : KM w) (hw : w.cell? ⟨b, 0, none⟩ = some (.string (tx word))) : Calls Tryz.prog 257 #[.int .i64 (i : Int), .pointer (some ⟨b, 0, none⟩)] w (Gives (.bool (isN word i)) w) := by
 have e : isN word i = decide (nml[i]! = word) := rfl
 rw [e, ← tx_beq]; clear e
 have c0 := hk.name i hi
 clear hk
 generalize tx nml[i]! = a at *
 generalize tx word = t at *
 go_enter Tryz.func257, Tryz.ntmps257
 go_wp2_with (fail)
 go_quiet (fail)
 go_wp2_with (fail)
 go_ret
 exact ⟨rfl, below_drewN (Below.refl _ _) _⟩
set_option maxRecDepth 100000 in
set_option maxHeartbeats 1000000 in
theorem findKind_any (b : Nat) (word : List UInt8) (w : World) (hk : KM w) (hw : w.cell? ⟨b, 0, none⟩ = some (.string (tx word))) :
 Calls Tryz.prog 255 #[.int .i64 30, .func (.func 256) #[] #[.pointer (some ⟨b, 0, none⟩)]] w (Gives (fdv ((List.range 30).find? (isK word))) w) := by
 have HC : Hid (∀ i : Nat, i < 30 → ∀ wr, Below w.heap.size w wr → Calls Tryz.prog 256 #[.int .i64 (i : Int), .pointer (some ⟨b, 0, none⟩)] wr (Gives (.bool (isK word i)) wr)) := fun i hi wr hb =>
  kindIs_any i b hi word wr (hk.next hb) ((hb.cell (p := ⟨b, 0, none⟩) (block_lt_of_cell hw)).trans hw)
 clear hk hw
 generalize isK word = p at *
 go_enter Tryz.func255, Tryz.ntmps255
 go_wp2_with (fail)
 go_loopw [8] (fun i wr => ∃ k : Nat, k ≤ 30 ∧ i = .int .i64 (k : Int) ∧ Below w.heap.size w wr ∧ ∀ j, j < k → p j = false) (fun i _ => 30 - (intOf i).toNat)
 case atStart => exact ⟨0, Nat.zero_le _, rfl, Below.refl _ _, fun j hj => absurd hj (Nat.not_lt_zero j)⟩
 case round =>
  obtain ⟨k, hk, rfl, hb, hn⟩ := hrel
  have HN := Lib.hid hn
  have HB := Lib.hid hb
  clear hn hb
  by_cases hlt : k < 30
  · have HK := Lib.hid (HC.out k hlt wr HB.out)
    obtain ⟨q, hq⟩ : ∃ q, p k = q := ⟨_, rfl⟩
    rw [hq] at HK
    have HQ := Lib.hid hq
    clear hq
    cases q
    · go_wp2_with (fail)
      refine HK.out.mono ?_
      rintro e w1 ⟨rfl, hb⟩
      have HB1 := Lib.hid (Below.next HB.out hb)
      clear hb
      go_wp2_with (fail)
      go_roundw
      case rel =>
       refine ⟨k + 1, by omega, by go_num, HB1.out, fun j hj => ?_⟩
       rcases Nat.lt_succ_iff_lt_or_eq.1 hj with h | h
       · exact HN.out j h
       · rw [h]; exact HQ.out
      case measure => simp [intOf]; omega
    · have HE : Hid (fdv ((List.range 30).find? p) = .tuple #[.int .i64 (k : Int), .bool true]) := by
       show _ = _
       rw [find_some hlt HQ.out HN.out]; rfl
      go_wp2_with (fail)
      refine HK.out.mono ?_
      rintro e w1 ⟨rfl, hb⟩
      have HB1 := Lib.hid (Below.next HB.out hb)
      clear hb
      go_wp2_with (fail)
      go_ret2
      exact ⟨by rw [HE.out]; rfl, HB1.out⟩
  · have HE : Hid (fdv ((List.range 30).find? p) = .tuple #[.int .i64 0, .bool false]) := by
     show _ = _
     rw [find_none (fun j hj => HN.out j (by omega))]; rfl
    go_wp2_with (fail)
    go_ret2
    exact ⟨by rw [HE.out]; rfl, HB.out⟩
set_option maxRecDepth 100000 in
set_option maxHeartbeats 1000000 in
theorem findName_any (b : Nat) (word : List UInt8) (w : World) (hk : KM w) (hw : w.cell? ⟨b, 0, none⟩ = some (.string (tx word))) :
 Calls Tryz.prog 255 #[.int .i64 5, .func (.func 257) #[] #[.pointer (some ⟨b, 0, none⟩)]] w (Gives (fdv ((List.range 5).find? (isN word))) w) := by
 have HC : Hid (∀ i : Nat, i < 5 → ∀ wr, Below w.heap.size w wr → Calls Tryz.prog 257 #[.int .i64 (i : Int), .pointer (some ⟨b, 0, none⟩)] wr (Gives (.bool (isN word i)) wr)) := fun i hi wr hb =>
  nameIs_any i b hi word wr (hk.next hb) ((hb.cell (p := ⟨b, 0, none⟩) (block_lt_of_cell hw)).trans hw)
 clear hk hw
 generalize isN word = p at *
 go_enter Tryz.func255, Tryz.ntmps255
 go_wp2_with (fail)
 go_loopw [8] (fun i wr => ∃ k : Nat, k ≤ 5 ∧ i = .int .i64 (k : Int) ∧ Below w.heap.size w wr ∧ ∀ j, j < k → p j = false) (fun i _ => 5 - (intOf i).toNat)
 case atStart => exact ⟨0, Nat.zero_le _, rfl, Below.refl _ _, fun j hj => absurd hj (Nat.not_lt_zero j)⟩
 case round =>
  obtain ⟨k, hk, rfl, hb, hn⟩ := hrel
  have HN := Lib.hid hn
  have HB := Lib.hid hb
  clear hn hb
  by_cases hlt : k < 5
  · have HK := Lib.hid (HC.out k hlt wr HB.out)
    obtain ⟨q, hq⟩ : ∃ q, p k = q := ⟨_, rfl⟩
    rw [hq] at HK
    have HQ := Lib.hid hq
    clear hq
    cases q
    · go_wp2_with (fail)
      refine HK.out.mono ?_
      rintro e w1 ⟨rfl, hb⟩
      have HB1 := Lib.hid (Below.next HB.out hb)
      clear hb
      go_wp2_with (fail)
      go_roundw
      case rel =>
       refine ⟨k + 1, by omega, by go_num, HB1.out, fun j hj => ?_⟩
       rcases Nat.lt_succ_iff_lt_or_eq.1 hj with h | h
       · exact HN.out j h
       · rw [h]; exact HQ.out
      case measure => simp [intOf]; omega
    · have HE : Hid (fdv ((List.range 5).find? p) = .tuple #[.int .i64 (k : Int), .bool true]) := by
       show _ = _
       rw [find_some hlt HQ.out HN.out]; rfl
      go_wp2_with (fail)
      refine HK.out.mono ?_
      rintro e w1 ⟨rfl, hb⟩
      have HB1 := Lib.hid (Below.next HB.out hb)
      clear hb
      go_wp2_with (fail)
      go_ret2
      exact ⟨by rw [HE.out]; rfl, HB1.out⟩
  · have HE : Hid (fdv ((List.range 5).find? p) = .tuple #[.int .i64 0, .bool false]) := by
     show _ = _
     rw [find_none (fun j hj => HN.out j (by omega))]; rfl
    go_wp2_with (fail)
    go_ret2
    exact ⟨by rw [HE.out]; rfl, HB.out⟩
end Go.Proofs.YtimllihegnokeaaGreatDoor.Ex
namespace Go.Proofs.YtimllihegnokeaaGreatDoor.Ov
open Go.ChangeShapes Go.WideShapes Go.ChangeAt Go.RowKit
section
variable {w : World} {b : Nat} {vs : List Value}
theorem Blk.all6 (h : Blk w b vs) (hl : vs.length = 6) (a0 a1 a2 a3 a4 a5 : Value) :
 Blk ((((((w.setCell ⟨b, 0, none⟩ a0).setCell ⟨b, 1, none⟩ a1).setCell ⟨b, 2, none⟩ a2).setCell ⟨b, 3, none⟩ a3).setCell ⟨b, 4, none⟩ a4).setCell ⟨b, 5, none⟩ a5) b [a0, a1, a2, a3, a4, a5] := by
 match vs, hl with
 | [_, _, _, _, _, _], _ => exact (((((h.set 0 a0).set 1 a1).set 2 a2).set 3 a3).set 4 a4).set 5 a5
theorem below_all6 {B : Nat} {a : World} (h : Below B a w) (hb : B ≤ b) (a0 a1 a2 a3 a4 a5 : Value) :
 Below B a ((((((w.setCell ⟨b, 0, none⟩ a0).setCell ⟨b, 1, none⟩ a1).setCell ⟨b, 2, none⟩ a2).setCell ⟨b, 3, none⟩ a3).setCell ⟨b, 4, none⟩ a4).setCell ⟨b, 5, none⟩ a5) :=
 (((((h.setCell (p := ⟨b, 0, none⟩) hb a0).setCell (p := ⟨b, 1, none⟩) hb a1).setCell (p := ⟨b, 2, none⟩) hb a2).setCell (p := ⟨b, 3, none⟩) hb a3).setCell (p := ⟨b, 4, none⟩) hb a4).setCell (p := ⟨b, 5, none⟩) hb a5
end
end Go.Proofs.YtimllihegnokeaaGreatDoor.Ov
namespace Go.Proofs.YtimllihegnokeaaGreatDoor.Ex
open Go.ChangeShapes Go.WideShapes Go.ChangeAt Go.RowKit Ov Va
def nov (n : No) : Value := .agg #[.int .i64 n.o, .int .i64 n.v.k, .int .i64 n.v.n, .string (tx n.v.s), .int .i64 n.v.x, .int .i64 n.v.y]
def ncl (n : No) : List Value := [.int .i64 n.o, .int .i64 n.v.k, .int .i64 n.v.n, .string (tx n.v.s), .int .i64 n.v.x, .int .i64 n.v.y]
def cpv (r : No × Nat × Nat) : Value := .tuple #[nov r.1, .int .i64 (r.2.1 : Int), .int .i64 (r.2.2 : Int)]
theorem tail_drop (l : List UInt8) : l.tail = l.drop 1 := List.drop_one.symm
end Go.Proofs.YtimllihegnokeaaGreatDoor.Ex
namespace Go.Proofs.YtimllihegnokeaaGreatDoor.Ex
open Go.ChangeShapes Go.WideShapes Go.ChangeAt Go.RowKit Ov Va
set_option maxRecDepth 100000 in
set_option maxHeartbeats 2000000 in
theorem cutKind_any (s : ByteArray) (h0 : 0 < s.size) (hs : s.size ≤ 281474976710656) (w : World) (hk : KM w) : Calls Tryz.prog 234 #[.string s] w (Gives (cpv (ck s.data.toList)) w) := by
 have HL := Lib.hid (letters_any (s.extract 1 s.size))
 rw [ext_list, ← tail_drop] at HL
 have HK := Lib.hid hk; clear hk
 have HF := Lib.hid (fun b w => findKind_any b (fl s.data.toList.tail) w)
 have HM : Hid (ck s.data.toList = match kf (fl s.data.toList.tail) with | none => (nz, 1, 10) | some i => (⟨(i : Int), vz⟩, 1 + (fl s.data.toList.tail).length, 0)) := rfl
 have hfl := fl_le s.data.toList.tail
 rw [List.length_tail] at hfl
 have hsz : s.data.toList.length = s.size := by simp
 rw [hsz] at hfl
 generalize fl s.data.toList.tail = word at *
 have hz : (tx word).size = word.length := tx_size word
 rw [← hz] at hfl HM
 unfold kf at HM
 generalize (List.range 30).find? (isK word) = f at *
 clear hz hsz
 have h1 : (1 : Int) ≤ (s.size : Int) := by omega
 go_enter Tryz.func234, Tryz.ntmps234
 go_wp2_with (fail)
 have kb := Lib.hid (box1 w (.cells #[.int .i64 0, .int .i64 0, .int .i64 0, .string ⟨#[]⟩, .int .i64 0, .int .i64 0] 118))
 have D := Lib.hid (Blk.made w 118 (ncs 0 0 0 ⟨#[]⟩ 0 0) rfl)
 change Hid (Blk (w.alloc (.cells #[.int .i64 0, .int .i64 0, .int .i64 0, .string ⟨#[]⟩, .int .i64 0, .int .i64 0] 118)) w.heap.size _) at D
 generalize w.alloc (.cells #[.int .i64 0, .int .i64 0, .int .i64 0, .string ⟨#[]⟩, .int .i64 0, .int .i64 0] 118) = v at *
 refine (HL.out _).mono ?_
 rintro e w1 ⟨rfl, hb⟩
 have D1 := Lib.hid (D.out.next hb)
 have HB1 := Lib.hid (Below.next kb.out hb)
 clear hb D kb HL
 go_wp2_with (fail)
 have hb := box1 w1 (.cells #[.string (tx word)] 9)
 have hw : (w1.alloc (.cells #[.string (tx word)] 9)).cell? ⟨w1.heap.size, 0, none⟩ = some (.string (tx word)) := by simp
 generalize w1.alloc (.cells #[.string (tx word)] 9) = v2 at *
 have D2 := Lib.hid (D1.out.next hb)
 have HB2 := Lib.hid (Below.next HB1.out hb)
 have HW2 := Lib.hid hw
 have HNE : Hid (¬ w.heap.size = w1.heap.size) := by
  show ¬ _ = _
  have := D1.out.lt
  omega
 clear hb hw D1 HB1
 generalize w1.heap.size = b5 at *
 refine (HF.out _ _ (HK.out.next HB2.out) HW2.out).mono ?_
 rintro e w3 ⟨rfl, hb⟩
 have D3 := Lib.hid (D2.out.next hb)
 have HB3 := Lib.hid (Below.next HB2.out hb)
 have HW3 := Lib.hid ((hb.cell (p := ⟨b5, 0, none⟩) (block_lt_of_cell HW2.out)).trans HW2.out)
 clear hb D2 HB2 HW2 HF
 cases f with
 | none =>
   have HE : Hid (ck s.data.toList = (nz, 1, 10)) := HM
   clear HM HW3
   unfold fdv
   obtain ⟨r0, r1, r2, r3, r4, r5⟩ := ck6 D3.out
   have f0 := D3.out.f 0 _ rfl; have f1 := D3.out.f 1 _ rfl; have f2 := D3.out.f 2 _ rfl; have f3 := D3.out.f 3 _ rfl; have f4 := D3.out.f 4 _ rfl; have f5 := D3.out.f 5 _ rfl
   have RH := Lib.hid (D3.out.all6 rfl)
   go_wp2_with (fail)
   have RF := RH.out (.int .i64 0) (.int .i64 0) (.int .i64 0) (.string ⟨#[]⟩) (.int .i64 0) (.int .i64 0)
   have c0 := RF.c 0 _ rfl; have c1 := RF.c 1 _ rfl; have c2 := RF.c 2 _ rfl; have c3 := RF.c 3 _ rfl; have c4 := RF.c 4 _ rfl; have c5 := RF.c 5 _ rfl
   clear RF
   rw [HE.out]
   refine bodyPost_ret (v := cpv (nz, 1, 10)) (by simp [results, Tryz.results234, go_sem, c0, c1, c2, c3, c4, c5]; rfl) rfl ⟨rfl, ?_⟩
   exact below_all6 (HB3.out) (Nat.le_refl _) _ _ _ _ _ _
 | some i =>
   have HE : Hid (ck s.data.toList = (⟨(i : Int), vz⟩, 1 + (tx word).size, 0)) := HM
   clear HM
   unfold fdv
   have hw3 := HW3.out
   go_wp2_with (fail)
   have hne : ¬ w.heap.size = b5 := HNE.out
   have hne2 : ¬ b5 = w.heap.size := fun e => HNE.out e.symm
   obtain ⟨r0, r1, r2, r3, r4, r5⟩ := ck6 D3.out
   have f0 := D3.out.f 0 _ rfl; have f1 := D3.out.f 1 _ rfl; have f2 := D3.out.f 2 _ rfl; have f3 := D3.out.f 3 _ rfl; have f4 := D3.out.f 4 _ rfl; have f5 := D3.out.f 5 _ rfl
   have RH := Lib.hid (D3.out.all6 rfl)
   go_region
   go_wp2_with (fail)
   have RF := (RH.out (.int .i64 (i : Int)) (.int .i64 0) (.int .i64 0) (.string ⟨#[]⟩) (.int .i64 0) (.int .i64 0)).drew
   have c0 := RF.c 0 _ rfl; have c1 := RF.c 1 _ rfl; have c2 := RF.c 2 _ rfl; have c3 := RF.c 3 _ rfl; have c4 := RF.c 4 _ rfl; have c5 := RF.c 5 _ rfl
   clear RF
   rw [HE.out]
   refine bodyPost_ret (v := cpv (⟨(i : Int), vz⟩, 1 + (tx word).size, 0)) (by simp [results, Tryz.results234, go_sem, c0, c1, c2, c3, c4, c5]; rfl) rfl ⟨rfl, ?_⟩
   exact below_drewN (below_all6 HB3.out (Nat.le_refl _) _ _ _ _ _ _) 1
set_option maxRecDepth 100000 in
set_option maxHeartbeats 2000000 in
theorem cutName_any (s : ByteArray) (w : World) (hk : KM w) : Calls Tryz.prog 235 #[.string s] w (Gives (cpv (cn s.data.toList)) w) := by
 have HL := Lib.hid (letters_any s)
 have HK := Lib.hid hk; clear hk
 have HF := Lib.hid (fun b w => findName_any b (fl s.data.toList) w)
 have HM : Hid (cn s.data.toList = match nf (fl s.data.toList) with | none => (nz, 0, 10) | some i => (⟨1, nv (i : Int)⟩, (fl s.data.toList).length, 0)) := rfl
 have hfl := fl_le s.data.toList
 have hsz : s.data.toList.length = s.size := by simp
 rw [hsz] at hfl
 generalize fl s.data.toList = word at *
 have hz : (tx word).size = word.length := tx_size word
 rw [← hz] at hfl HM
 unfold nf at HM
 generalize (List.range 5).find? (isN word) = f at *
 clear hz hsz
 go_enter Tryz.func235, Tryz.ntmps235
 go_wp2_with (fail)
 have kb := Lib.hid (box1 w (.cells #[.int .i64 0, .int .i64 0, .int .i64 0, .string ⟨#[]⟩, .int .i64 0, .int .i64 0] 118))
 have D := Lib.hid (Blk.made w 118 (ncs 0 0 0 ⟨#[]⟩ 0 0) rfl)
 change Hid (Blk (w.alloc (.cells #[.int .i64 0, .int .i64 0, .int .i64 0, .string ⟨#[]⟩, .int .i64 0, .int .i64 0] 118)) w.heap.size _) at D
 generalize w.alloc (.cells #[.int .i64 0, .int .i64 0, .int .i64 0, .string ⟨#[]⟩, .int .i64 0, .int .i64 0] 118) = v at *
 refine (HL.out _).mono ?_
 rintro e w1 ⟨rfl, hb⟩
 have D1 := Lib.hid (D.out.next hb)
 have HB1 := Lib.hid (Below.next kb.out hb)
 clear hb D kb HL
 go_wp2_with (fail)
 have hb := box1 w1 (.cells #[.string (tx word)] 9)
 have hw : (w1.alloc (.cells #[.string (tx word)] 9)).cell? ⟨w1.heap.size, 0, none⟩ = some (.string (tx word)) := by simp
 generalize w1.alloc (.cells #[.string (tx word)] 9) = v2 at *
 have D2 := Lib.hid (D1.out.next hb)
 have HB2 := Lib.hid (Below.next HB1.out hb)
 have HW2 := Lib.hid hw
 have HNE : Hid (¬ w.heap.size = w1.heap.size) := by
  show ¬ _ = _
  have := D1.out.lt
  omega
 clear hb hw D1 HB1
 generalize w1.heap.size = b5 at *
 refine (HF.out _ _ (HK.out.next HB2.out) HW2.out).mono ?_
 rintro e w3 ⟨rfl, hb⟩
 have D3 := Lib.hid (D2.out.next hb)
 have HB3 := Lib.hid (Below.next HB2.out hb)
 have HW3 := Lib.hid ((hb.cell (p := ⟨b5, 0, none⟩) (block_lt_of_cell HW2.out)).trans HW2.out)
 clear hb D2 HB2 HW2 HF
 cases f with
 | none =>
   have HE : Hid (cn s.data.toList = (nz, 0, 10)) := HM
   clear HM HW3
   unfold fdv
   obtain ⟨r0, r1, r2, r3, r4, r5⟩ := ck6 D3.out
   have f0 := D3.out.f 0 _ rfl; have f1 := D3.out.f 1 _ rfl; have f2 := D3.out.f 2 _ rfl; have f3 := D3.out.f 3 _ rfl; have f4 := D3.out.f 4 _ rfl; have f5 := D3.out.f 5 _ rfl
   have RH := Lib.hid (D3.out.all6 rfl)
   go_wp2_with (fail)
   have RF := RH.out (.int .i64 0) (.int .i64 0) (.int .i64 0) (.string ⟨#[]⟩) (.int .i64 0) (.int .i64 0)
   have c0 := RF.c 0 _ rfl; have c1 := RF.c 1 _ rfl; have c2 := RF.c 2 _ rfl; have c3 := RF.c 3 _ rfl; have c4 := RF.c 4 _ rfl; have c5 := RF.c 5 _ rfl
   clear RF
   rw [HE.out]
   refine bodyPost_ret (v := cpv (nz, 0, 10)) (by simp [results, Tryz.results235, go_sem, c0, c1, c2, c3, c4, c5]; rfl) rfl ⟨rfl, ?_⟩
   exact below_all6 (HB3.out) (Nat.le_refl _) _ _ _ _ _ _
 | some i =>
   have HE : Hid (cn s.data.toList = (⟨1, nv (i : Int)⟩, (tx word).size, 0)) := HM
   clear HM
   unfold fdv
   have hw3 := HW3.out
   go_wp2_with (fail)
   have hne : ¬ w.heap.size = b5 := HNE.out
   have hne2 : ¬ b5 = w.heap.size := fun e => HNE.out e.symm
   have HN := Lib.hid (nameNumber_any (i : Int))
   go_region_with (refine (HN.out _).mono ?_; rintro e w4 ⟨rfl, hb⟩; have D4 := D3.out.drew.next hb; have HB4 := Lib.hid (Below.next (below_drewN HB3.out 1) hb); have hw4 : w4.cell? ⟨b5, 0, none⟩ = some (.string (tx word)) := (hb.cell (p := ⟨b5, 0, none⟩) (block_lt_of_cell HW3.out)).trans HW3.out; have r0 := D4.c 0 _ rfl; have r1 := D4.c 1 _ rfl; have r2 := D4.c 2 _ rfl; have r3 := D4.c 3 _ rfl; have r4 := D4.c 4 _ rfl; have r5 := D4.c 5 _ rfl; have f0 := D4.f 0 _ rfl; have f1 := D4.f 1 _ rfl; have f2 := D4.f 2 _ rfl; have f3 := D4.f 3 _ rfl; have f4 := D4.f 4 _ rfl; have f5 := D4.f 5 _ rfl; have RH := Lib.hid (D4.all6 rfl))
   all_goals
    go_wp2_with (fail)
    have RF := RH.out (.int .i64 1) (.int .i64 0) (.int .i64 (i : Int)) (.string ⟨#[]⟩) (.int .i64 0) (.int .i64 0)
    have c0 := RF.c 0 _ rfl; have c1 := RF.c 1 _ rfl; have c2 := RF.c 2 _ rfl; have c3 := RF.c 3 _ rfl; have c4 := RF.c 4 _ rfl; have c5 := RF.c 5 _ rfl
    clear RF
    rw [HE.out]
    refine bodyPost_ret (v := cpv (⟨1, nv (i : Int)⟩, (tx word).size, 0)) (by simp [results, Tryz.results235, go_sem, c0, c1, c2, c3, c4, c5]; rfl) rfl ⟨rfl, ?_⟩
    exact below_all6 HB4.out (Nat.le_refl _) _ _ _ _ _ _
end Go.Proofs.YtimllihegnokeaaGreatDoor.Ex
namespace Go.Proofs.YtimllihegnokeaaGreatDoor.Va
open Go.ChangeShapes Go.WideShapes Go.ChangeAt Go.RowKit Ov Tp
end Go.Proofs.YtimllihegnokeaaGreatDoor.Va
namespace Go.Proofs.YtimllihegnokeaaGreatDoor.Ov
open Go.ChangeShapes Go.WideShapes Go.ChangeAt Go.RowKit
theorem Blk.tur {b c : Nat} {w w' : World} {vs : List Value} (h : Blk w c vs) (k : Tur b w w') (hne : c ≠ b) : Blk w' c vs :=
 ⟨fun i v e => (k.cell (p := ⟨c, i, none⟩) hne h.lt).trans (h.c i v e), fun i v e => by
  have hb := k.block c h.lt hne
  have := h.f i v e
  unfold World.frozen? at this ⊢
  rw [hb]; exact this, Nat.lt_of_lt_of_le h.lt k.size⟩
end Go.Proofs.YtimllihegnokeaaGreatDoor.Ov
namespace Go.Proofs.YtimllihegnokeaaGreatDoor.Va
open Go.ChangeShapes Go.WideShapes Go.ChangeAt Go.RowKit Ov Tp
end Go.Proofs.YtimllihegnokeaaGreatDoor.Va
namespace Go.Proofs.YtimllihegnokeaaGreatDoor.Jo
open Go.ChangeShapes Go.WideShapes Go.ChangeAt Go.RowKit Ov Ga Va
theorem made5 (w : World) (t : TypeId) (x0 x1 x2 x3 x4 : Value) : Blk (w.alloc (.cells #[x0, x1, x2, x3, x4] t)) w.heap.size [x0, x1, x2, x3, x4] := Blk.made w t [x0, x1, x2, x3, x4] rfl
theorem sum_eg (w : World) : Calls Tryz.prog 19 #[.string ⟨#[115, 117, 109]⟩, .agg #[.int .i64 0, .int .i64 9007199254740992, .string ⟨#[]⟩, .int .i64 0, .int .i64 0], .agg #[.int .i64 0, .int .i64 0, .string ⟨#[]⟩, .int .i64 0, .int .i64 0]] w
 (Gives (.tuple #[.agg #[.int .i64 0, .int .i64 (-9007199254740992), .string ⟨#[]⟩, .int .i64 0, .int .i64 0], .int .i64 0]) w) := by
 have e : fo wSum ⟨0, 9007199254740992, [], 0, 0⟩ ⟨0, 0, [], 0, 0⟩ = (⟨0, -9007199254740992, [], 0, 0⟩, 0) := by decide +kernel
 have h := fold_any ⟨#[115, 117, 109]⟩ 0 9007199254740992 0 0 0 0 0 0 ⟨#[]⟩ ⟨#[]⟩ w
 change Calls _ _ _ _ (Gives (.tuple #[.agg #[.int .i64 (fo wSum ⟨0, 9007199254740992, [], 0, 0⟩ ⟨0, 0, [], 0, 0⟩).1.k, .int .i64 (fo wSum ⟨0, 9007199254740992, [], 0, 0⟩ ⟨0, 0, [], 0, 0⟩).1.n, .string (tx (fo wSum ⟨0, 9007199254740992, [], 0, 0⟩ ⟨0, 0, [], 0, 0⟩).1.s), .int .i64 (fo wSum ⟨0, 9007199254740992, [], 0, 0⟩ ⟨0, 0, [], 0, 0⟩).1.x, .int .i64 (fo wSum ⟨0, 9007199254740992, [], 0, 0⟩ ⟨0, 0, [], 0, 0⟩).1.y], .int .i64 (fo wSum ⟨0, 9007199254740992, [], 0, 0⟩ ⟨0, 0, [], 0, 0⟩).2]) w) at h
 rw [e] at h
 exact h
theorem gcd_eg (w : World) : Calls Tryz.prog 19 #[.string ⟨#[103, 99, 100]⟩, .agg #[.int .i64 0, .int .i64 (-4), .string ⟨#[]⟩, .int .i64 0, .int .i64 0], .agg #[.int .i64 0, .int .i64 6, .string ⟨#[]⟩, .int .i64 0, .int .i64 0]] w
 (Gives (.tuple #[.agg #[.int .i64 0, .int .i64 2, .string ⟨#[]⟩, .int .i64 0, .int .i64 0], .int .i64 0]) w) := by
 have e : fo wGcd ⟨0, -4, [], 0, 0⟩ ⟨0, 6, [], 0, 0⟩ = (⟨0, 2, [], 0, 0⟩, 0) := by decide +kernel
 have h := fold_any ⟨#[103, 99, 100]⟩ 0 (-4) 0 0 0 6 0 0 ⟨#[]⟩ ⟨#[]⟩ w
 change Calls _ _ _ _ (Gives (.tuple #[.agg #[.int .i64 (fo wGcd ⟨0, -4, [], 0, 0⟩ ⟨0, 6, [], 0, 0⟩).1.k, .int .i64 (fo wGcd ⟨0, -4, [], 0, 0⟩ ⟨0, 6, [], 0, 0⟩).1.n, .string (tx (fo wGcd ⟨0, -4, [], 0, 0⟩ ⟨0, 6, [], 0, 0⟩).1.s), .int .i64 (fo wGcd ⟨0, -4, [], 0, 0⟩ ⟨0, 6, [], 0, 0⟩).1.x, .int .i64 (fo wGcd ⟨0, -4, [], 0, 0⟩ ⟨0, 6, [], 0, 0⟩).1.y], .int .i64 (fo wGcd ⟨0, -4, [], 0, 0⟩ ⟨0, 6, [], 0, 0⟩).2]) w) at h
 rw [e] at h
 exact h
set_option maxHeartbeats 1000000 in
theorem awake_any (w : World) : Calls Tryz.prog 8 #[] w (Gives (.bool true) w) := by
 have HB := Lib.hid (Below.refl w.heap.size w)
 go_enter Tryz.func8, Tryz.ntmps8
 go_wp2_with (fail)
 refine (sum_eg _).mono ?_
 rintro e w1 ⟨rfl, hb⟩
 replace HB := Lib.hid (Below.next HB.out hb)
 clear hb
 have Ha := Lib.hid (made5 w1 45 (.int .i64 0) (.int .i64 (-9007199254740992)) (.string ⟨#[]⟩) (.int .i64 0) (.int .i64 0))
 replace HB := Lib.hid (below_box HB.out (.cells #[.int .i64 0, .int .i64 (-9007199254740992), .string ⟨#[]⟩, .int .i64 0, .int .i64 0] 45))
 go_wp2_with (fail)
 generalize w1.alloc (.cells #[.int .i64 0, .int .i64 (-9007199254740992), .string ⟨#[]⟩, .int .i64 0, .int .i64 0] 45) = v1 at *
 refine (gcd_eg _).mono ?_
 rintro e w2 ⟨rfl, hb⟩
 replace Ha := Lib.hid (Ha.out.next hb)
 replace HB := Lib.hid (Below.next HB.out hb)
 clear hb
 have Hb := Lib.hid (made5 w2 45 (.int .i64 0) (.int .i64 2) (.string ⟨#[]⟩) (.int .i64 0) (.int .i64 0))
 have lab := Ha.out.lt
 replace Ha := Lib.hid (Ha.out.old (.cells #[.int .i64 0, .int .i64 2, .string ⟨#[]⟩, .int .i64 0, .int .i64 0] 45))
 replace HB := Lib.hid (below_box HB.out (.cells #[.int .i64 0, .int .i64 2, .string ⟨#[]⟩, .int .i64 0, .int .i64 0] 45))
 obtain ⟨ca0, ca1, ca2, ca3, ca4⟩ := five Ha.out
 obtain ⟨cb0, cb1, cb2, cb3, cb4⟩ := five Hb.out
 go_wp2_with (fail)
 clear ca0 ca1 ca2 ca3 ca4 cb0 cb1 cb2 cb3 cb4
 go_ret
 exact ⟨rfl, HB.out⟩
end Go.Proofs.YtimllihegnokeaaGreatDoor.Jo

/-
  PairsOnce, walked.
-/
import Derived.Test.YtgakcpcpfkoaiaaPrLaw
namespace Go.Proofs.Ytgakcpcpfkoaiaa.Pr
open Go.ChangeShapes Go.WideShapes Go.ChangeAt Go.RowKit Go.Sort Go.Proofs Go.Proofs.Ytgakcpcpfkoaiaa.Ov Go.Proofs.Ytgakcpcpfkoaiaa.Va Go.Proofs.Ytgakcpcpfkoaiaa.St

def pe (a b : Pr) : Bool := decide (a = b)
set_option maxRecDepth 100000 in
set_option maxHeartbeats 2000000 in
theorem eql_pair (a b : Pr) (w : World) : (binOp .eql 44 (.agg #[.string (tx a.1), .int .i64 a.2.k, .int .i64 a.2.n, .string (tx a.2.s), .int .i64 a.2.x, .int .i64 a.2.y]) (.agg #[.string (tx b.1), .int .i64 b.2.k, .int .i64 b.2.n, .string (tx b.2.s), .int .i64 b.2.x, .int .i64 b.2.y])).run Try.prog w = .ok (.bool (pe a b)) w := by
  obtain ⟨a0, a1, a2, a3, a4, a5⟩ := a
  obtain ⟨b0, b1, b2, b3, b4, b5⟩ := b
  dsimp only
  have e : pe (a0, ⟨a1, a2, a3, a4, a5⟩) (b0, ⟨b1, b2, b3, b4, b5⟩) = (((tx a0).toList == (tx b0).toList) && ((a1 == b1) && ((a2 == b2) && (((tx a3).toList == (tx b3).toList) && ((a4 == b4) && (a5 == b5)))))) := by
    rw [ByteArray.toList_eq, ByteArray.toList_eq, ByteArray.toList_eq, ByteArray.toList_eq, tx_list, tx_list, tx_list, tx_list]; unfold pe
    rw [Bool.eq_iff_iff]; simp
  rw [e]; clear e
  generalize tx a0 = s0
  generalize tx b0 = t0
  generalize tx a3 = s3
  generalize tx b3 = t3
  have u := Try.underlying3
  have hN : Try.prog.underlying 44 = some (.struct (Try.prog.fieldsOf 44)) := by kernel_rfl
  have hS : Try.prog.underlying 42 = some (.struct (Try.prog.fieldsOf 42)) := by kernel_rfl
  have hS2 : Try.prog.underlying 40 = some (.struct (Try.prog.fieldsOf 40)) := by kernel_rfl
  have hp0 : Try.prog.stoodInHeld 44 = false := by kernel_rfl
  have hp : Try.prog.stoodInHeld 42 = false := by kernel_rfl
  have hp2 : Try.prog.stoodInHeld 40 = false := by kernel_rfl
  have hr := fun d xs ys w => run_equalIn_struct (P := Try.prog) w d 42 xs ys hS hp
  have hq := fun d xs ys w => run_equalIn_struct (P := Try.prog) w d 40 xs ys hS2 hp2
  rw [run_eql_struct, show (10000 : Nat) = 9999 + 1 from rfl, run_equalIn_struct w 9999 44 _ _ hN hp0]
  clear hN hS hS2 hp hp0 hp2
  simp only [Program.fieldsOf, Try.underlying44, Try.underlying42, Try.underlying40] at hq hr ⊢
  go_simp
  clear hq hr u
  by_cases h0 : s0.toList = t0.toList <;> by_cases h1 : a1 = b1 <;> by_cases h2 : a2 = b2 <;> by_cases h3 : s3.toList = t3.toList <;> by_cases h4 : a4 = b4 <;> by_cases h5 : a5 = b5 <;> simp [h0, h1, h2, h3, h4, h5]
theorem count_step (l : List Pr) (p : Pr) {i : Nat} (h : i < l.length) : (l.take (i + 1)).count p = (l.take i).count p + (if pe (pd l i) p = true then 1 else 0) := by
  rw [List.take_succ_eq_append_getElem h, List.count_append, pd_at h]
  unfold pe
  by_cases e : l[i] = p
  · simp [e]
  · simp [e]
set_option maxRecDepth 100000 in
set_option maxHeartbeats 4000000 in
theorem once_core (A : Option Addr) (c : Nat) (l : List Pr) (p : Pr) (w : World) (h : PIn w (A, c, l)) :
    Calls Try.prog 7 #[.slice A l.length c, .agg #[.string (tx p.1), .int .i64 p.2.k, .int .i64 p.2.n, .string (tx p.2.s), .int .i64 p.2.x, .int .i64 p.2.y]] w (Gives (.bool true) w) := by
  have HI := Lib.hid h
  have HP := Lib.hid (box6 w 44 (.string (tx p.1)) (.int .i64 p.2.k) (.int .i64 p.2.n) (.string (tx p.2.s)) (.int .i64 p.2.x) (.int .i64 p.2.y))
  have HB := Lib.hid (box1 w (.cells #[.string (tx p.1), .int .i64 p.2.k, .int .i64 p.2.n, .string (tx p.2.s), .int .i64 p.2.x, .int .i64 p.2.y] 44))
  have HE := Lib.hid (fun a w => eql_pair a p w)
  clear h
  go_enter Try.func7, Try.ntmps7
  go_wp2_with (fail)
  generalize w.alloc (.cells #[.string (tx p.1), .int .i64 p.2.k, .int .i64 p.2.n, .string (tx p.2.s), .int .i64 p.2.x, .int .i64 p.2.y] 44) = v0 at *
  refine (awake_any _).mono ?_
  rintro e a1 ⟨rfl, hb⟩
  replace HP := Lib.hid (HP.out.next hb)
  replace HB := Lib.hid (Below.next HB.out hb); clear hb
  have hsm := small_any A c l a1 ((HI.out.next HB.out).1)
  go_wp2_with (fail)
  refine hsm.mono ?_
  rintro e a2 ⟨q, rfl, hb, hq⟩
  replace HP := Lib.hid (HP.out.next hb)
  replace HB := Lib.hid (Below.next HB.out hb); clear hb hsm
  rcases hq with rfl | ⟨rfl, hl, hx⟩
  · go_wp2_with (fail)
    refine (awake_any _).mono ?_
    rintro e u1 ⟨rfl, hb⟩
    replace HB := Lib.hid (Below.next HB.out hb); clear hb
    go_wp2_with (fail)
    go_ret
    exact ⟨rfl, HB.out⟩
  have hso := sort_any A c l a2 (HI.out.next HB.out) (by omega) (fun p hp => by have := hx p hp; omega)
  have HT : Hid (Tx (sr l)) := fun p hp => by have := hx p ((sr_mem l p).1 hp); omega
  clear hx
  go_wp2_with (fail)
  refine hso.mono ?_
  rintro e a3 ⟨A1, c1, rfl, ho, hn, hb⟩
  have HO := Lib.hid (show PIn a3 (A1, c1, sr l) from ⟨ho.prs, hn⟩)
  replace HP := Lib.hid (HP.out.next hb)
  replace HB := Lib.hid (Below.next HB.out hb); clear hb ho hn hso
  rw [sr_len]
  go_wp2_with (fail)
  go_loopg [6, 7, 8] l.length (fun kx s6 s7 s8 wr => ∃ (i n m t : Nat), i ≤ l.length ∧ l.length - i ≤ kx ∧ s6 = .int .i64 n ∧ s7 = .int .i64 m ∧ s8 = .int .i64 i ∧ n ≤ i ∧ m ≤ i ∧ Hid (n = (l.take i).count p) ∧ Hid (m = ((sr l).take i).count p) ∧ wr = a3.drewN t)
  case atStart => exact ⟨0, 0, 0, 0, Nat.zero_le _, by omega, rfl, rfl, rfl, by omega, by omega, Lib.hid (by simp), Lib.hid (by simp), rfl⟩
  case round =>
    obtain ⟨i, n, m, t, hi, hkx, rfl, rfl, rfl, hn, hm, HN, HM, rfl⟩ := hrel
    by_cases hlt : i < l.length
    · have hltz : (i : Int) < (l.length : Int) := by omega
      have hlt2 : i < (sr l).length := by rw [sr_len]; exact hlt
      have h1 : Prs (a3.drewN t) A l := (HI.out.next HB.out).1
      have h2 : Prs (a3.drewN t) A1 (sr l) := HO.out.1
      have h3 := HP.out.next (below_drewN (Below.refl a3.heap.size a3) t)
      obtain ⟨G, O, rfl⟩ := h1.shape (by omega)
      obtain ⟨G', O', rfl⟩ := h2.shape (by omega)
      have a0 := h1.cell hlt 0 _ rfl
      have a1' := h1.cell hlt 1 _ rfl
      have a2' := h1.cell hlt 2 _ rfl
      have a3' := h1.cell hlt 3 _ rfl
      have a4 := h1.cell hlt 4 _ rfl
      have a5 := h1.cell hlt 5 _ rfl
      have b0 := h2.cell hlt2 0 _ rfl
      have b1 := h2.cell hlt2 1 _ rfl
      have b2 := h2.cell hlt2 2 _ rfl
      have b3 := h2.cell hlt2 3 _ rfl
      have b4 := h2.cell hlt2 4 _ rfl
      have b5 := h2.cell hlt2 5 _ rfl
      rw [Nat.add_zero] at a0 b0
      have p0 := h3.c 0 _ rfl
      have p1 := h3.c 1 _ rfl
      have p2 := h3.c 2 _ rfl
      have p3 := h3.c 3 _ rfl
      have p4 := h3.c 4 _ rfl
      have p5 := h3.c 5 _ rfl
      have HS1 := Lib.hid (count_step l p hlt)
      have HS2 := Lib.hid (count_step (sr l) p hlt2)
      have E1 := HE.out (pd l i)
      have E2 := HE.out (pd (sr l) i)
      clear h1 h2 h3 HE
      generalize pe (pd l i) p = B1 at *
      generalize pe (pd (sr l) i) p = B2 at *
      generalize pd l i = x at *
      generalize pd (sr l) i = y at *
      generalize hwo : a3.drewN t = wo at *
      have HWO := Lib.hid hwo; clear hwo
      cases B1 <;> cases B2
      all_goals
        go_wp2_with (fail)
        go_quiet (fail)
        go_wp2_with (fail)
        go_quiet (fail)
        go_wp2_with (fail)
        go_roundg (l.length - (i + 1))
        case measure => omega
      case rel => exact ⟨i + 1, n, m, t + _, by omega, Nat.le_refl _, rfl, rfl, by go_num, by omega, by omega, Lib.hid (by rw [HS1.out, ← HN.out]; rfl), Lib.hid (by rw [HS2.out, ← HM.out]; rfl), by rw [← HWO.out, World.drewN_drewN]⟩
      case rel => exact ⟨i + 1, n, m + 1, t + _, by omega, Nat.le_refl _, rfl, by go_num, by go_num, by omega, by omega, Lib.hid (by rw [HS1.out, ← HN.out]; rfl), Lib.hid (by rw [HS2.out, ← HM.out]; rfl), by rw [← HWO.out, World.drewN_drewN]⟩
      case rel => exact ⟨i + 1, n + 1, m, t + _, by omega, Nat.le_refl _, by go_num, rfl, by go_num, by omega, by omega, Lib.hid (by rw [HS1.out, ← HN.out]; rfl), Lib.hid (by rw [HS2.out, ← HM.out]; rfl), by rw [← HWO.out, World.drewN_drewN]⟩
      case rel => exact ⟨i + 1, n + 1, m + 1, t + _, by omega, Nat.le_refl _, by go_num, by go_num, by go_num, by omega, by omega, Lib.hid (by rw [HS1.out, ← HN.out]; rfl), Lib.hid (by rw [HS2.out, ← HM.out]; rfl), by rw [← HWO.out, World.drewN_drewN]⟩
    · have hltz : ¬ (i : Int) < (l.length : Int) := by omega
      obtain rfl : i = l.length := by omega
      have hnm : n = m := by
        rw [HN.out, HM.out, List.take_length]
        conv => rhs; rw [← sr_len l, List.take_length]
        exact (sr_count l p).symm
      subst hnm
      clear HN HM hn hm HE hkx
      have hb0 := below_drewN (Below.refl a3.heap.size a3) t
      have HO2 := Lib.hid (HO.out.next hb0)
      replace HB := Lib.hid (Below.next HB.out hb0)
      clear hb0 HO
      generalize a3.drewN t = a4 at *
      have hs2 := sort_any A1 c1 (sr l) a4 HO2.out (by rw [sr_len]; omega) HT.out
      rw [sr_sr, sr_len] at hs2
      go_wp2_with (fail)
      refine hs2.mono ?_
      rintro e a5 ⟨A2, c2, rfl, ho, hn, hb⟩
      have HO3 := Lib.hid (show Prs a5 A2 (sr l) from ho.prs)
      have HO4 := Lib.hid ((HO2.out.next hb).1)
      replace HB := Lib.hid (Below.next HB.out hb); clear hb ho hn hs2 HO2
      have hsa := same_pairs (sr l) A2 A1 c2 c1 a5 HO3.out HO4.out (by rw [sr_len]; omega)
      rw [sr_len] at hsa ⊢
      go_wp2_with (fail)
      refine hsa.mono ?_
      rintro e a6 ⟨rfl, hb⟩
      replace HB := Lib.hid (Below.next HB.out hb); clear hb hsa
      go_wp2_with (fail)
      go_ret
      exact ⟨rfl, HB.out⟩
end Go.Proofs.Ytgakcpcpfkoaiaa.Pr

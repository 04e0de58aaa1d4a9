/-
  A text of this claim: DkRooms.
-/
import Derived.Test.YtfcicjehgdfniaaQDkKeeps
import Derived.Test.YtfcicjehgdfniaaQ2
import Derived.Test.YtfcicjehgdfniaaQ1
namespace Go.Proofs.Ytfcicjehgdfniaa.Dk
open Go.ChangeShapes Go.WideShapes Go.ChangeAt Go.RowKit Go.ChangeMaps Go.Maps Go.MapKept Ov
theorem IsD.room {w : World} {O : Nat → Prop} {d sz : Nat} {L : Ls} (h : IsD w O d sz L) : us L ≤ sz := by
 obtain ⟨m, E, h, rfl⟩ := h; exact h.u
theorem wrt_ways (sz : Nat) (n s : List UInt8) (L : Ls) : wrt sz n s L = (1, L) ∨ (wrt sz n s L = (9, L) ∧ sz < us (rm n L) + (n.length + s.length + 16)) ∨ (wrt sz n s L = (0, pt n s L) ∧ us (rm n L) + (n.length + s.length + 16) ≤ sz) := by
 unfold wrt
 split
 · exact .inl rfl
 split
 · rename_i h; exact .inr (.inl ⟨rfl, h⟩)
 · rename_i h; exact .inr (.inr ⟨rfl, by omega⟩)
theorem us_none {n : List UInt8} {L : Ls} (h : Srt L) (hg : gt n L = none) : us L = us (rm n L) := by have := us_rm n h; rw [hg] at this; exact this
theorem us_some {n o : List UInt8} {L : Ls} (h : Srt L) (hg : gt n L = some o) : us L = us (rm n L) + (n.length + o.length + 16) := by have := us_rm n h; rw [hg] at this; exact this
theorem size_tol (a : ByteArray) : a.data.toList.length = a.size := by simp
def Among (nm : Nat → ByteArray) (a b : Nat) (L : Ls) : Prop := ∀ x ∈ L, ∃ j, a ≤ j ∧ j < b ∧ x.1 = (nm j).data.toList
set_option maxHeartbeats 16000000 in
set_option maxRecDepth 100000 in
theorem rooms_core (size : Int) (A B : Option Addr) (c1 c2 k1 k2 : Nat) (nm tl : Nat → ByteArray) (w : World) (hsz : 0 ≤ size ∧ size ≤ 65535) (hA : Strs w A k1 nm) (hB : Strs w B k2 tl) :
 Calls Try.prog 6 #[.int .u16 size, .slice A k1 c1, .slice B k2 c2] w (Gives (.bool true) w) := by
 have HA := Lib.hid hA; have HB := Lib.hid hB
 have HAW := Lib.hid (awake_any w)
 clear hA hB
 obtain ⟨sz, rfl⟩ : ∃ sz : Nat, size = (sz : Int) := ⟨size.toNat, by omega⟩
 have hz : sz ≤ 65535 := by omega
 clear hsz
 by_cases hg0 : 30 < k1 ∨ k2 < k1
 · go_enter Try.func6, Try.ntmps6
   go_wp2_with (fail)
   refine HAW.out.mono ?_
   rintro e w1 ⟨rfl, hb1⟩
   have HB1 := Lib.hid hb1
   clear hb1 HAW
   have HA1 := Lib.hid (awake_any w1)
   by_cases h30 : 30 < k1
   · have t1 : decide ((30 : Int) < (k1 : Int)) = true := decide_eq_true (by omega)
     clear hg0
     go_wp2_with (fail)
     refine HA1.out.mono ?_
     rintro e w2 ⟨rfl, hb⟩
     have HB2 := Lib.hid (Below.next HB1.out hb)
     clear hb
     go_wp2_with (fail)
     go_ret
     exact ⟨rfl, HB2.out⟩
   · have t1 : decide ((30 : Int) < (k1 : Int)) = false := decide_eq_false (by omega)
     have t2 : k2 < k1 := by omega
     clear hg0
     go_wp2_with (fail)
     refine HA1.out.mono ?_
     rintro e w2 ⟨rfl, hb⟩
     have HB2 := Lib.hid (Below.next HB1.out hb)
     clear hb
     go_wp2_with (fail)
     go_ret
     exact ⟨rfl, HB2.out⟩
 have h30 : k1 ≤ 30 := by omega
 have h12 : k1 ≤ k2 := by omega
 have t1 : decide ((30 : Int) < (k1 : Int)) = false := decide_eq_false (by omega)
 have t2 : ¬ k2 < k1 := by omega
 clear hg0
 go_enter Try.func6, Try.ntmps6
 go_wp2_with (fail)
 refine HAW.out.mono ?_
 rintro e w1 ⟨rfl, hb1⟩
 have HB1 := Lib.hid hb1
 have HN := Lib.hid (new_yes sz (by omega) w1)
 clear hb1 HAW
 go_wp2_with (fail)
 refine HN.out.mono ?_
 rintro e w2 ⟨rfl, h2, hb2⟩
 obtain ⟨D, hD⟩ : ∃ D, w1.heap.size + 1 = D := ⟨_, rfl⟩
 rw [hD] at h2 ⊢
 have hM2 : Mine w D sz [] w2 := ⟨_, h2, fun b hb => Nat.le_trans HB1.out.size (nO_lo hb), Below.next HB1.out hb2⟩
 have HM2 := Lib.hid hM2
 clear h2 hb2 hM2 HN hD t1 t2 HB1
 go_wp2_with (fail)
 go_loopg [9] k1 (fun kx s9 wr => ∃ (i : Nat) (L : Ls), i ≤ k1 ∧ k1 - i ≤ kx ∧ s9 = .int .i64 (i : Int) ∧ Hid (Mine w D sz L wr) ∧ Hid (Among nm 0 i L) ∧ Hid (∀ j, j < i → (nm j).size ≤ 100))
 case atStart => exact ⟨0, [], by omega, by omega, rfl, HM2, (fun x hx => by cases hx), fun j hj => absurd hj (Nat.not_lt_zero _)⟩
 case round =>
  clear HM2
  obtain ⟨i, L, hi, hkx, rfl, HM, HAM, HZN⟩ := hrel
  by_cases hlt : i < k1
  · have hltz : (i : Int) < (k1 : Int) := by omega
    have hltz2 : (i : Int) < (k2 : Int) := by omega
    obtain ⟨G, Q, rfl, hcA⟩ := HA.out (by omega)
    obtain ⟨G2, Q2, rfl, hcB⟩ := HB.out (by omega)
    have HCA := Lib.hid (hcA i hlt); have HCB := Lib.hid (hcB i (by omega))
    clear hcA hcB
    obtain ⟨t, ht⟩ : ∃ t, nm i = t := ⟨_, rfl⟩
    obtain ⟨s, hs⟩ : ∃ s, tl i = s := ⟨_, rfl⟩
    rw [ht] at HCA; rw [hs] at HCB
    have HT := Lib.hid ht
    clear ht hs
    have HAT : Hid (∀ W, Below w.heap.size w W → W.cell? ⟨G, Q + i, none⟩ = some (.string t)) := Lib.hid fun W hb => (hb.cell (p := ⟨G, Q + i, none⟩) (block_lt_of_cell HCA.out)).trans HCA.out
    have HBT : Hid (∀ W, Below w.heap.size w W → W.cell? ⟨G2, Q2 + i, none⟩ = some (.string s)) := Lib.hid fun W hb => (hb.cell (p := ⟨G2, Q2 + i, none⟩) (block_lt_of_cell HCB.out)).trans HCB.out
    have a0 := HAT.out wr HM.out.bel; have b0 := HBT.out wr HM.out.bel
    by_cases hbig : 5000 < s.size ∨ 100 < t.size
    · have HBE := Lib.hid HM.out.bel
      by_cases h5 : 5000 < s.size
      · have t5 : decide ((5000 : Int) < (s.size : Int)) = true := decide_eq_true (by omega)
        go_wp2_with (fail)
        go_ret
        exact ⟨rfl, HBE.out⟩
      · have t5 : decide ((5000 : Int) < (s.size : Int)) = false := decide_eq_false (by omega)
        have t6 : decide ((100 : Int) < (t.size : Int)) = true := decide_eq_true (by omega)
        go_wp2_with (fail)
        go_ret
        exact ⟨rfl, HBE.out⟩
    have h5 : s.size ≤ 5000 := by omega
    have h6 : t.size ≤ 100 := by omega
    have t5 : decide ((5000 : Int) < (s.size : Int)) = false := decide_eq_false (by omega)
    have t6 : decide ((100 : Int) < (t.size : Int)) = false := decide_eq_false (by omega)
    clear hbig
    have HZN2 : Hid (∀ j, j < i + 1 → (nm j).size ≤ 100) := Lib.hid fun j hj => by
     by_cases e : j = i
     · subst e; rw [HT.out]; exact h6
     · exact HZN.out j (by omega)
    obtain ⟨OO, hI, hOO, hBO⟩ := HM.out
    have hsrt := hI.srt
    have hroom := hI.room
    have HR := Lib.hid (room_any wr hI)
    obtain ⟨R0, hR0⟩ : ∃ R0, sz - us L = R0 := ⟨_, rfl⟩
    rw [hR0] at HR
    have hR1 : R0 ≤ 65535 := by omega
    have hltz3 : i < k1 := hlt
    have HRD := Lib.hid (fun W (M : Mine w D sz L W) => by obtain ⟨O2, h2, _, _⟩ := M; exact read_any t (by unfold maxLen; omega) W h2)
    have HWR := Lib.hid (fun W (M : Mine w D sz L W) => show Calls Try.prog 10 #[.pointer (some ⟨D, 0, none⟩), .string t, .string s] W (fun e W' => e = .returned (.int .i64 ((wrt sz t.data.toList s.data.toList L).1 : Int)) ∧ Mine w D sz (wrt sz t.data.toList s.data.toList L).2 W') by
     obtain ⟨O2, h2, ho2, hb2⟩ := M
     exact (write_any t s (by omega) W h2).mono fun e W' h => ⟨h.1, Mine.of ho2 hb2 h.2⟩)
    clear hI hOO hBO
    cases hgt : gt t.data.toList L with
    | none =>
      rcases wrt_ways sz t.data.toList s.data.toList L with hw | ⟨hw, hfit⟩ | ⟨hw, hfit⟩
      · skip
        have hus := us_none hsrt hgt
        have hrd := HRD.out
        rw [hgt] at hrd
        change ∀ W, Mine w D sz L W → Calls _ _ _ W (Gives (.tuple #[.string ⟨#[]⟩, .int .i64 8]) W) at hrd
        have HRDD := Lib.hid hrd
        have hwr := HWR.out
        rw [hw] at hwr
        dsimp only at hwr
        have HWRR := Lib.hid hwr
        have t9 : ((R0 : Int) == (R0 : Int)) = true := beq_self_eq_true _
        have HAM2 : Hid (Among nm 0 (i + 1) L) := Lib.hid fun x hx => by obtain ⟨j, h1, h2, h3⟩ := HAM.out x hx; exact ⟨j, h1, by omega, h3⟩
        have HRM2 := Lib.hid (fun W (M : Mine w D sz L W) => show Calls Try.prog 13 #[.pointer (some ⟨D, 0, none⟩)] W (Gives (.int .i64 (R0 : Int)) W) by obtain ⟨O2, h2, _, _⟩ := M; rw [← hR0]; exact room_any W h2)
        clear hrd hwr hw hgt hus hsrt hroom HRD HWR hR0 HAM hlt
        go_wp2_with (fail)
        refine HR.out.mono ?_
        rintro e w3 ⟨rfl, hb3⟩
        have hM3 := HM.out.next hb3
        have a1 := HAT.out w3 hM3.bel
        have HM3 := Lib.hid hM3
        clear hb3 hM3 HM HR a0 b0
        go_wp2_with (fail)
        refine (HRDD.out w3 HM3.out).mono ?_
        rintro e w4 ⟨rfl, hb4⟩
        have hM4 := HM3.out.next hb4
        have HM4 := Lib.hid hM4
        have a4 := HAT.out w4 hM4.bel; have b4 := HBT.out w4 hM4.bel
        clear hb4 hM4 HM3 HRDD a1
        go_upto_region 13 with (fail)
        have a5 := fun q : Over w4 => over_cell q a4
        have b5 := fun q : Over w4 => over_cell q b4
        refine wp_over_tail 9 (by kernel_rfl) (by kernel_rfl) ?_
        simp only [List.take_succ_cons, List.take_zero, List.drop_succ_cons, List.drop_zero]
        repeat (go_big_quiet_step (fail))
        refine wpQuiet_nil ?_
        rintro w5 ⟨⟨w5, hb5⟩, rfl⟩
        have HM5 := Lib.hid (HM4.out.next hb5)
        clear hb5 a4 b4 a5 b5 HM4
        go_wp2_with (fail)
        refine (HWRR.out w5 HM5.out).mono ?_
        rintro e w6 ⟨rfl, hM6⟩
        have a6 := HAT.out w6 hM6.bel; have b6 := HBT.out w6 hM6.bel
        have HM6 := Lib.hid hM6
        clear hM6 HM5 HWRR
        go_wp2_with (fail)
        refine (HRM2.out w6 HM6.out).mono ?_
        rintro e w7 ⟨rfl, hb7⟩
        have HM7 := Lib.hid (HM6.out.next hb7)
        clear hb7 HM6 HRM2 a6 b6
        go_wp2_with (fail)
        go_roundg (k1 - (i + 1))
        case measure => omega
        case rel => exact ⟨i + 1, _, by omega, Nat.le_refl _, by go_num, HM7, HAM2, HZN2⟩
      · skip
        have hus := us_none hsrt hgt
        have hrd := HRD.out
        rw [hgt] at hrd
        change ∀ W, Mine w D sz L W → Calls _ _ _ W (Gives (.tuple #[.string ⟨#[]⟩, .int .i64 8]) W) at hrd
        have HRDD := Lib.hid hrd
        have hwr := HWR.out
        rw [hw] at hwr
        dsimp only at hwr
        have HWRR := Lib.hid hwr
        rw [size_tol, size_tol] at hfit
        have t9 : ((R0 : Int) == (R0 : Int)) = true := beq_self_eq_true _
        have t10 : ¬ (0 : Int) ≤ (R0 : Int) - (s.size : Int) - (t.size : Int) - 16 := by omega
        have t11 : ¬ (16 : Int) ≤ (R0 : Int) - (s.size : Int) - (t.size : Int) := by omega
        have HAM2 : Hid (Among nm 0 (i + 1) L) := Lib.hid fun x hx => by obtain ⟨j, h1, h2, h3⟩ := HAM.out x hx; exact ⟨j, h1, by omega, h3⟩
        have HRM2 := Lib.hid (fun W (M : Mine w D sz L W) => show Calls Try.prog 13 #[.pointer (some ⟨D, 0, none⟩)] W (Gives (.int .i64 (R0 : Int)) W) by obtain ⟨O2, h2, _, _⟩ := M; rw [← hR0]; exact room_any W h2)
        clear hrd hwr hw hgt hus hsrt hroom HRD HWR hR0 HAM hlt hfit
        go_wp2_with (fail)
        refine HR.out.mono ?_
        rintro e w3 ⟨rfl, hb3⟩
        have hM3 := HM.out.next hb3
        have a1 := HAT.out w3 hM3.bel
        have HM3 := Lib.hid hM3
        clear hb3 hM3 HM HR a0 b0
        go_wp2_with (fail)
        refine (HRDD.out w3 HM3.out).mono ?_
        rintro e w4 ⟨rfl, hb4⟩
        have hM4 := HM3.out.next hb4
        have HM4 := Lib.hid hM4
        have a4 := HAT.out w4 hM4.bel; have b4 := HBT.out w4 hM4.bel
        clear hb4 hM4 HM3 HRDD a1
        go_upto_region 13 with (fail)
        have a5 := fun q : Over w4 => over_cell q a4
        have b5 := fun q : Over w4 => over_cell q b4
        refine wp_over_tail 9 (by kernel_rfl) (by kernel_rfl) ?_
        simp only [List.take_succ_cons, List.take_zero, List.drop_succ_cons, List.drop_zero]
        repeat (go_big_quiet_step (fail))
        refine wpQuiet_nil ?_
        rintro w5 ⟨⟨w5, hb5⟩, rfl⟩
        have HM5 := Lib.hid (HM4.out.next hb5)
        clear hb5 a4 b4 a5 b5 HM4
        go_wp2_with (fail)
        refine (HWRR.out w5 HM5.out).mono ?_
        rintro e w6 ⟨rfl, hM6⟩
        have a6 := HAT.out w6 hM6.bel; have b6 := HBT.out w6 hM6.bel
        have HM6 := Lib.hid hM6
        clear hM6 HM5 HWRR
        go_wp2_with (fail)
        refine (HRM2.out w6 HM6.out).mono ?_
        rintro e w7 ⟨rfl, hb7⟩
        have HM7 := Lib.hid (HM6.out.next hb7)
        clear hb7 HM6 HRM2 a6 b6
        go_wp2_with (fail)
        go_roundg (k1 - (i + 1))
        case measure => omega
        case rel => exact ⟨i + 1, _, by omega, Nat.le_refl _, by go_num, HM7, HAM2, HZN2⟩
      · skip
        have hus := us_none hsrt hgt
        have hrd := HRD.out
        rw [hgt] at hrd
        change ∀ W, Mine w D sz L W → Calls _ _ _ W (Gives (.tuple #[.string ⟨#[]⟩, .int .i64 8]) W) at hrd
        have HRDD := Lib.hid hrd
        have hwr := HWR.out
        rw [hw] at hwr
        dsimp only at hwr
        have HWRR := Lib.hid hwr
        have hu2 := us_pt t.data.toList s.data.toList L
        rw [size_tol, size_tol] at hu2 hfit
        obtain ⟨R2, hR2⟩ : ∃ R2, sz - us (pt t.data.toList s.data.toList L) = R2 := ⟨_, rfl⟩
        have t9 : (R2 : Int) = (R0 : Int) - (s.size : Int) - (t.size : Int) - 16 := by omega
        have HAM2 : Hid (Among nm 0 (i + 1) (pt t.data.toList s.data.toList L)) := Lib.hid fun x hx => by
         rcases mem_pt.1 hx with rfl | ⟨hx, _⟩
         · exact ⟨i, by omega, by omega, by rw [HT.out]⟩
         · obtain ⟨j, h1, h2, h3⟩ := HAM.out x hx; exact ⟨j, h1, by omega, h3⟩
        have HRM2 := Lib.hid (fun W (M : Mine w D sz (pt t.data.toList s.data.toList L) W) => show Calls Try.prog 13 #[.pointer (some ⟨D, 0, none⟩)] W (Gives (.int .i64 (R2 : Int)) W) by obtain ⟨O2, h2, _, _⟩ := M; rw [← hR2]; exact room_any W h2)
        clear hrd hwr hw hgt hus hsrt hroom HRD HWR hR0 HAM hlt hu2 hfit hR2
        go_wp2_with (fail)
        refine HR.out.mono ?_
        rintro e w3 ⟨rfl, hb3⟩
        have hM3 := HM.out.next hb3
        have a1 := HAT.out w3 hM3.bel
        have HM3 := Lib.hid hM3
        clear hb3 hM3 HM HR a0 b0
        go_wp2_with (fail)
        refine (HRDD.out w3 HM3.out).mono ?_
        rintro e w4 ⟨rfl, hb4⟩
        have hM4 := HM3.out.next hb4
        have HM4 := Lib.hid hM4
        have a4 := HAT.out w4 hM4.bel; have b4 := HBT.out w4 hM4.bel
        clear hb4 hM4 HM3 HRDD a1
        go_upto_region 13 with (fail)
        have a5 := fun q : Over w4 => over_cell q a4
        have b5 := fun q : Over w4 => over_cell q b4
        refine wp_over_tail 9 (by kernel_rfl) (by kernel_rfl) ?_
        simp only [List.take_succ_cons, List.take_zero, List.drop_succ_cons, List.drop_zero]
        repeat (go_big_quiet_step (fail))
        refine wpQuiet_nil ?_
        rintro w5 ⟨⟨w5, hb5⟩, rfl⟩
        have HM5 := Lib.hid (HM4.out.next hb5)
        clear hb5 a4 b4 a5 b5 HM4
        go_wp2_with (fail)
        refine (HWRR.out w5 HM5.out).mono ?_
        rintro e w6 ⟨rfl, hM6⟩
        have a6 := HAT.out w6 hM6.bel; have b6 := HBT.out w6 hM6.bel
        have HM6 := Lib.hid hM6
        clear hM6 HM5 HWRR
        go_wp2_with (fail)
        refine (HRM2.out w6 HM6.out).mono ?_
        rintro e w7 ⟨rfl, hb7⟩
        have HM7 := Lib.hid (HM6.out.next hb7)
        clear hb7 HM6 HRM2 a6 b6
        go_wp2_with (fail)
        go_roundg (k1 - (i + 1))
        case measure => omega
        case rel => exact ⟨i + 1, _, by omega, Nat.le_refl _, by go_num, HM7, HAM2, HZN2⟩
    | some od =>
      rcases wrt_ways sz t.data.toList s.data.toList L with hw | ⟨hw, hfit⟩ | ⟨hw, hfit⟩
      · skip
        have hus := us_some hsrt hgt
        rw [size_tol] at hus
        have hrd := HRD.out
        rw [hgt] at hrd
        change ∀ W, Mine w D sz L W → Calls _ _ _ W (Gives (.tuple #[.string (tx od), .int .i64 0]) W) at hrd
        obtain ⟨O0, hO0⟩ : ∃ O0, tx od = O0 := ⟨_, rfl⟩
        have hos : O0.size = od.length := by rw [← hO0, tx_size]
        rw [hO0] at hrd
        have hos2 : O0.size ≤ 65535 := by omega
        have HRDD := Lib.hid hrd
        have hwr := HWR.out
        rw [hw] at hwr
        dsimp only at hwr
        have HWRR := Lib.hid hwr
        have t9 : ((R0 : Int) == (R0 : Int)) = true := beq_self_eq_true _
        have HAM2 : Hid (Among nm 0 (i + 1) L) := Lib.hid fun x hx => by obtain ⟨j, h1, h2, h3⟩ := HAM.out x hx; exact ⟨j, h1, by omega, h3⟩
        have HRM2 := Lib.hid (fun W (M : Mine w D sz L W) => show Calls Try.prog 13 #[.pointer (some ⟨D, 0, none⟩)] W (Gives (.int .i64 (R0 : Int)) W) by obtain ⟨O2, h2, _, _⟩ := M; rw [← hR0]; exact room_any W h2)
        clear hrd hwr hw hgt hus hsrt hroom HRD HWR hR0 HAM hlt hO0 hos
        go_wp2_with (fail)
        refine HR.out.mono ?_
        rintro e w3 ⟨rfl, hb3⟩
        have hM3 := HM.out.next hb3
        have a1 := HAT.out w3 hM3.bel
        have HM3 := Lib.hid hM3
        clear hb3 hM3 HM HR a0 b0
        go_wp2_with (fail)
        refine (HRDD.out w3 HM3.out).mono ?_
        rintro e w4 ⟨rfl, hb4⟩
        have hM4 := HM3.out.next hb4
        have HM4 := Lib.hid hM4
        have a4 := HAT.out w4 hM4.bel; have b4 := HBT.out w4 hM4.bel
        clear hb4 hM4 HM3 HRDD a1
        go_upto_region 13 with (fail)
        have a5 := fun q : Over w4 => over_cell q a4
        have b5 := fun q : Over w4 => over_cell q b4
        refine wp_over_tail 9 (by kernel_rfl) (by kernel_rfl) ?_
        simp only [List.take_succ_cons, List.take_zero, List.drop_succ_cons, List.drop_zero]
        repeat (go_big_quiet_step (fail))
        refine wpQuiet_nil ?_
        rintro w5 ⟨⟨w5, hb5⟩, rfl⟩
        have HM5 := Lib.hid (HM4.out.next hb5)
        clear hb5 a4 b4 a5 b5 HM4
        go_wp2_with (fail)
        refine (HWRR.out w5 HM5.out).mono ?_
        rintro e w6 ⟨rfl, hM6⟩
        have a6 := HAT.out w6 hM6.bel; have b6 := HBT.out w6 hM6.bel
        have HM6 := Lib.hid hM6
        clear hM6 HM5 HWRR
        go_wp2_with (fail)
        refine (HRM2.out w6 HM6.out).mono ?_
        rintro e w7 ⟨rfl, hb7⟩
        have HM7 := Lib.hid (HM6.out.next hb7)
        clear hb7 HM6 HRM2 a6 b6
        go_wp2_with (fail)
        go_roundg (k1 - (i + 1))
        case measure => omega
        case rel => exact ⟨i + 1, _, by omega, Nat.le_refl _, by go_num, HM7, HAM2, HZN2⟩
      · skip
        have hus := us_some hsrt hgt
        rw [size_tol] at hus
        have hrd := HRD.out
        rw [hgt] at hrd
        change ∀ W, Mine w D sz L W → Calls _ _ _ W (Gives (.tuple #[.string (tx od), .int .i64 0]) W) at hrd
        obtain ⟨O0, hO0⟩ : ∃ O0, tx od = O0 := ⟨_, rfl⟩
        have hos : O0.size = od.length := by rw [← hO0, tx_size]
        rw [hO0] at hrd
        have hos2 : O0.size ≤ 65535 := by omega
        have HRDD := Lib.hid hrd
        have hwr := HWR.out
        rw [hw] at hwr
        dsimp only at hwr
        have HWRR := Lib.hid hwr
        rw [size_tol, size_tol] at hfit
        have t9 : ((R0 : Int) == (R0 : Int)) = true := beq_self_eq_true _
        have t10 : ¬ (0 : Int) ≤ (R0 : Int) - (s.size : Int) + (O0.size : Int) := by omega
        have HAM2 : Hid (Among nm 0 (i + 1) L) := Lib.hid fun x hx => by obtain ⟨j, h1, h2, h3⟩ := HAM.out x hx; exact ⟨j, h1, by omega, h3⟩
        have HRM2 := Lib.hid (fun W (M : Mine w D sz L W) => show Calls Try.prog 13 #[.pointer (some ⟨D, 0, none⟩)] W (Gives (.int .i64 (R0 : Int)) W) by obtain ⟨O2, h2, _, _⟩ := M; rw [← hR0]; exact room_any W h2)
        clear hrd hwr hw hgt hus hsrt hroom HRD HWR hR0 HAM hlt hfit hO0 hos
        go_wp2_with (fail)
        refine HR.out.mono ?_
        rintro e w3 ⟨rfl, hb3⟩
        have hM3 := HM.out.next hb3
        have a1 := HAT.out w3 hM3.bel
        have HM3 := Lib.hid hM3
        clear hb3 hM3 HM HR a0 b0
        go_wp2_with (fail)
        refine (HRDD.out w3 HM3.out).mono ?_
        rintro e w4 ⟨rfl, hb4⟩
        have hM4 := HM3.out.next hb4
        have HM4 := Lib.hid hM4
        have a4 := HAT.out w4 hM4.bel; have b4 := HBT.out w4 hM4.bel
        clear hb4 hM4 HM3 HRDD a1
        go_upto_region 13 with (fail)
        have a5 := fun q : Over w4 => over_cell q a4
        have b5 := fun q : Over w4 => over_cell q b4
        refine wp_over_tail 9 (by kernel_rfl) (by kernel_rfl) ?_
        simp only [List.take_succ_cons, List.take_zero, List.drop_succ_cons, List.drop_zero]
        repeat (go_big_quiet_step (fail))
        refine wpQuiet_nil ?_
        rintro w5 ⟨⟨w5, hb5⟩, rfl⟩
        have HM5 := Lib.hid (HM4.out.next hb5)
        clear hb5 a4 b4 a5 b5 HM4
        go_wp2_with (fail)
        refine (HWRR.out w5 HM5.out).mono ?_
        rintro e w6 ⟨rfl, hM6⟩
        have a6 := HAT.out w6 hM6.bel; have b6 := HBT.out w6 hM6.bel
        have HM6 := Lib.hid hM6
        clear hM6 HM5 HWRR
        go_wp2_with (fail)
        refine (HRM2.out w6 HM6.out).mono ?_
        rintro e w7 ⟨rfl, hb7⟩
        have HM7 := Lib.hid (HM6.out.next hb7)
        clear hb7 HM6 HRM2 a6 b6
        go_wp2_with (fail)
        go_roundg (k1 - (i + 1))
        case measure => omega
        case rel => exact ⟨i + 1, _, by omega, Nat.le_refl _, by go_num, HM7, HAM2, HZN2⟩
      · skip
        have hus := us_some hsrt hgt
        rw [size_tol] at hus
        have hrd := HRD.out
        rw [hgt] at hrd
        change ∀ W, Mine w D sz L W → Calls _ _ _ W (Gives (.tuple #[.string (tx od), .int .i64 0]) W) at hrd
        obtain ⟨O0, hO0⟩ : ∃ O0, tx od = O0 := ⟨_, rfl⟩
        have hos : O0.size = od.length := by rw [← hO0, tx_size]
        rw [hO0] at hrd
        have hos2 : O0.size ≤ 65535 := by omega
        have HRDD := Lib.hid hrd
        have hwr := HWR.out
        rw [hw] at hwr
        dsimp only at hwr
        have HWRR := Lib.hid hwr
        have hu2 := us_pt t.data.toList s.data.toList L
        rw [size_tol, size_tol] at hu2 hfit
        obtain ⟨R2, hR2⟩ : ∃ R2, sz - us (pt t.data.toList s.data.toList L) = R2 := ⟨_, rfl⟩
        have t9 : (R2 : Int) = (R0 : Int) - (s.size : Int) + (O0.size : Int) := by omega
        have HAM2 : Hid (Among nm 0 (i + 1) (pt t.data.toList s.data.toList L)) := Lib.hid fun x hx => by
         rcases mem_pt.1 hx with rfl | ⟨hx, _⟩
         · exact ⟨i, by omega, by omega, by rw [HT.out]⟩
         · obtain ⟨j, h1, h2, h3⟩ := HAM.out x hx; exact ⟨j, h1, by omega, h3⟩
        have HRM2 := Lib.hid (fun W (M : Mine w D sz (pt t.data.toList s.data.toList L) W) => show Calls Try.prog 13 #[.pointer (some ⟨D, 0, none⟩)] W (Gives (.int .i64 (R2 : Int)) W) by obtain ⟨O2, h2, _, _⟩ := M; rw [← hR2]; exact room_any W h2)
        clear hrd hwr hw hgt hus hsrt hroom HRD HWR hR0 HAM hlt hu2 hfit hR2 hO0 hos
        go_wp2_with (fail)
        refine HR.out.mono ?_
        rintro e w3 ⟨rfl, hb3⟩
        have hM3 := HM.out.next hb3
        have a1 := HAT.out w3 hM3.bel
        have HM3 := Lib.hid hM3
        clear hb3 hM3 HM HR a0 b0
        go_wp2_with (fail)
        refine (HRDD.out w3 HM3.out).mono ?_
        rintro e w4 ⟨rfl, hb4⟩
        have hM4 := HM3.out.next hb4
        have HM4 := Lib.hid hM4
        have a4 := HAT.out w4 hM4.bel; have b4 := HBT.out w4 hM4.bel
        clear hb4 hM4 HM3 HRDD a1
        go_upto_region 13 with (fail)
        have a5 := fun q : Over w4 => over_cell q a4
        have b5 := fun q : Over w4 => over_cell q b4
        refine wp_over_tail 9 (by kernel_rfl) (by kernel_rfl) ?_
        simp only [List.take_succ_cons, List.take_zero, List.drop_succ_cons, List.drop_zero]
        repeat (go_big_quiet_step (fail))
        refine wpQuiet_nil ?_
        rintro w5 ⟨⟨w5, hb5⟩, rfl⟩
        have HM5 := Lib.hid (HM4.out.next hb5)
        clear hb5 a4 b4 a5 b5 HM4
        go_wp2_with (fail)
        refine (HWRR.out w5 HM5.out).mono ?_
        rintro e w6 ⟨rfl, hM6⟩
        have a6 := HAT.out w6 hM6.bel; have b6 := HBT.out w6 hM6.bel
        have HM6 := Lib.hid hM6
        clear hM6 HM5 HWRR
        go_wp2_with (fail)
        refine (HRM2.out w6 HM6.out).mono ?_
        rintro e w7 ⟨rfl, hb7⟩
        have HM7 := Lib.hid (HM6.out.next hb7)
        clear hb7 HM6 HRM2 a6 b6
        go_wp2_with (fail)
        go_roundg (k1 - (i + 1))
        case measure => omega
        case rel => exact ⟨i + 1, _, by omega, Nat.le_refl _, by go_num, HM7, HAM2, HZN2⟩
  · have hltz : ¬ (i : Int) < (k1 : Int) := by omega
    obtain rfl : i = k1 := by omega
    go_wp2_with (fail)
    go_loopg [15] i (fun kx s15 wr => ∃ (j : Nat) (L : Ls), j ≤ i ∧ i - j ≤ kx ∧ s15 = .int .i64 (j : Int) ∧ Hid (Mine w D sz L wr) ∧ Hid (Among nm j i L))
    case atStart => exact ⟨0, L, by omega, by omega, rfl, HM, HAM⟩
    case round =>
     clear HM HAM hkx
     obtain ⟨j, L2, hj, hkx, rfl, HM, HAM⟩ := hrel
     by_cases hlt2 : j < i
     · have hltz3 : (j : Int) < (i : Int) := by omega
       obtain ⟨G, Q, rfl, hcA⟩ := HA.out (by omega)
       have hb := HM.out.bel
       have a0 := (hb.cell (p := ⟨G, Q + j, none⟩) (block_lt_of_cell (hcA j hlt2))).trans (hcA j hlt2)
       have hns := HZN.out j hlt2
       have HAM2 : Hid (Among nm (j + 1) i (rm (nm j).data.toList L2)) := Lib.hid fun x hx => by
        obtain ⟨hx, hne⟩ := mem_rm.1 hx
        obtain ⟨k, h1, h2, h3⟩ := HAM.out x hx
        refine ⟨k, ?_, h2, h3⟩
        rcases Nat.eq_or_lt_of_le h1 with e | e
        · subst e; exact absurd h3 hne
        · exact e
       generalize nm j = t at *
       obtain ⟨OO, hI, hOO, hBO⟩ := HM.out
       have HDL := Lib.hid (delete_any t (by unfold maxLen; omega) wr hI)
       have HOO := Lib.hid hOO; have HBO := Lib.hid hBO
       obtain ⟨v, hv⟩ : ∃ v : Int, (if (gt t.data.toList L2).isSome then 0 else 8) = v := ⟨_, rfl⟩
       rw [hv] at HDL
       clear hcA hb hI hOO hBO hv
       go_wp2_with (fail)
       refine HDL.out.mono ?_
       rintro e w3 ⟨rfl, ht⟩
       have HM3 := Lib.hid (Mine.of HOO.out HBO.out ht)
       clear ht a0
       go_wp2_with (fail)
       go_roundg (i - (j + 1))
       case measure => omega
       case rel => exact ⟨j + 1, _, by omega, Nat.le_refl _, by go_num, HM3, HAM2⟩
     · have hltz3 : ¬ (j : Int) < (i : Int) := by omega
       have hE : L2 = [] := by
        cases L2 with
        | nil => rfl
        | cons x r => obtain ⟨k, h1, h2, _⟩ := HAM.out x List.mem_cons_self; omega
       subst hE
       obtain ⟨OO, hI, _, _⟩ := HM.out
       have hr := room_any wr hI
       rw [show us ([] : Ls) = 0 from rfl, Nat.sub_zero] at hr
       have HR := Lib.hid hr
       clear hr hI
       go_wp2_with (fail)
       refine HR.out.mono ?_
       rintro e w3 ⟨rfl, hb3⟩
       have HM3 := Lib.hid (HM.out.next hb3)
       clear hb3
       obtain ⟨O3, hI3, _, _⟩ := HM3.out
       have hnm := names_any w3 hI3
       have HNM := Lib.hid hnm
       clear hnm hI3
       go_wp2_with (fail)
       refine HNM.out.mono ?_
       rintro e w4 ⟨v, rfl, hown, hb4⟩
       obtain ⟨A4, c4, rfl, _⟩ := own_slice hown
       have HB4 := Lib.hid (HM3.out.next hb4).bel
       clear hown hb4
       go_wp2_with (fail)
       go_ret
       exact ⟨rfl, HB4.out⟩
end Go.Proofs.Ytfcicjehgdfniaa.Dk

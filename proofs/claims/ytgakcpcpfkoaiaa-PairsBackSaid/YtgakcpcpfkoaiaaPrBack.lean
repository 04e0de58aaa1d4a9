/-
  PairsBack, PairsOnly, walked.
-/
import Derived.Test.YtgakcpcpfkoaiaaPrTape
import Derived.Test.YtgakcpcpfkoaiaaPrBytes
namespace Go.Proofs.Ytgakcpcpfkoaiaa.Pr
open Go.ChangeShapes Go.WideShapes Go.ChangeAt Go.RowKit Go.Sort Go.Proofs Go.Proofs.Ytgakcpcpfkoaiaa.Ov Go.Proofs.Ytgakcpcpfkoaiaa.Va Go.Proofs.Ytgakcpcpfkoaiaa.St

set_option maxRecDepth 100000 in
set_option maxHeartbeats 2000000 in
theorem back_core (A : Option Addr) (c : Nat) (l : List Pr) (w : World) (h : PIn w (A, c, l)) : Calls Try.prog 3 #[.slice A l.length c] w (Gives (.bool true) w) := by
  have HA := Lib.hid h
  clear h
  go_enter Try.func3, Try.ntmps3
  go_wp2_with (fail)
  refine (awake_any _).mono ?_
  rintro e a1 ⟨rfl, hb⟩
  have HB := Lib.hid hb; clear hb
  have hsm := small_any A c l a1 ((HA.out.next HB.out).1)
  go_wp2_with (fail)
  refine hsm.mono ?_
  rintro e a2 ⟨q, rfl, hb, hq⟩
  replace HB := Lib.hid (Below.next HB.out hb); clear hb hsm
  rcases hq with rfl | ⟨rfl, hl, _⟩
  · go_wp2_with (fail)
    refine (awake_any _).mono ?_
    rintro e u1 ⟨rfl, hb⟩
    replace HB := Lib.hid (Below.next HB.out hb); clear hb
    go_wp2_with (fail)
    go_ret
    exact ⟨rfl, HB.out⟩
  have hby := pbytes_any A c l a2 ((HA.out.next HB.out).1) (by omega)
  have HL := Lib.hid (fun h : rl l = true => prd_lb h (by omega))
  have HLE := Lib.hid (fun h : rl l = true => (show (lb l).length ≤ 1000000 by
    have h1 := lbs_le ((rl_iff l).1 h)
    have h2 := Tp.nb_len8 (show l.length ≤ 9007199254740991 by omega)
    unfold lb
    rw [List.length_append]; omega))
  have HRI := Lib.hid (fun w1 (h : Below w.heap.size w w1) => pright_any A c l w1 ((HA.out.next h).1) (by omega))
  cases hr : rl l with
  | false =>
    rw [hr, if_neg (by simp)] at hby
    rw [hr] at HRI
    clear hr HL HLE
    go_wp2_with (fail)
    refine hby.mono ?_
    rintro e a3 ⟨rfl, hb⟩
    replace HB := Lib.hid (Below.next HB.out hb); clear hb hby
    go_wp2_with (fail)
    refine (HRI.out _ HB.out).mono ?_
    rintro e a4 ⟨rfl, hb⟩
    replace HB := Lib.hid (Below.next HB.out hb); clear hb HRI
    have ht : tx [] = ⟨#[]⟩ := rfl
    rw [ht]
    go_wp2_with (fail)
    go_ret
    exact ⟨rfl, HB.out⟩
  | true =>
    rw [hr, if_pos rfl] at hby
    rw [hr] at HRI
    have HPR := Lib.hid (HL.out hr)
    have hle := HLE.out hr
    clear hr HL HLE
    have hrd := fun w1 => pread_any (tx (lb l)) w1 (by rw [tx_size]; exact hle)
    rw [tx_list, HPR.out] at hrd
    have HRD := Lib.hid hrd
    clear hrd hle
    generalize tx (lb l) = s at *
    go_wp2_with (fail)
    refine hby.mono ?_
    rintro e a3 ⟨rfl, hb⟩
    replace HB := Lib.hid (Below.next HB.out hb); clear hb hby
    go_wp2_with (fail)
    refine (HRI.out _ HB.out).mono ?_
    rintro e a4 ⟨rfl, hb⟩
    replace HB := Lib.hid (Below.next HB.out hb); clear hb HRI
    go_wp2_with (fail)
    refine (HRD.out _).mono ?_
    rintro e a5 ⟨A1, c1, rfl, hp, hb⟩
    have HP := Lib.hid hp
    replace HB := Lib.hid (Below.next HB.out hb); clear hb hp HRD
    have hsa := same_pairs l A A1 c c1 a5 ((HA.out.next HB.out).1) HP.out.1 (by omega)
    go_wp2_with (fail)
    refine hsa.mono ?_
    rintro e a6 ⟨rfl, hb⟩
    replace HB := Lib.hid (Below.next HB.out hb); clear hb hsa
    go_wp2_with (fail)
    go_ret
    exact ⟨rfl, HB.out⟩
set_option maxRecDepth 100000 in
set_option maxHeartbeats 2000000 in
theorem only_core (s : ByteArray) (w : World) : Calls Try.prog 4 #[.string s] w (Gives (.bool true) w) := by
  by_cases hs : 5000 < s.size
  · have hsz : (5000 : Int) < (s.size : Int) := by omega
    go_enter Try.func4, Try.ntmps4
    go_wp2_with (fail)
    refine (awake_any _).mono ?_
    rintro e a1 ⟨rfl, hb⟩
    have HB := Lib.hid hb; clear hb
    go_wp2_with (fail)
    refine (awake_any _).mono ?_
    rintro e a2 ⟨rfl, hb⟩
    replace HB := Lib.hid (Below.next HB.out hb); clear hb
    go_wp2_with (fail)
    go_ret
    exact ⟨rfl, HB.out⟩
  have hsz : ¬ (5000 : Int) < (s.size : Int) := by omega
  have hrd := fun w1 => pread_any s w1 (by omega)
  have hzl : s.data.toList.length = s.size := by simp
  obtain ⟨⟨m, k⟩, hr⟩ : ∃ r, prd s.data.toList = r := ⟨_, rfl⟩
  rw [hr] at hrd
  have HRD := Lib.hid hrd
  clear hrd
  by_cases hk : k = 0
  · subst hk
    obtain ⟨h1, h2, h3⟩ := prd_ok hr
    have hm : m.length ≤ 5000 := by omega
    have HRI := Lib.hid (fun A c w1 (h : Prs w1 A m) => pright_any A c m w1 h (by omega))
    have hby := fun A c w1 (h : Prs w1 A m) => pbytes_any A c m w1 h (by omega)
    rw [h1] at HRI
    rw [if_pos h1, h2, tx_of] at hby
    have HBY := Lib.hid hby
    clear hr h1 h2 h3 hs hzl hby
    go_enter Try.func4, Try.ntmps4
    go_wp2_with (fail)
    refine (awake_any _).mono ?_
    rintro e a1 ⟨rfl, hb⟩
    have HB := Lib.hid hb; clear hb
    go_wp2_with (fail)
    refine (HRD.out _).mono ?_
    rintro e a2 ⟨A1, c1, rfl, hp, hb⟩
    have HP := Lib.hid hp.1
    replace HB := Lib.hid (Below.next HB.out hb); clear hb hp HRD
    go_wp2_with (fail)
    refine (HRI.out _ _ _ HP.out).mono ?_
    rintro e a3 ⟨rfl, hb⟩
    replace HP := Lib.hid (HP.out.next hb)
    replace HB := Lib.hid (Below.next HB.out hb); clear hb HRI
    go_wp2_with (fail)
    refine (HBY.out _ _ _ HP.out).mono ?_
    rintro e a4 ⟨rfl, hb⟩
    replace HB := Lib.hid (Below.next HB.out hb); clear hb HBY HP
    go_wp2_with (fail)
    go_ret
    exact ⟨rfl, HB.out⟩
  · obtain rfl : m = [] := by
      have := prd_no (s := s.data.toList) (k := k) (by rw [hr]) hk
      rw [hr] at this; exact this
    have hkz : ((k : Int) != 0) = true := by rw [bne_iff_ne]; omega
    clear hr hk hs hzl
    go_enter Try.func4, Try.ntmps4
    go_wp2_with (fail)
    refine (awake_any _).mono ?_
    rintro e a1 ⟨rfl, hb⟩
    have HB := Lib.hid hb; clear hb
    go_wp2_with (fail)
    refine (HRD.out _).mono ?_
    rintro e a2 ⟨A1, c1, rfl, _, hb⟩
    replace HB := Lib.hid (Below.next HB.out hb); clear hb HRD
    go_wp2_with (fail)
    go_ret
    exact ⟨rfl, HB.out⟩
end Go.Proofs.Ytgakcpcpfkoaiaa.Pr

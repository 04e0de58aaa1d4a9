/-
  The texts of this claim, EvalFuel alone, 1: EvFuelX, EvFuelW.
-/
import Derived.Test.YtcdjincaedpodaaGreatDoorLot7
/-
  What Run answers with more steps, with just as many as it takes, with one less. Plain.
-/
namespace Go.Proofs.YtcdjincaedpodaaGreatDoor.Ev
open Go.Proofs.YtcdjincaedpodaaGreatDoor.Ov Go.Proofs.YtcdjincaedpodaaGreatDoor.Tp Go.Proofs.YtcdjincaedpodaaGreatDoor.Ga Go.Proofs.YtcdjincaedpodaaGreatDoor.Va Go.Proofs.YtcdjincaedpodaaGreatDoor.Ex

theorem rnX_er_more {l : List No} {k : List UInt8} {v a : Va} {n : Nat} {x : Int} (h : rnX l k v a (n : Int) = .er x) (hn : n ≤ 100000) (hx : x ≠ 15) {j : Nat} (hj : n + j ≤ 100000) : rnX l k v a ((n + j : Nat) : Int) = .er x := by
  unfold rnX at h ⊢
  by_cases hc : Rt l = true ∧ rEnv k v a = true
  · rw [if_pos ⟨hc.1, hc.2, by omega, by omega⟩] at h ⊢
    rw [show ((n : Int)).toNat = n from rfl] at h
    rw [show (((n + j : Nat) : Int)).toNat = n + j from rfl]
    rcases ev_fu 25 l (S0 k v a) n with ⟨a', S1, m', hm, e, _, _⟩ | ⟨x', e, e1⟩
    · rw [e] at h; cases h
    · rw [e] at h
      injection h with h
      subst h
      exact e1 hx j
  · rw [if_neg (fun h => hc ⟨h.1, h.2.1⟩)] at h ⊢
    exact h
theorem rnX_ok_all {l : List No} {k : List UInt8} {v a u : Va} {n m : Nat} {S : St} (h : rnX l k v a (n : Int) = .ok u S m) : ∃ N : Nat, N + m = n ∧ 0 < N ∧ (∀ j, N + j ≤ 100000 → rnX l k v a ((N + j : Nat) : Int) = .ok u S j) ∧ rnX l k v a ((N - 1 : Nat) : Int) = .er 15 := by
  unfold rnX at h ⊢
  by_cases hc : Rt l = true ∧ rEnv k v a = true ∧ 0 ≤ (n : Int) ∧ (n : Int) ≤ 100000
  · rw [if_pos hc] at h
    rw [show ((n : Int)).toNat = n from rfl] at h
    rcases ev_fu 25 l (S0 k v a) n with ⟨a', S1, m', hm, e, e1, e2⟩ | ⟨x', e, e1⟩
    · rw [e] at h
      injection h with h1 h2 h3
      subst h1; subst h2; subst h3
      have hN : 0 < n - m' := by
        rcases Nat.eq_zero_or_pos (n - m') with h0 | h0
        · have e0 := e1 0
          rw [h0] at e0
          have hx := (Rt_in hc.1).2
          cases l with
          | nil => rw [ex_nil] at hx; cases hx
          | cons q t => rw [ev_cons] at e0; cases e0
        · exact h0
      refine ⟨n - m', by omega, hN, fun j hj => ?_, ?_⟩
      · rw [if_pos ⟨hc.1, hc.2.1, by omega, by omega⟩]; exact e1 j
      · rw [if_pos ⟨hc.1, hc.2.1, by omega, by omega⟩]; exact e2 _ (by omega)
    · rw [e] at h; cases h
  · rw [if_neg hc] at h; cases h
end Go.Proofs.YtcdjincaedpodaaGreatDoor.Ev
/-
  EvalFuel, walked (written by gen_evlaw.py).
-/
namespace Go.Proofs.YtcdjincaedpodaaGreatDoor.Ev
open Go.ChangeShapes Go.WideShapes Go.ChangeAt Go.RowKit Go.Proofs.YtcdjincaedpodaaGreatDoor.Ov Go.Proofs.YtcdjincaedpodaaGreatDoor.Va Go.Proofs.YtcdjincaedpodaaGreatDoor.Ga Go.Proofs.YtcdjincaedpodaaGreatDoor.Ex

set_option maxRecDepth 100000 in
set_option maxHeartbeats 4000000 in
theorem fuel_core (A : Option Addr) (c : Nat) (l : List No) (k : List UInt8) (v a : Va) (q : Nat) (w : World) (hn : Nds w A l) (hq : q < 65536) (hT : Tab w) (hK : KN w) : Calls Tryz.prog 3 #[.slice A l.length c, .agg #[.string (tx k), .int .i64 v.k, .int .i64 v.n, .string (tx v.s), .int .i64 v.x, .int .i64 v.y, .int .i64 a.k, .int .i64 a.n, .string (tx a.s), .int .i64 a.x, .int .i64 a.y], .int .u16 (q : Int)] w (Gives (.bool true) w) := by
  have HAW := Lib.hid (fun w1 (h : Below w.heap.size w w1) => awake9_any w1 (hK.next h) (hT.next h))
  have HNl := Lib.hid hn
  have HB0 : Hid (Below w.heap.size w w) := Below.refl _ _
  have HOF := Lib.hid (fun w1 (h : Below w.heap.size w w1) (h1 : l.length ≤ 1000) => of_any l A c w1 (hn.next h) h1)
  have HRU := Lib.hid (fun (n : Int) w1 (h : Below w.heap.size w w1) (Ap : Option Addr) (cp : Nat) (hp : Nds w1 Ap l) (h1 : l.length ≤ 1000) => run_any l Ap cp k v a n w1 hp (hK.next h) (hT.next h) (by omega))
  have HST := Lib.hid (fun w1 (h : Below w.heap.size w w1) (Ap : Option Addr) (cp : Nat) (hp : Nds w1 Ap l) (h1 : l.length ≤ 1000) => steps_any l Ap cp k v a w1 hp (hK.next h) (hT.next h) (by omega))
  clear hn hT hK
  go_enter Tryz.func3, Tryz.ntmps3
  go_wp2_with (fail)
  have HB1 := Lib.hid (Below.next HB0.out (box1 w (.cells #[.string (tx k), .int .i64 v.k, .int .i64 v.n, .string (tx v.s), .int .i64 v.x, .int .i64 v.y, .int .i64 a.k, .int .i64 a.n, .string (tx a.s), .int .i64 a.x, .int .i64 a.y] 28)))
  have HE1 : Hid (Blk (w.alloc (.cells #[.string (tx k), .int .i64 v.k, .int .i64 v.n, .string (tx v.s), .int .i64 v.x, .int .i64 v.y, .int .i64 a.k, .int .i64 a.n, .string (tx a.s), .int .i64 a.x, .int .i64 a.y] 28)) w.heap.size [.string (tx k), .int .i64 v.k, .int .i64 v.n, .string (tx v.s), .int .i64 v.x, .int .i64 v.y, .int .i64 a.k, .int .i64 a.n, .string (tx a.s), .int .i64 a.x, .int .i64 a.y]) := Blk.made w 28 [.string (tx k), .int .i64 v.k, .int .i64 v.n, .string (tx v.s), .int .i64 v.x, .int .i64 v.y, .int .i64 a.k, .int .i64 a.n, .string (tx a.s), .int .i64 a.x, .int .i64 a.y] rfl
  obtain ⟨w1, hw1⟩ : ∃ w1, w.alloc (.cells #[.string (tx k), .int .i64 v.k, .int .i64 v.n, .string (tx v.s), .int .i64 v.x, .int .i64 v.y, .int .i64 a.k, .int .i64 a.n, .string (tx a.s), .int .i64 a.x, .int .i64 a.y] 28) = w1 := ⟨_, rfl⟩
  rw [hw1] at HB1 HE1
  rw [hw1]
  skip
  clear HB0   hw1 
  have hltE := HE1.out.lt
  go_wp2_with (fail)
  refine (HAW.out _ HB1.out).mono ?_
  rintro e w2 ⟨rfl, hb⟩
  have HB2 := Lib.hid (Below.next HB1.out hb)
  have HE2 := Lib.hid (HE1.out.next hb)
  clear HB1 HE1  hb
  have hltE_ := HE2.out.lt
  have qE0 := HE2.out.c 0 _ rfl
  have qE1 := HE2.out.c 1 _ rfl
  have qE2 := HE2.out.c 2 _ rfl
  have qE3 := HE2.out.c 3 _ rfl
  have qE4 := HE2.out.c 4 _ rfl
  have qE5 := HE2.out.c 5 _ rfl
  have qE6 := HE2.out.c 6 _ rfl
  have qE7 := HE2.out.c 7 _ rfl
  have qE8 := HE2.out.c 8 _ rfl
  have qE9 := HE2.out.c 9 _ rfl
  have qE10 := HE2.out.c 10 _ rfl
  go_wp2_with (fail)
  refine (few9_any l A c k v a _ (HNl.out.next HB2.out)).mono ?_
  rintro e w3 ⟨fb, rfl, hb, h01⟩
  have HB3 := Lib.hid (Below.next HB2.out hb)
  have HE3 := Lib.hid (HE2.out.next hb)
  clear HB2 HE2 hltE_ qE0 qE1 qE2 qE3 qE4 qE5 qE6 qE7 qE8 qE9 qE10 hb
  rcases h01 with rfl | ⟨rfl, hlen⟩
  · skip
    go_wp2_with (fail)
    refine (HAW.out _ HB3.out).mono ?_
    rintro e w4 ⟨rfl, hb⟩
    have HB4 := Lib.hid (Below.next HB3.out hb)
    have HE4 := Lib.hid (HE3.out.next hb)
    clear HB3 HE3  hb
    go_wp2_with (fail)
    go_ret
    exact ⟨rfl, HB4.out⟩
  go_wp2_with (fail)
  refine (HOF.out _ HB3.out (by omega)).mono ?_
  rintro e w4 ⟨Ap, cp, rfl, hop, hb⟩
  have HP4 : Hid (Nds w4 Ap l) := Nds.of_own hop
  clear hop
  have HB4 := Lib.hid (Below.next HB3.out hb)
  have HE4 := Lib.hid (HE3.out.next hb)
  clear HB3 HE3  hb
  have hltE_ := HE4.out.lt
  have qE0 := HE4.out.c 0 _ rfl
  have qE1 := HE4.out.c 1 _ rfl
  have qE2 := HE4.out.c 2 _ rfl
  have qE3 := HE4.out.c 3 _ rfl
  have qE4 := HE4.out.c 4 _ rfl
  have qE5 := HE4.out.c 5 _ rfl
  have qE6 := HE4.out.c 6 _ rfl
  have qE7 := HE4.out.c 7 _ rfl
  have qE8 := HE4.out.c 8 _ rfl
  have qE9 := HE4.out.c 9 _ rfl
  have qE10 := HE4.out.c 10 _ rfl
  go_wp2_with (fail)
  refine (HRU.out 3000 _ HB4.out Ap cp HP4.out (by omega)).mono ?_
  rintro e w5 ⟨hb, hq0⟩
  have HB5 := Lib.hid (Below.next HB4.out hb)
  have HE5 := Lib.hid (HE4.out.next hb)
  have HP5 := Lib.hid (HP4.out.next hb)
  clear HB4 HE4 HP4 hltE_ qE0 qE1 qE2 qE3 qE4 qE5 qE6 qE7 qE8 qE9 qE10 hb
  obtain ⟨X, hX⟩ : ∃ X, rnX l k v a 3000 = X := ⟨_, rfl⟩
  have HX := Lib.hid hX
  rw [hX] at hq0
  clear hX
  cases X with
  | er x =>
    obtain ⟨hx0, rfl⟩ := hq0
    have hx1 : (x == 0) = false := by simpa using hx0
    have hx2 : (x != 0) = true := by simpa using hx0
    have hltE_ := HE5.out.lt
    have qE0 := HE5.out.c 0 _ rfl
    have qE1 := HE5.out.c 1 _ rfl
    have qE2 := HE5.out.c 2 _ rfl
    have qE3 := HE5.out.c 3 _ rfl
    have qE4 := HE5.out.c 4 _ rfl
    have qE5 := HE5.out.c 5 _ rfl
    have qE6 := HE5.out.c 6 _ rfl
    have qE7 := HE5.out.c 7 _ rfl
    have qE8 := HE5.out.c 8 _ rfl
    have qE9 := HE5.out.c 9 _ rfl
    have qE10 := HE5.out.c 10 _ rfl
    have hltE2 := HE5.out.lt
    go_wp2_with (fail)
    have HB6 := Lib.hid (Below.next HB5.out (box1 w5 (.cells #[.int .i64 0, .int .i64 0, .string ⟨#[]⟩, .int .i64 0, .int .i64 0, .slice none 0 0, .int .i64 0] 36)))
    have HE6 := Lib.hid (HE5.out.next (box1 w5 (.cells #[.int .i64 0, .int .i64 0, .string ⟨#[]⟩, .int .i64 0, .int .i64 0, .slice none 0 0, .int .i64 0] 36)))
    have HP6 := Lib.hid (HP5.out.next (box1 w5 (.cells #[.int .i64 0, .int .i64 0, .string ⟨#[]⟩, .int .i64 0, .int .i64 0, .slice none 0 0, .int .i64 0] 36)))
    have HR6 : Hid (Blk (w5.alloc (.cells #[.int .i64 0, .int .i64 0, .string ⟨#[]⟩, .int .i64 0, .int .i64 0, .slice none 0 0, .int .i64 0] 36)) w5.heap.size [.int .i64 0, .int .i64 0, .string ⟨#[]⟩, .int .i64 0, .int .i64 0, .slice none 0 0, .int .i64 0]) := Blk.made w5 36 [.int .i64 0, .int .i64 0, .string ⟨#[]⟩, .int .i64 0, .int .i64 0, .slice none 0 0, .int .i64 0] rfl
    obtain ⟨w6, hw6⟩ : ∃ w6, w5.alloc (.cells #[.int .i64 0, .int .i64 0, .string ⟨#[]⟩, .int .i64 0, .int .i64 0, .slice none 0 0, .int .i64 0] 36) = w6 := ⟨_, rfl⟩
    rw [hw6] at HB6 HE6 HP6 HR6
    rw [hw6]
    obtain ⟨bR, hbR⟩ : ∃ b, w5.heap.size = b := ⟨_, rfl⟩
    rw [hbR] at HR6
    simp only [hbR]
    clear HB5 HE5 HP5 hltE_ qE0 qE1 qE2 qE3 qE4 qE5 qE6 qE7 qE8 qE9 qE10 hw6 hbR
    go_wp2_with (fail)
    refine (HRU.out (3000 + (q : Int)) _ HB6.out Ap cp HP6.out (by omega)).mono ?_
    rintro e w7 ⟨hb, hq1⟩
    have HB7 := Lib.hid (Below.next HB6.out hb)
    have HE7 := Lib.hid (HE6.out.next hb)
    have HP7 := Lib.hid (HP6.out.next hb)
    have HR7 := Lib.hid (HR6.out.next hb)
    clear HB6 HE6 HP6 HR6  hb
    have hltR_ := HR7.out.lt
    have qR0 := HR7.out.c 0 _ rfl
    have qR1 := HR7.out.c 1 _ rfl
    have qR2 := HR7.out.c 2 _ rfl
    have qR3 := HR7.out.c 3 _ rfl
    have qR4 := HR7.out.c 4 _ rfl
    have qR5 := HR7.out.c 5 _ rfl
    have qR6 := HR7.out.c 6 _ rfl
    by_cases h15 : x = 15
    · subst h15
      obtain ⟨X1, hX1⟩ : ∃ X1, rnX l k v a (3000 + (q : Int)) = X1 := ⟨_, rfl⟩
      rw [hX1] at hq1
      clear hX1
      cases X1 with
      | er y =>
        obtain ⟨_, rfl⟩ := hq1
        go_wp2_with (fail)
        go_ret
        exact ⟨rfl, Below.next HB7.out (box1 _ _)⟩
      | ok u S m =>
        obtain ⟨Ao, co, _, rfl⟩ := hq1
        go_wp2_with (fail)
        go_ret
        exact ⟨rfl, Below.next HB7.out (box1 _ _)⟩
    · have hx15 : (x == 15) = false := by simpa using h15
      have hmore := rnX_er_more (n := 3000) (j := q) HX.out (by omega) h15 (by omega)
      rw [show ((3000 + q : Nat) : Int) = 3000 + (q : Int) by omega] at hmore
      rw [hmore] at hq1
      obtain ⟨_, rfl⟩ := hq1
      clear hmore h15
      go_wp2_with (fail)
      go_ret
      exact ⟨by simp, Below.next HB7.out (box1 _ _)⟩
  | ok u S m =>
    obtain ⟨Ao, co, ho, rfl⟩ := hq0
    have HS5 : Hid (Prs w5 Ao S.out) := Prs.of_own ho
    clear ho
    obtain ⟨N, hNm, hN0, hall, hlast⟩ := rnX_ok_all (n := 3000) HX.out
    have hSo := (rnX_left HX.out).2.2.1
    have HALL := Lib.hid hall; have HLAST := Lib.hid hlast
    clear hall hlast
    have HST2 : Hid (stv (rnX l k v a 100000) = .tuple #[.int .i64 (N : Int), .int .i64 0]) := by
      show _ = _
      have h := HALL.out (100000 - N) (by omega)
      rw [show ((N + (100000 - N) : Nat) : Int) = 100000 by omega] at h
      rw [h]
      show Value.tuple #[.int .i64 (100000 - ((100000 - N : Nat) : Int)), .int .i64 0] = _
      rw [show (100000 - ((100000 - N : Nat) : Int)) = (N : Int) by omega]
    rw [HST2.out] at HST
    have hltE_ := HE5.out.lt
    have qE0 := HE5.out.c 0 _ rfl
    have qE1 := HE5.out.c 1 _ rfl
    have qE2 := HE5.out.c 2 _ rfl
    have qE3 := HE5.out.c 3 _ rfl
    have qE4 := HE5.out.c 4 _ rfl
    have qE5 := HE5.out.c 5 _ rfl
    have qE6 := HE5.out.c 6 _ rfl
    have qE7 := HE5.out.c 7 _ rfl
    have qE8 := HE5.out.c 8 _ rfl
    have qE9 := HE5.out.c 9 _ rfl
    have qE10 := HE5.out.c 10 _ rfl
    go_wp2_with (fail)
    have HB6 := Lib.hid (Below.next HB5.out (box1 w5 (.cells #[.int .i64 u.k, .int .i64 u.n, .string (tx u.s), .int .i64 u.x, .int .i64 u.y, .slice Ao S.out.length co, .int .i64 (m : Int)] 36)))
    have HE6 := Lib.hid (HE5.out.next (box1 w5 (.cells #[.int .i64 u.k, .int .i64 u.n, .string (tx u.s), .int .i64 u.x, .int .i64 u.y, .slice Ao S.out.length co, .int .i64 (m : Int)] 36)))
    have HP6 := Lib.hid (HP5.out.next (box1 w5 (.cells #[.int .i64 u.k, .int .i64 u.n, .string (tx u.s), .int .i64 u.x, .int .i64 u.y, .slice Ao S.out.length co, .int .i64 (m : Int)] 36)))
    have HS6 := Lib.hid (HS5.out.next (box1 w5 (.cells #[.int .i64 u.k, .int .i64 u.n, .string (tx u.s), .int .i64 u.x, .int .i64 u.y, .slice Ao S.out.length co, .int .i64 (m : Int)] 36)))
    have HR6 : Hid (Blk (w5.alloc (.cells #[.int .i64 u.k, .int .i64 u.n, .string (tx u.s), .int .i64 u.x, .int .i64 u.y, .slice Ao S.out.length co, .int .i64 (m : Int)] 36)) w5.heap.size [.int .i64 u.k, .int .i64 u.n, .string (tx u.s), .int .i64 u.x, .int .i64 u.y, .slice Ao S.out.length co, .int .i64 (m : Int)]) := Blk.made w5 36 [.int .i64 u.k, .int .i64 u.n, .string (tx u.s), .int .i64 u.x, .int .i64 u.y, .slice Ao S.out.length co, .int .i64 (m : Int)] rfl
    obtain ⟨w6, hw6⟩ : ∃ w6, w5.alloc (.cells #[.int .i64 u.k, .int .i64 u.n, .string (tx u.s), .int .i64 u.x, .int .i64 u.y, .slice Ao S.out.length co, .int .i64 (m : Int)] 36) = w6 := ⟨_, rfl⟩
    rw [hw6] at HB6 HE6 HP6 HS6 HR6
    rw [hw6]
    obtain ⟨bR, hbR⟩ : ∃ b, w5.heap.size = b := ⟨_, rfl⟩
    rw [hbR] at HR6
    simp only [hbR]
    clear HB5 HE5 HP5 HS5 hltE_ qE0 qE1 qE2 qE3 qE4 qE5 qE6 qE7 qE8 qE9 qE10 hw6 hbR
    go_wp2_with (fail)
    refine (HST.out _ HB6.out Ap cp HP6.out (by omega)).mono ?_
    rintro e w7 ⟨rfl, hb⟩
    have HB7 := Lib.hid (Below.next HB6.out hb)
    have HE7 := Lib.hid (HE6.out.next hb)
    have HP7 := Lib.hid (HP6.out.next hb)
    have HS7 := Lib.hid (HS6.out.next hb)
    have HR7 := Lib.hid (HR6.out.next hb)
    clear HB6 HE6 HP6 HS6 HR6  hb
    have HQ1 : Hid (rnX l k v a ((N : Int) + (q : Int) % 10000) = .ok u S (q % 10000)) := by
      show _ = _
      have h := HALL.out (q % 10000) (by omega)
      rw [show ((N + q % 10000 : Nat) : Int) = (N : Int) + (q : Int) % 10000 by omega] at h
      exact h
    have HQ2 : Hid (rnX l k v a (N : Int) = .ok u S 0) := HALL.out 0 (by omega)
    have HQ3 : Hid (rnX l k v a ((N : Int) - 1) = .er 15) := by
      show _ = _
      have h := HLAST.out
      rw [show ((N - 1 : Nat) : Int) = (N : Int) - 1 by omega] at h
      exact h
    have HQM : Hid (((q % 10000 : Nat) : Int) = (q : Int) % 10000) := by show _ = _; omega
    have hltE_ := HE7.out.lt
    have qE0 := HE7.out.c 0 _ rfl
    have qE1 := HE7.out.c 1 _ rfl
    have qE2 := HE7.out.c 2 _ rfl
    have qE3 := HE7.out.c 3 _ rfl
    have qE4 := HE7.out.c 4 _ rfl
    have qE5 := HE7.out.c 5 _ rfl
    have qE6 := HE7.out.c 6 _ rfl
    have qE7 := HE7.out.c 7 _ rfl
    have qE8 := HE7.out.c 8 _ rfl
    have qE9 := HE7.out.c 9 _ rfl
    have qE10 := HE7.out.c 10 _ rfl
    have hqq := HQ1.out
    go_wp2_with (fail)
    refine (HRU.out ((N : Int) + (q : Int) % 10000) _ HB7.out Ap cp HP7.out (by omega)).mono ?_
    rintro e w8 ⟨hb, hq1⟩
    rw [hqq] at hq1
    have HB8 := Lib.hid (Below.next HB7.out hb)
    have HE8 := Lib.hid (HE7.out.next hb)
    have HP8 := Lib.hid (HP7.out.next hb)
    have HS8 := Lib.hid (HS7.out.next hb)
    have HR8 := Lib.hid (HR7.out.next hb)
    clear HB7 HE7 HP7 HS7 HR7 hltE_ qE0 qE1 qE2 qE3 qE4 qE5 qE6 qE7 qE8 qE9 qE10 hb
    clear hqq
    obtain ⟨A1, cA1, ho, rfl⟩ := hq1
    have HT8 : Hid (Prs w8 A1 S.out) := Prs.of_own ho
    clear ho
    have hltE_ := HE8.out.lt
    have qE0 := HE8.out.c 0 _ rfl
    have qE1 := HE8.out.c 1 _ rfl
    have qE2 := HE8.out.c 2 _ rfl
    have qE3 := HE8.out.c 3 _ rfl
    have qE4 := HE8.out.c 4 _ rfl
    have qE5 := HE8.out.c 5 _ rfl
    have qE6 := HE8.out.c 6 _ rfl
    have qE7 := HE8.out.c 7 _ rfl
    have qE8 := HE8.out.c 8 _ rfl
    have qE9 := HE8.out.c 9 _ rfl
    have qE10 := HE8.out.c 10 _ rfl
    go_wp2_with (fail)
    have HB9 := Lib.hid (Below.next HB8.out (box1 w8 (.cells #[.int .i64 u.k, .int .i64 u.n, .string (tx u.s), .int .i64 u.x, .int .i64 u.y, .slice A1 S.out.length cA1, .int .i64 ((q : Int) % 10000)] 36)))
    have HE9 := Lib.hid (HE8.out.next (box1 w8 (.cells #[.int .i64 u.k, .int .i64 u.n, .string (tx u.s), .int .i64 u.x, .int .i64 u.y, .slice A1 S.out.length cA1, .int .i64 ((q : Int) % 10000)] 36)))
    have HP9 := Lib.hid (HP8.out.next (box1 w8 (.cells #[.int .i64 u.k, .int .i64 u.n, .string (tx u.s), .int .i64 u.x, .int .i64 u.y, .slice A1 S.out.length cA1, .int .i64 ((q : Int) % 10000)] 36)))
    have HS9 := Lib.hid (HS8.out.next (box1 w8 (.cells #[.int .i64 u.k, .int .i64 u.n, .string (tx u.s), .int .i64 u.x, .int .i64 u.y, .slice A1 S.out.length cA1, .int .i64 ((q : Int) % 10000)] 36)))
    have HR9 := Lib.hid (HR8.out.next (box1 w8 (.cells #[.int .i64 u.k, .int .i64 u.n, .string (tx u.s), .int .i64 u.x, .int .i64 u.y, .slice A1 S.out.length cA1, .int .i64 ((q : Int) % 10000)] 36)))
    have HT9 := Lib.hid (HT8.out.next (box1 w8 (.cells #[.int .i64 u.k, .int .i64 u.n, .string (tx u.s), .int .i64 u.x, .int .i64 u.y, .slice A1 S.out.length cA1, .int .i64 ((q : Int) % 10000)] 36)))
    have HRT9 : Hid (Blk (w8.alloc (.cells #[.int .i64 u.k, .int .i64 u.n, .string (tx u.s), .int .i64 u.x, .int .i64 u.y, .slice A1 S.out.length cA1, .int .i64 ((q : Int) % 10000)] 36)) w8.heap.size [.int .i64 u.k, .int .i64 u.n, .string (tx u.s), .int .i64 u.x, .int .i64 u.y, .slice A1 S.out.length cA1, .int .i64 ((q : Int) % 10000)]) := Blk.made w8 36 [.int .i64 u.k, .int .i64 u.n, .string (tx u.s), .int .i64 u.x, .int .i64 u.y, .slice A1 S.out.length cA1, .int .i64 ((q : Int) % 10000)] rfl
    obtain ⟨w9, hw9⟩ : ∃ w9, w8.alloc (.cells #[.int .i64 u.k, .int .i64 u.n, .string (tx u.s), .int .i64 u.x, .int .i64 u.y, .slice A1 S.out.length cA1, .int .i64 ((q : Int) % 10000)] 36) = w9 := ⟨_, rfl⟩
    rw [hw9] at HB9 HE9 HP9 HS9 HR9 HT9 HRT9
    rw [hw9]
    obtain ⟨bRT, hbRT⟩ : ∃ b, w8.heap.size = b := ⟨_, rfl⟩
    rw [hbRT] at HRT9
    simp only [hbRT]
    clear HB8 HE8 HP8 HS8 HR8 HT8 hltE_ qE0 qE1 qE2 qE3 qE4 qE5 qE6 qE7 qE8 qE9 qE10 hw9 hbRT
    have hltE_ := HE9.out.lt
    have qE0 := HE9.out.c 0 _ rfl
    have qE1 := HE9.out.c 1 _ rfl
    have qE2 := HE9.out.c 2 _ rfl
    have qE3 := HE9.out.c 3 _ rfl
    have qE4 := HE9.out.c 4 _ rfl
    have qE5 := HE9.out.c 5 _ rfl
    have qE6 := HE9.out.c 6 _ rfl
    have qE7 := HE9.out.c 7 _ rfl
    have qE8 := HE9.out.c 8 _ rfl
    have qE9 := HE9.out.c 9 _ rfl
    have qE10 := HE9.out.c 10 _ rfl
    have hqq := HQ2.out
    go_wp2_with (fail)
    refine (HRU.out ((N : Int)) _ HB9.out Ap cp HP9.out (by omega)).mono ?_
    rintro e w10 ⟨hb, hq1⟩
    rw [hqq] at hq1
    have HB10 := Lib.hid (Below.next HB9.out hb)
    have HE10 := Lib.hid (HE9.out.next hb)
    have HP10 := Lib.hid (HP9.out.next hb)
    have HS10 := Lib.hid (HS9.out.next hb)
    have HR10 := Lib.hid (HR9.out.next hb)
    have HT10 := Lib.hid (HT9.out.next hb)
    have HRT10 := Lib.hid (HRT9.out.next hb)
    clear HB9 HE9 HP9 HS9 HR9 HT9 HRT9 hltE_ qE0 qE1 qE2 qE3 qE4 qE5 qE6 qE7 qE8 qE9 qE10 hb
    clear hqq
    obtain ⟨A2, cA2, ho, rfl⟩ := hq1
    have HU10 : Hid (Prs w10 A2 S.out) := Prs.of_own ho
    clear ho
    have hltE_ := HE10.out.lt
    have qE0 := HE10.out.c 0 _ rfl
    have qE1 := HE10.out.c 1 _ rfl
    have qE2 := HE10.out.c 2 _ rfl
    have qE3 := HE10.out.c 3 _ rfl
    have qE4 := HE10.out.c 4 _ rfl
    have qE5 := HE10.out.c 5 _ rfl
    have qE6 := HE10.out.c 6 _ rfl
    have qE7 := HE10.out.c 7 _ rfl
    have qE8 := HE10.out.c 8 _ rfl
    have qE9 := HE10.out.c 9 _ rfl
    have qE10 := HE10.out.c 10 _ rfl
    go_wp2_with (fail)
    have HB11 := Lib.hid (Below.next HB10.out (box1 w10 (.cells #[.int .i64 u.k, .int .i64 u.n, .string (tx u.s), .int .i64 u.x, .int .i64 u.y, .slice A2 S.out.length cA2, .int .i64 (0)] 36)))
    have HE11 := Lib.hid (HE10.out.next (box1 w10 (.cells #[.int .i64 u.k, .int .i64 u.n, .string (tx u.s), .int .i64 u.x, .int .i64 u.y, .slice A2 S.out.length cA2, .int .i64 (0)] 36)))
    have HP11 := Lib.hid (HP10.out.next (box1 w10 (.cells #[.int .i64 u.k, .int .i64 u.n, .string (tx u.s), .int .i64 u.x, .int .i64 u.y, .slice A2 S.out.length cA2, .int .i64 (0)] 36)))
    have HS11 := Lib.hid (HS10.out.next (box1 w10 (.cells #[.int .i64 u.k, .int .i64 u.n, .string (tx u.s), .int .i64 u.x, .int .i64 u.y, .slice A2 S.out.length cA2, .int .i64 (0)] 36)))
    have HR11 := Lib.hid (HR10.out.next (box1 w10 (.cells #[.int .i64 u.k, .int .i64 u.n, .string (tx u.s), .int .i64 u.x, .int .i64 u.y, .slice A2 S.out.length cA2, .int .i64 (0)] 36)))
    have HT11 := Lib.hid (HT10.out.next (box1 w10 (.cells #[.int .i64 u.k, .int .i64 u.n, .string (tx u.s), .int .i64 u.x, .int .i64 u.y, .slice A2 S.out.length cA2, .int .i64 (0)] 36)))
    have HRT11 := Lib.hid (HRT10.out.next (box1 w10 (.cells #[.int .i64 u.k, .int .i64 u.n, .string (tx u.s), .int .i64 u.x, .int .i64 u.y, .slice A2 S.out.length cA2, .int .i64 (0)] 36)))
    have HU11 := Lib.hid (HU10.out.next (box1 w10 (.cells #[.int .i64 u.k, .int .i64 u.n, .string (tx u.s), .int .i64 u.x, .int .i64 u.y, .slice A2 S.out.length cA2, .int .i64 (0)] 36)))
    have HRU11 : Hid (Blk (w10.alloc (.cells #[.int .i64 u.k, .int .i64 u.n, .string (tx u.s), .int .i64 u.x, .int .i64 u.y, .slice A2 S.out.length cA2, .int .i64 (0)] 36)) w10.heap.size [.int .i64 u.k, .int .i64 u.n, .string (tx u.s), .int .i64 u.x, .int .i64 u.y, .slice A2 S.out.length cA2, .int .i64 (0)]) := Blk.made w10 36 [.int .i64 u.k, .int .i64 u.n, .string (tx u.s), .int .i64 u.x, .int .i64 u.y, .slice A2 S.out.length cA2, .int .i64 (0)] rfl
    obtain ⟨w11, hw11⟩ : ∃ w11, w10.alloc (.cells #[.int .i64 u.k, .int .i64 u.n, .string (tx u.s), .int .i64 u.x, .int .i64 u.y, .slice A2 S.out.length cA2, .int .i64 (0)] 36) = w11 := ⟨_, rfl⟩
    rw [hw11] at HB11 HE11 HP11 HS11 HR11 HT11 HRT11 HU11 HRU11
    rw [hw11]
    obtain ⟨bRU, hbRU⟩ : ∃ b, w10.heap.size = b := ⟨_, rfl⟩
    rw [hbRU] at HRU11
    simp only [hbRU]
    clear HB10 HE10 HP10 HS10 HR10 HT10 HRT10 HU10 hltE_ qE0 qE1 qE2 qE3 qE4 qE5 qE6 qE7 qE8 qE9 qE10 hw11 hbRU
    have hltE_ := HE11.out.lt
    have qE0 := HE11.out.c 0 _ rfl
    have qE1 := HE11.out.c 1 _ rfl
    have qE2 := HE11.out.c 2 _ rfl
    have qE3 := HE11.out.c 3 _ rfl
    have qE4 := HE11.out.c 4 _ rfl
    have qE5 := HE11.out.c 5 _ rfl
    have qE6 := HE11.out.c 6 _ rfl
    have qE7 := HE11.out.c 7 _ rfl
    have qE8 := HE11.out.c 8 _ rfl
    have qE9 := HE11.out.c 9 _ rfl
    have qE10 := HE11.out.c 10 _ rfl
    have hqq := HQ3.out
    go_wp2_with (fail)
    refine (HRU.out ((N : Int) - 1) _ HB11.out Ap cp HP11.out (by omega)).mono ?_
    rintro e w12 ⟨hb, hq1⟩
    rw [hqq] at hq1
    have HB12 := Lib.hid (Below.next HB11.out hb)
    have HE12 := Lib.hid (HE11.out.next hb)
    have HP12 := Lib.hid (HP11.out.next hb)
    have HS12 := Lib.hid (HS11.out.next hb)
    have HR12 := Lib.hid (HR11.out.next hb)
    have HT12 := Lib.hid (HT11.out.next hb)
    have HRT12 := Lib.hid (HRT11.out.next hb)
    have HU12 := Lib.hid (HU11.out.next hb)
    have HRU12 := Lib.hid (HRU11.out.next hb)
    clear HB11 HE11 HP11 HS11 HR11 HT11 HRT11 HU11 HRU11 hltE_ qE0 qE1 qE2 qE3 qE4 qE5 qE6 qE7 qE8 qE9 qE10 hb
    clear hqq
    obtain ⟨_, rfl⟩ := hq1
    have hNm2 : ((N : Int) == 3000 - (m : Int)) = true := by rw [beq_iff_eq]; omega
    have hN1 : (0 : Int) < (N : Int) := by omega
    have hEV : ∀ W, (binOp .eql 26 (.agg #[.int .i64 u.k, .int .i64 u.n, .string (tx u.s), .int .i64 u.x, .int .i64 u.y]) (.agg #[.int .i64 u.k, .int .i64 u.n, .string (tx u.s), .int .i64 u.x, .int .i64 u.y])).run Tryz.prog W = .ok (.bool true) W := fun W => by
      have h := eql_va u u W
      rwa [show decide (u = u) = true from decide_eq_true rfl] at h
    have hltR_ := HR12.out.lt
    have qR0 := HR12.out.c 0 _ rfl
    have qR1 := HR12.out.c 1 _ rfl
    have qR2 := HR12.out.c 2 _ rfl
    have qR3 := HR12.out.c 3 _ rfl
    have qR4 := HR12.out.c 4 _ rfl
    have qR5 := HR12.out.c 5 _ rfl
    have qR6 := HR12.out.c 6 _ rfl
    have hltRT_ := HRT12.out.lt
    have qRT0 := HRT12.out.c 0 _ rfl
    have qRT1 := HRT12.out.c 1 _ rfl
    have qRT2 := HRT12.out.c 2 _ rfl
    have qRT3 := HRT12.out.c 3 _ rfl
    have qRT4 := HRT12.out.c 4 _ rfl
    have qRT5 := HRT12.out.c 5 _ rfl
    have qRT6 := HRT12.out.c 6 _ rfl
    have hltRU_ := HRU12.out.lt
    have qRU0 := HRU12.out.c 0 _ rfl
    have qRU1 := HRU12.out.c 1 _ rfl
    have qRU2 := HRU12.out.c 2 _ rfl
    have qRU3 := HRU12.out.c 3 _ rfl
    have qRU4 := HRU12.out.c 4 _ rfl
    have qRU5 := HRU12.out.c 5 _ rfl
    have qRU6 := HRU12.out.c 6 _ rfl
    go_wp2_with (fail)
    have HB13 := Lib.hid (Below.next HB12.out (box1 w12 (.cells #[.int .i64 0, .int .i64 0, .string ⟨#[]⟩, .int .i64 0, .int .i64 0, .slice none 0 0, .int .i64 0] 36)))
    have HE13 := Lib.hid (HE12.out.next (box1 w12 (.cells #[.int .i64 0, .int .i64 0, .string ⟨#[]⟩, .int .i64 0, .int .i64 0, .slice none 0 0, .int .i64 0] 36)))
    have HP13 := Lib.hid (HP12.out.next (box1 w12 (.cells #[.int .i64 0, .int .i64 0, .string ⟨#[]⟩, .int .i64 0, .int .i64 0, .slice none 0 0, .int .i64 0] 36)))
    have HS13 := Lib.hid (HS12.out.next (box1 w12 (.cells #[.int .i64 0, .int .i64 0, .string ⟨#[]⟩, .int .i64 0, .int .i64 0, .slice none 0 0, .int .i64 0] 36)))
    have HR13 := Lib.hid (HR12.out.next (box1 w12 (.cells #[.int .i64 0, .int .i64 0, .string ⟨#[]⟩, .int .i64 0, .int .i64 0, .slice none 0 0, .int .i64 0] 36)))
    have HT13 := Lib.hid (HT12.out.next (box1 w12 (.cells #[.int .i64 0, .int .i64 0, .string ⟨#[]⟩, .int .i64 0, .int .i64 0, .slice none 0 0, .int .i64 0] 36)))
    have HRT13 := Lib.hid (HRT12.out.next (box1 w12 (.cells #[.int .i64 0, .int .i64 0, .string ⟨#[]⟩, .int .i64 0, .int .i64 0, .slice none 0 0, .int .i64 0] 36)))
    have HU13 := Lib.hid (HU12.out.next (box1 w12 (.cells #[.int .i64 0, .int .i64 0, .string ⟨#[]⟩, .int .i64 0, .int .i64 0, .slice none 0 0, .int .i64 0] 36)))
    have HRU13 := Lib.hid (HRU12.out.next (box1 w12 (.cells #[.int .i64 0, .int .i64 0, .string ⟨#[]⟩, .int .i64 0, .int .i64 0, .slice none 0 0, .int .i64 0] 36)))
    have HRV13 : Hid (Blk (w12.alloc (.cells #[.int .i64 0, .int .i64 0, .string ⟨#[]⟩, .int .i64 0, .int .i64 0, .slice none 0 0, .int .i64 0] 36)) w12.heap.size [.int .i64 0, .int .i64 0, .string ⟨#[]⟩, .int .i64 0, .int .i64 0, .slice none 0 0, .int .i64 0]) := Blk.made w12 36 [.int .i64 0, .int .i64 0, .string ⟨#[]⟩, .int .i64 0, .int .i64 0, .slice none 0 0, .int .i64 0] rfl
    obtain ⟨w13, hw13⟩ : ∃ w13, w12.alloc (.cells #[.int .i64 0, .int .i64 0, .string ⟨#[]⟩, .int .i64 0, .int .i64 0, .slice none 0 0, .int .i64 0] 36) = w13 := ⟨_, rfl⟩
    rw [hw13] at HB13 HE13 HP13 HS13 HR13 HT13 HRT13 HU13 HRU13 HRV13
    rw [hw13]
    obtain ⟨bRV, hbRV⟩ : ∃ b, w12.heap.size = b := ⟨_, rfl⟩
    rw [hbRV] at HRV13
    simp only [hbRV]
    clear HB12 HE12 HP12 HS12 HR12 HT12 HRT12 HU12 HRU12 hltR_ qR0 qR1 qR2 qR3 qR4 qR5 qR6 hltRT_ qRT0 qRT1 qRT2 qRT3 qRT4 qRT5 qRT6 hltRU_ qRU0 qRU1 qRU2 qRU3 qRU4 qRU5 qRU6 hw13 hbRV
    refine (same_pairs S.out Ao A1 co cA1 _ HS13.out HT13.out (by omega)).mono ?_
    rintro e w14 ⟨rfl, hb⟩
    have HB14 := Lib.hid (Below.next HB13.out hb)
    have HE14 := Lib.hid (HE13.out.next hb)
    have HP14 := Lib.hid (HP13.out.next hb)
    have HS14 := Lib.hid (HS13.out.next hb)
    have HR14 := Lib.hid (HR13.out.next hb)
    have HT14 := Lib.hid (HT13.out.next hb)
    have HRT14 := Lib.hid (HRT13.out.next hb)
    have HU14 := Lib.hid (HU13.out.next hb)
    have HRU14 := Lib.hid (HRU13.out.next hb)
    have HRV14 := Lib.hid (HRV13.out.next hb)
    clear HB13 HE13 HP13 HS13 HR13 HT13 HRT13 HU13 HRU13 HRV13  hb
    have hltR_ := HR14.out.lt
    have qR0 := HR14.out.c 0 _ rfl
    have qR1 := HR14.out.c 1 _ rfl
    have qR2 := HR14.out.c 2 _ rfl
    have qR3 := HR14.out.c 3 _ rfl
    have qR4 := HR14.out.c 4 _ rfl
    have qR5 := HR14.out.c 5 _ rfl
    have qR6 := HR14.out.c 6 _ rfl
    have hltRT_ := HRT14.out.lt
    have qRT0 := HRT14.out.c 0 _ rfl
    have qRT1 := HRT14.out.c 1 _ rfl
    have qRT2 := HRT14.out.c 2 _ rfl
    have qRT3 := HRT14.out.c 3 _ rfl
    have qRT4 := HRT14.out.c 4 _ rfl
    have qRT5 := HRT14.out.c 5 _ rfl
    have qRT6 := HRT14.out.c 6 _ rfl
    have hltRU_ := HRU14.out.lt
    have qRU0 := HRU14.out.c 0 _ rfl
    have qRU1 := HRU14.out.c 1 _ rfl
    have qRU2 := HRU14.out.c 2 _ rfl
    have qRU3 := HRU14.out.c 3 _ rfl
    have qRU4 := HRU14.out.c 4 _ rfl
    have qRU5 := HRU14.out.c 5 _ rfl
    have qRU6 := HRU14.out.c 6 _ rfl
    go_wp2_with (fail)
    refine (same_pairs S.out Ao A2 co cA2 _ HS14.out HU14.out (by omega)).mono ?_
    rintro e w15 ⟨rfl, hb⟩
    have HB15 := Lib.hid (Below.next HB14.out hb)
    have HE15 := Lib.hid (HE14.out.next hb)
    have HP15 := Lib.hid (HP14.out.next hb)
    have HS15 := Lib.hid (HS14.out.next hb)
    have HR15 := Lib.hid (HR14.out.next hb)
    have HT15 := Lib.hid (HT14.out.next hb)
    have HRT15 := Lib.hid (HRT14.out.next hb)
    have HU15 := Lib.hid (HU14.out.next hb)
    have HRU15 := Lib.hid (HRU14.out.next hb)
    have HRV15 := Lib.hid (HRV14.out.next hb)
    clear HB14 HE14 HP14 HS14 HR14 HT14 HRT14 HU14 HRU14 HRV14 hltR_ qR0 qR1 qR2 qR3 qR4 qR5 qR6 hltRT_ qRT0 qRT1 qRT2 qRT3 qRT4 qRT5 qRT6 hltRU_ qRU0 qRU1 qRU2 qRU3 qRU4 qRU5 qRU6 hb
    have hltR_ := HR15.out.lt
    have qR0 := HR15.out.c 0 _ rfl
    have qR1 := HR15.out.c 1 _ rfl
    have qR2 := HR15.out.c 2 _ rfl
    have qR3 := HR15.out.c 3 _ rfl
    have qR4 := HR15.out.c 4 _ rfl
    have qR5 := HR15.out.c 5 _ rfl
    have qR6 := HR15.out.c 6 _ rfl
    have hltRT_ := HRT15.out.lt
    have qRT0 := HRT15.out.c 0 _ rfl
    have qRT1 := HRT15.out.c 1 _ rfl
    have qRT2 := HRT15.out.c 2 _ rfl
    have qRT3 := HRT15.out.c 3 _ rfl
    have qRT4 := HRT15.out.c 4 _ rfl
    have qRT5 := HRT15.out.c 5 _ rfl
    have qRT6 := HRT15.out.c 6 _ rfl
    have hltRU_ := HRU15.out.lt
    have qRU0 := HRU15.out.c 0 _ rfl
    have qRU1 := HRU15.out.c 1 _ rfl
    have qRU2 := HRU15.out.c 2 _ rfl
    have qRU3 := HRU15.out.c 3 _ rfl
    have qRU4 := HRU15.out.c 4 _ rfl
    have qRU5 := HRU15.out.c 5 _ rfl
    have qRU6 := HRU15.out.c 6 _ rfl
    go_wp2_with (fail)
    go_ret
    exact ⟨by simp, HB15.out⟩
end Go.Proofs.YtcdjincaedpodaaGreatDoor.Ev

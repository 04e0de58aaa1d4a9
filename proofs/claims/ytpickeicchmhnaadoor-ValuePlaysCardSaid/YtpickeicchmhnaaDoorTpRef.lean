/-
  The document's answers for layer 5: Num, Whole, Text.
-/
import Derived.Test.YtpickeicchmhnaaDoorTpNum
import Derived.RegionTactic
import Derived.ChangeAlike
namespace Go.Proofs.YtpickeicchmhnaaDoor.Tp
open Go.ChangeShapes Go.WideShapes Go.ChangeAt Go.RowKit Go.Proofs.YtpickeicchmhnaaDoor.Ov

theorem one_text (q : World) (g : Nat) (x : Nat) (hx : x < 256) (h : q.cell? ⟨g, 0, none⟩ = some (.int .u8 (x : Int))) :
    (convert 57 9 (.slice (some ⟨g, 0, none⟩) 1 1)).run Tryd.prog q = .ok (.string (tx [UInt8.ofNat x])) q :=
  run_text rfl fun j hj => by
    have : j = 0 := by simp at hj; omega
    subst this
    rw [Nat.zero_add, h]
    show some (Value.int .u8 (x : Int)) = some (Value.int .u8 (((UInt8.ofNat x).toNat : Nat) : Int))
    rw [u8_nat hx]
set_option maxRecDepth 100000 in
theorem rnum_small (n : Nat) (w : World) (hn : n < 128) :
    Calls Tryd.prog 40 #[.int .i64 (n : Int)] w fun e w' => e = .returned (.string (tx (nb n))) ∧ Below w.heap.size w w' := by
  have hcv := one_text (w.alloc (.cells #[.int .u8 (n : Int)] 5)) w.heap.size n (by omega) (by simp)
  have HE := Lib.hid (nb_lt hn)
  go_enter Tryd.func40, Tryd.ntmps40
  go_wp2_with (fail)
  go_ret
  exact ⟨ret_str (by rw [HE.out]), (Below.refl _ _).alloc (Nat.le_refl _) _⟩
set_option maxRecDepth 100000 in
set_option maxHeartbeats 2000000 in
theorem rnum_yes (n : Nat) : ∀ (w : World), n ≤ 9007199254740991 →
    Calls Tryd.prog 40 #[.int .i64 (n : Int)] w fun e w' => e = .returned (.string (tx (nb n))) ∧ Below w.heap.size w w' := by
  induction n using Nat.strongRecOn with
  | _ n ih =>
    intro w hn
    by_cases hlt : n < 128
    · exact rnum_small n w hlt
    have HI : Hid (∀ w, Calls Tryd.prog 40 #[.int .i64 ((n / 128 : Nat) : Int)] w fun e w' => e = .returned (.string (tx (nb (n / 128)))) ∧ Below w.heap.size w w') := fun w => ih (n / 128) (by omega) w (by omega)
    clear ih
    have hl8 := nb_len8 (n := n / 128) (by omega)
    have e1 : IntKind.u8.wrap (IntKind.i64.wrap (128 + (n : Int).tmod 128)) = ((n % 128 + 128 : Nat) : Int) := by
      rw [Int.tmod_eq_emod_of_nonneg (by omega), IntWalk.i64_in _ (by omega), IntWalk.u8_in _ (by omega)]; omega
    have e2 : IntKind.i64.wrap ((n : Int) / 128) = ((n / 128 : Nat) : Int) := by rw [IntWalk.i64_in _ (by omega)]; omega
    have hm : n % 128 + 128 < 256 := by omega
    have HE : Hid (tx [UInt8.ofNat (n % 128 + 128)] ++ tx (nb (n / 128)) = tx (nb n)) := by show _ = _; rw [tx_append, nb_ge hlt]; rfl
    have hz : ¬ (tx [UInt8.ofNat (n % 128 + 128)]).size + (tx (nb (n / 128))).size > 9223372036854775807 := by rw [tx_size, tx_size, List.length_singleton]; omega
    have hge : ¬ (n : Int) < 128 := by omega
    have h0 : ¬ (n : Int) < 0 := by omega
    have hmx : ¬ 9007199254740991 < (n : Int) := by omega
    clear hlt hl8 hn
    generalize n / 128 = q at *
    generalize n % 128 + 128 = m at *
    generalize hM : tx [UInt8.ofNat m] = M at *
    generalize tx (nb q) = U at *
    have hone : ∀ (q : World) (g : Nat), q.cell? ⟨g, 0, none⟩ = some (.int .u8 (m : Int)) → (convert 57 9 (.slice (some ⟨g, 0, none⟩) 1 1)).run Tryd.prog q = .ok (.string M) q := fun q g h => by rw [← hM]; exact one_text q g m hm h
    clear hM
    have HO := Lib.hid hone; clear hone
    have hcA := HO.out (w.alloc (.cells #[.int .u8 (m : Int)] 5)).drew w.heap.size (by simp)
    go_enter Tryd.func40, Tryd.ntmps40
    go_wp2_with (fail)
    go_region_with (first
      | ((with_reducible refine (HI.out (w.alloc (.cells #[.int .u8 (m : Int)] 5)).drew).mono ?_); rintro e w1 ⟨rfl, hb⟩; (have hcB := HO.out w1 w.heap.size (by rw [hb.cell (p := ⟨w.heap.size, 0, none⟩) (by simp)]; simp)); (have HB1 : Hid (Below w.heap.size w w1) := (below_drewN ((Below.refl _ _).alloc (Nat.le_refl _) _) 1).trans (hb.mono (by simp))); clear hb)
      | ((with_reducible refine (HI.out w.drew).mono ?_); rintro e w1 ⟨rfl, hb⟩; (have hcB := HO.out (w1.alloc (.cells #[.int .u8 (m : Int)] 5)) w1.heap.size (by simp)); (have HB1 : Hid (Below w.heap.size w w1) := (below_drewN (Below.refl _ _) 1).trans hb); clear hb))
    all_goals
      go_wp2
      go_ret
      exact ⟨ret_str HE.out, by first | exact HB1.out | exact HB1.out.alloc HB1.out.size _⟩
set_option maxHeartbeats 400000 in
theorem rnum_no (n : Int) (w : World) (hn : n < 0 ∨ 9007199254740991 < n) :
    Calls Tryd.prog 40 #[.int .i64 n] w fun e w' => e = .returned (.string ⟨#[]⟩) ∧ Below w.heap.size w w' := by
  rcases hn with h | h
  · go_enter Tryd.func40, Tryd.ntmps40
    go_wp2_with (fail)
    go_ret
    exact ⟨rfl, Below.refl _ _⟩
  · have h0 : ¬ n < 0 := by omega
    go_enter Tryd.func40, Tryd.ntmps40
    go_wp2_with (fail)
    go_ret
    exact ⟨rfl, Below.refl _ _⟩
theorem rnum_any (n : Int) (w : World) :
    Calls Tryd.prog 40 #[.int .i64 n] w fun e w' => e = .returned (.string (tx (nv n))) ∧ Below w.heap.size w w' := by
  by_cases h : n < 0 ∨ 9007199254740991 < n
  · rw [nv_none.2 h]; exact rnum_no n w h
  · obtain ⟨m, rfl⟩ : ∃ m : Nat, n = (m : Int) := ⟨n.toNat, by omega⟩
    rw [nv_nat (by omega)]
    exact rnum_yes m w (by omega)
set_option maxRecDepth 100000 in
set_option maxHeartbeats 1000000 in
theorem rwhole_any (n : Int) (w : World) :
    Calls Tryd.prog 41 #[.int .i64 n] w fun e w' => e = .returned (.string (tx (wv n))) ∧ Below w.heap.size w w' := by
  by_cases h : n < -4503599627370496 ∨ 4503599627370495 < n
  · have HE : Hid (wv n = []) := if_pos h
    rcases h with h | h
    · go_enter Tryd.func41, Tryd.ntmps41
      go_wp2_with (fail)
      go_ret
      exact ⟨by rw [HE.out]; rfl, Below.refl _ _⟩
    · have h0 : ¬ n < -4503599627370496 := by omega
      go_enter Tryd.func41, Tryd.ntmps41
      go_wp2_with (fail)
      go_ret
      exact ⟨by rw [HE.out]; rfl, Below.refl _ _⟩
  · have h1 : ¬ n < -4503599627370496 := by omega
    have h2 : ¬ 4503599627370495 < n := by omega
    have HE : Hid (wv n = nb (wn n)) := if_neg h
    have HW := Lib.hid (wn_le (n := n) (by omega) (by omega))
    clear h
    by_cases h3 : n < 0
    · have HN : Hid (-2 * n - 1 = (wn n : Int)) := by show _ = _; unfold wn; rw [if_pos h3]; omega
      go_enter Tryd.func41, Tryd.ntmps41
      go_wp2_with (fail)
      rw [HN.out]
      refine (rnum_yes _ _ HW.out).mono ?_
      rintro e w1 ⟨rfl, hb⟩
      have HB := Lib.hid hb; clear hb
      go_wp2_with (fail)
      go_ret
      exact ⟨by rw [HE.out]; rfl, HB.out⟩
    · have HN : Hid (2 * n = (wn n : Int)) := by show _ = _; unfold wn; rw [if_neg h3]; omega
      go_enter Tryd.func41, Tryd.ntmps41
      go_wp2_with (fail)
      rw [HN.out]
      refine (rnum_yes _ _ HW.out).mono ?_
      rintro e w1 ⟨rfl, hb⟩
      have HB := Lib.hid hb; clear hb
      go_wp2_with (fail)
      go_ret
      exact ⟨by rw [HE.out]; rfl, HB.out⟩
set_option maxRecDepth 100000 in
set_option maxHeartbeats 1000000 in
theorem rtext_any (t : ByteArray) (w : World) (ht : t.size ≤ 1048576) :
    Calls Tryd.prog 42 #[.string t] w fun e w' => e = .returned (.string (tx (nb t.size ++ t.data.toList))) ∧ Below w.heap.size w w' := by
  have HE : Hid (tx (nb t.size) ++ t = tx (nb t.size ++ t.data.toList)) := tx_ext (by rw [list_append, tx_list])
  have hz : (tx (nb t.size)).size ≤ 8 := by rw [tx_size]; exact nb_len8 (by omega)
  go_enter Tryd.func42, Tryd.ntmps42
  go_wp2_with (fail)
  refine (rnum_yes _ _ (by omega)).mono ?_
  rintro e w1 ⟨rfl, hb⟩
  have HB := Lib.hid hb; clear hb
  generalize tx (nb t.size) = u at *
  have hz' : ¬ u.size + t.size > 9223372036854775807 := by omega
  go_wp2_with (fail)
  go_ret
  exact ⟨ret_str HE.out, HB.out⟩
end Go.Proofs.YtpickeicchmhnaaDoor.Tp

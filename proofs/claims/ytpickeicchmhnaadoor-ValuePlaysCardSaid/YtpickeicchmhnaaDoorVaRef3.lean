/-
  The document's answer for layer 7: Write (written by gen_varef3.py).
-/
import Derived.Test.YtpickeicchmhnaaDoorVaRef2
namespace Go.Proofs.YtpickeicchmhnaaDoor.Va
open Go.ChangeShapes Go.WideShapes Go.ChangeAt Go.RowKit Go.Proofs.YtpickeicchmhnaaDoor.Ov Go.Proofs.YtpickeicchmhnaaDoor.Ga Go.Proofs.YtpickeicchmhnaaDoor.Tp

set_option maxRecDepth 100000 in
set_option maxHeartbeats 2000000 in
theorem rwrite_int {n x y : Int} {s : ByteArray} (h : rt ⟨0, n, s.data.toList, x, y⟩ = true) (w : World) : Calls Tryd.prog 18 #[.agg #[.int .i64 0, .int .i64 n, .string s, .int .i64 x, .int .i64 y]] w (Gives (.string (tx (wr ⟨0, n, s.data.toList, x, y⟩))) w) := by
  have hr := (rt_int_in h).1
  clear h
  have HK := Lib.hid (fun w => rdec_any n w hr)
  rw [wr_int]
  generalize tx (Lib.itoa n) = t at *
  clear hr
  go_enter Tryd.func18, Tryd.ntmps18
  go_wp2_with (fail)
  have kb := Lib.hid (box1 w (.cells #[.int .i64 0, .int .i64 n, .string s, .int .i64 x, .int .i64 y] 25))
  have D := Blk.made w 25 (vcs 0 n s x y) rfl
  change Blk (w.alloc (.cells #[.int .i64 0, .int .i64 n, .string s, .int .i64 x, .int .i64 y] 25)) w.heap.size _ at D
  have DH := Lib.hid D; clear D
  generalize w.alloc (.cells #[.int .i64 0, .int .i64 n, .string s, .int .i64 x, .int .i64 y] 25) = v at *
  refine (HK.out _).mono ?_
  rintro e w1 ⟨rfl, hb⟩
  have HB := Lib.hid (Below.next kb.out hb)
  clear hb
  go_wp2_with (fail)
  go_ret
  exact ⟨rfl, HB.out⟩
set_option maxRecDepth 100000 in
set_option maxHeartbeats 2000000 in
theorem rwrite_point {n x y : Int} {s : ByteArray} (h : rt ⟨2, n, s.data.toList, x, y⟩ = true) (w : World) : Calls Tryd.prog 18 #[.agg #[.int .i64 2, .int .i64 n, .string s, .int .i64 x, .int .i64 y]] w (Gives (.string (tx (wr ⟨2, n, s.data.toList, x, y⟩))) w) := by
  have hr := (rt_point_in h).1
  clear h
  have HA := Lib.hid (fun w => rdec_any x w (by omega))
  have HC := Lib.hid (fun w => rdec_any y w (by omega))
  have z2 := itoa_le x (by omega)
  have z3 := itoa_le y (by omega)
  have HE : Hid (tx (Lib.itoa x) ++ ⟨#[58]⟩ ++ tx (Lib.itoa y) = tx (wr ⟨2, n, s.data.toList, x, y⟩)) := by
    show _ = _
    rw [wr_point, show (⟨#[58]⟩ : ByteArray) = tx [58] from rfl, tx_append, tx_append]
  generalize tx (Lib.itoa x) = a at *
  generalize tx (Lib.itoa y) = b at *
  have g1 : ¬ a.size + 1 > 9223372036854775807 := by omega
  have g2 : ¬ a.size + 1 + b.size > 9223372036854775807 := by omega
  clear z2 z3 hr
  go_enter Tryd.func18, Tryd.ntmps18
  go_wp2_with (fail)
  have kb := Lib.hid (box1 w (.cells #[.int .i64 2, .int .i64 n, .string s, .int .i64 x, .int .i64 y] 25))
  have D := Blk.made w 25 (vcs 2 n s x y) rfl
  change Blk (w.alloc (.cells #[.int .i64 2, .int .i64 n, .string s, .int .i64 x, .int .i64 y] 25)) w.heap.size _ at D
  have DH := Lib.hid D; clear D
  generalize w.alloc (.cells #[.int .i64 2, .int .i64 n, .string s, .int .i64 x, .int .i64 y] 25) = v at *
  have k3 := fun r : Over v => (DH.out.over r).v3
  have k4 := fun r : Over v => (DH.out.over r).v4
  refine wp_over (by kernel_rfl) (by kernel_rfl) ?_
  repeat (go_big_quiet_step (first | fail | with_reducible exact over_gives _ (HA.out _) | with_reducible exact over_gives _ (HC.out _)))
  refine wpQuiet_nil ?_
  rintro w3 ⟨⟨w3, hb⟩, rfl⟩
  have HB3 := Lib.hid (Below.next kb.out hb)
  clear hb k3 k4
  go_wp2_with (fail)
  go_ret
  exact ⟨ret_str HE.out, HB3.out⟩
theorem ext_one {s : ByteArray} {k : Nat} (h : k < s.size) : (s.extract k (k + 1)).data.toList = [s[k]] := by
  have hl : k < s.data.toList.length := by simpa using h
  rw [Lib.extract_data, List.drop_eq_getElem_cons hl, show k + 1 - k = 1 by omega]; rfl
set_option maxRecDepth 100000 in
set_option maxHeartbeats 2000000 in
theorem rwrite_text {n x y : Int} {s : ByteArray} (h : rt ⟨1, n, s.data.toList, x, y⟩ = true) (w : World) : Calls Tryd.prog 18 #[.agg #[.int .i64 1, .int .i64 n, .string s, .int .i64 x, .int .i64 y]] w (Gives (.string (tx (wr ⟨1, n, s.data.toList, x, y⟩))) w) := by
  have hs : s.size ≤ 4096 := by
    have := (rt_text_in h).1
    simpa using this
  clear h
  rw [wr_text]
  go_enter Tryd.func18, Tryd.ntmps18
  go_wp2_with (fail)
  have kb := Lib.hid (box1 w (.cells #[.int .i64 1, .int .i64 n, .string s, .int .i64 x, .int .i64 y] 25))
  have D := Blk.made w 25 (vcs 1 n s x y) rfl
  change Blk (w.alloc (.cells #[.int .i64 1, .int .i64 n, .string s, .int .i64 x, .int .i64 y] 25)) w.heap.size _ at D
  have DH := Lib.hid D; clear D
  generalize w.alloc (.cells #[.int .i64 1, .int .i64 n, .string s, .int .i64 x, .int .i64 y] 25) = v at *
  go_wp2_with (fail)
  go_loopw [3, 4] (fun u i wr => ∃ k : Nat, k ≤ s.size ∧ i = .int .i64 (k : Int) ∧ u = .string (tx (34 :: esc (s.data.toList.take k))) ∧ Below v.heap.size v wr) (fun _ i _ => s.size - (intOf i).toNat)
  case atStart => exact ⟨0, Nat.zero_le _, rfl, rfl, Below.refl _ _⟩
  case round =>
    obtain ⟨k, hk, rfl, rfl, hb⟩ := hrel
    have HB := Lib.hid hb
    have D1 := DH.out.next hb
    have d2 := D1.v2
    have D1H := Lib.hid D1
    clear hb D1
    have zu : (tx (34 :: esc (s.data.toList.take k))).size ≤ 12290 := by
      rw [tx_size, List.length_cons]
      have h1 := esc_le (s.data.toList.take k)
      have h2 : (s.data.toList.take k).length ≤ k := List.length_take_le _ _
      omega
    by_cases hlt : k < s.size
    · have HS := Lib.hid (esc_take s k hlt)
      have HX := Lib.hid (ext_one hlt)
      obtain ⟨c, hc⟩ : ∃ c : UInt8, s[k] = c := ⟨_, rfl⟩
      rw [hc] at HS HX
      have HP := Lib.hid (rplain_any c)
      have hcl := c.toNat_lt
      by_cases hp : pl c = true
      · have HE : Hid (tx (34 :: esc (s.data.toList.take k)) ++ s.extract k (k + 1) = tx (34 :: esc (s.data.toList.take (k + 1)))) := by
          show _ = _
          rw [HS.out, tx_ext HX.out, tx_append, show e1 c = [c] from if_pos hp]; rfl
        have hz : (s.extract k (k + 1)).size = 1 := by
          rw [ByteArray.size_extract]; omega
        have hsl : ∀ w, (Instr.slice 9 (.string s) (some (.int .i64 (k : Int))) (some (.int .i64 ((k : Int) + 1))) none).run Tryd.prog w = .ok (.string (s.extract k (k + 1))) w := fun w =>
          run_slice_string (P := Tryd.prog) w 9 s .i64 .i64 (k : Int) ((k : Int) + 1) Tryd.underlying9 (by omega) (by omega) (by omega)
        rw [hp] at HP; clear hp HS HX
        generalize tx (34 :: esc (s.data.toList.take k)) = u at *
        generalize s.extract k (k + 1) = t at *
        have g1 : ¬ u.size + t.size > 9223372036854775807 := by omega
        clear hz
        go_wp2_with (fail)
        refine (HP.out _).mono ?_
        rintro e w' ⟨rfl, rfl⟩
        go_wp2_with (fail)
        go_roundw
        case rel => exact ⟨k + 1, by omega, by go_num, by rw [← HE.out], HB.out⟩
        case measure => simp [intOf]; omega
      · have hp' : pl c = false := by simpa using hp
        have HE : Hid (tx (34 :: esc (s.data.toList.take k)) ++ ⟨#[92]⟩ ++ tx [hx (c.toNat / 16)] ++ tx [hx (c.toNat % 16)] = tx (34 :: esc (s.data.toList.take (k + 1)))) := by
          show _ = _
          rw [HS.out, show (⟨#[92]⟩ : ByteArray) = tx [92] from rfl, tx_append, tx_append, tx_append, show e1 c = [92, hx (c.toNat / 16), hx (c.toNat % 16)] from if_neg hp]; simp
        have HA : Hid (∀ w, Calls Tryd.prog 45 #[.int .i64 ((c.toNat : Int) / 16)] w (Gives (.string (tx [hx (c.toNat / 16)])) w)) := fun w => rhex_any (c.toNat / 16) w (by omega)
        have HC : Hid (∀ w, Calls Tryd.prog 45 #[.int .i64 ((c.toNat : Int) % 16)] w (Gives (.string (tx [hx (c.toNat % 16)])) w)) := fun w => rhex_any (c.toNat % 16) w (by omega)
        have za : (tx [hx (c.toNat / 16)]).size = 1 := tx_size _
        have zb : (tx [hx (c.toNat % 16)]).size = 1 := tx_size _
        rw [hp'] at HP; clear hp hp' HS HX
        generalize tx (34 :: esc (s.data.toList.take k)) = u at *
        generalize tx [hx (c.toNat / 16)] = a at *
        generalize tx [hx (c.toNat % 16)] = b at *
        have g1 : ¬ u.size + 1 > 9223372036854775807 := by omega
        have g2 : ¬ u.size + 1 + a.size > 9223372036854775807 := by omega
        have g3 : ¬ u.size + 1 + a.size + b.size > 9223372036854775807 := by omega
        clear za zb zu
        go_wp2_with (fail)
        refine (HP.out _).mono ?_
        rintro e w' ⟨rfl, rfl⟩
        go_wp2_with (fail)
        have k2 := fun r : Over wr => (D1H.out.over r).v2
        refine wp_over (by kernel_rfl) (by kernel_rfl) ?_
        repeat (go_big_quiet_step (first | fail | with_reducible exact over_gives _ (HA.out _) | with_reducible exact over_gives _ (HC.out _)))
        refine wpQuiet_nil ?_
        rintro w3 ⟨⟨w3, hb⟩, rfl⟩
        have HB3 := Lib.hid (Below.next HB.out hb)
        clear hb k2
        go_wp2_with (fail)
        go_roundw
        case rel => exact ⟨k + 1, by omega, by go_num, by rw [← HE.out], HB3.out⟩
        case measure => simp [intOf]; omega
    · have HE : Hid (tx (34 :: esc (s.data.toList.take k)) ++ ⟨#[34]⟩ = tx (34 :: (esc s.data.toList ++ [34]))) := by
        show _ = _
        rw [show (⟨#[34]⟩ : ByteArray) = tx [34] from rfl, tx_append, List.take_of_length_le (by simp; omega)]; rfl
      generalize tx (34 :: esc (s.data.toList.take k)) = u at *
      have g1 : ¬ u.size + 1 > 9223372036854775807 := by omega
      clear zu
      go_wp2_with (fail)
      go_ret
      exact ⟨ret_str HE.out, Below.next kb.out HB.out⟩
theorem rwrite_yes {k n x y : Int} {s : ByteArray} (h : rt ⟨k, n, s.data.toList, x, y⟩ = true) (w : World) : Calls Tryd.prog 18 #[.agg #[.int .i64 k, .int .i64 n, .string s, .int .i64 x, .int .i64 y]] w (Gives (.string (tx (wr ⟨k, n, s.data.toList, x, y⟩))) w) := by
  by_cases h0 : k = 0
  · subst h0; exact rwrite_int h w
  by_cases h1 : k = 1
  · subst h1; exact rwrite_text h w
  by_cases h2 : k = 2
  · subst h2; exact rwrite_point h w
  rw [rt_kind n x y _ h0 h1 h2] at h; cases h
end Go.Proofs.YtpickeicchmhnaaDoor.Va

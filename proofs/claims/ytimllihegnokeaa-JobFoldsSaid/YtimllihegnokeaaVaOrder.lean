/-
  The order of values: cmp.Or, orderSpots, Order.
-/
import Derived.Test.YtimllihegnokeaaVaRight
import Derived.Test.YtimllihegnokeaaOvTail
namespace Go.Proofs.Ytimllihegnokeaa.Va
open Go.ChangeShapes Go.WideShapes Go.ChangeAt Go.RowKit Go.Proofs.Ytimllihegnokeaa.Ov Go.Proofs.Ytimllihegnokeaa.Ga

theorem over_id {w : World} {P : Program} {f : FuncId} {args : Array Value} {v : Value} (q : Over w) (h : Calls P f args q.val fun e w' => e = .returned v ∧ q.val = w') :
    Calls P f args q.val fun e w' => e = .returned v ∧ ∃ q' : Over w, w' = q'.val := h.mono fun _ _ ⟨he, hw⟩ => ⟨he, q, hw.symm⟩
/-- The first that isn't 0. -/
def orl : List Int → Int
  | [] => 0
  | a :: t => if a ≠ 0 then a else orl t
theorem orl4 (a b c d : Int) : orl [a, b, c, d] = or4 a b c d := by
  unfold or4; simp only [orl]
  split
  · rfl
  · split
    · rfl
    · split
      · rfl
      · split
        · rfl
        · omega
theorem orl_drop {l : List Int} {k : Nat} (h : k < l.length) : orl (l.drop k) = if l[k] ≠ 0 then l[k] else orl (l.drop (k + 1)) := by
  rw [List.drop_eq_getElem_cons h]; rfl
set_option maxHeartbeats 1000000 in
theorem or_any (l : List Int) (b : Nat) (w : World) (h : Blk w b (l.map fun a => Value.int .i64 a)) (hl : l.length ≤ 4) : Calls Try.prog 21 #[.slice (some ⟨b, 0, none⟩) l.length l.length] w fun e w' => e = .returned (.int .i64 (orl l)) ∧ w = w' := by
  have H := Lib.hid h; clear h
  obtain ⟨n, hn⟩ : ∃ n, l.length = n := ⟨_, rfl⟩
  rw [hn] at hl ⊢
  have HN := Lib.hid hn; clear hn
  go_enter Try.func21, Try.ntmps21
  go_wp2_with (fail)
  go_loop [5, 8] (fun _ i => ∃ k : Nat, k ≤ n ∧ i = .int .i64 k ∧ orl l = orl (l.drop k)) (fun _ i => n - (intOf i).toNat)
  case atStart => exact ⟨0, Nat.zero_le _, rfl, by simp⟩
  case round =>
    obtain ⟨k, hk, rfl, hd⟩ := hrel
    have HD := Lib.hid hd; clear hd
    by_cases hlt : k < n
    · have hkl : k < l.length := by have := HN.out; omega
      obtain ⟨a, ha⟩ : ∃ a, l[k] = a := ⟨_, rfl⟩
      have HS : Hid (orl (l.drop k) = if a ≠ 0 then a else orl (l.drop (k + 1))) := by
        show _ = _
        rw [orl_drop hkl, ha]
      have hc : w.cell? ⟨b, k, none⟩ = some (.int .i64 a) := H.out.c k _ (by rw [List.getElem?_map, List.getElem?_eq_getElem hkl, ha]; rfl)
      clear ha hkl
      by_cases hz : a = 0
      · subst hz
        go_wp2_with (fail)
        go_round
        case rel => exact ⟨k + 1, by omega, by go_num, by rw [HD.out, HS.out]; rfl⟩
        case measure => simp [intOf]; omega
      · have hne : (a != 0) = true := bne_iff_ne.2 hz
        have HZ := Lib.hid hz; clear hz
        go_wp2_with (fail)
        go_ret
        exact ⟨ret_int (by rw [HD.out, HS.out, if_pos HZ.out]), rfl⟩
    · have HS : Hid (orl (l.drop k) = 0) := by
        show _ = _
        rw [List.drop_of_length_le (by have := HN.out; omega)]; rfl
      go_wp2_with (fail)
      go_ret
      exact ⟨ret_int (by rw [HD.out, HS.out]), rfl⟩
set_option maxHeartbeats 1000000 in
theorem spots_any (x y u v : Int) (w : World) : Calls Try.prog 24 #[.agg #[.int .i64 x, .int .i64 y], .agg #[.int .i64 u, .int .i64 v]] w (Gives (.int .i64 (cP x y u v)) w) := by
  have H1 := Lib.hid (less_any x y u v)
  have H2 := Lib.hid (less_any u v x y)
  have he : cP x y u v = if decide (x < u ∨ x = u ∧ y < v) = true then -1 else if decide (u < x ∨ u = x ∧ v < y) = true then 1 else 0 := by
    unfold cP; simp only [decide_eq_true_eq]
  rw [he]; clear he
  generalize decide (x < u ∨ x = u ∧ y < v) = p at *
  generalize decide (u < x ∨ u = x ∧ v < y) = q at *
  cases p
  · cases q
    · go_enter Try.func24, Try.ntmps24
      go_wp2_with (fail)
      refine (H1.out _).mono ?_
      rintro e w1 ⟨rfl, hb⟩
      have HB := Lib.hid (Below.next (box2 w _ _) hb)
      have D1 := ((Blk.made w 23 [.int .i64 x, .int .i64 y] rfl).old (.cells #[.int .i64 u, .int .i64 v] 23)).next hb
      have D2 := (Blk.made (w.alloc (.cells #[.int .i64 x, .int .i64 y] 23)) 23 [.int .i64 u, .int .i64 v] (World.size_alloc _ _)).next hb
      have c0 := D1.c 0 _ rfl
      have c1 := D1.c 1 _ rfl
      have c2 := D2.c 0 _ rfl
      have c3 := D2.c 1 _ rfl
      clear hb D1 D2
      go_wp2_with (fail)
      clear c0 c1 c2 c3
      refine (H2.out _).mono ?_
      rintro e w2 ⟨rfl, hb⟩
      have HB2 := Lib.hid (Below.next HB.out hb)
      clear hb
      go_wp2_with (fail)
      go_ret
      exact ⟨rfl, HB2.out⟩
    · go_enter Try.func24, Try.ntmps24
      go_wp2_with (fail)
      refine (H1.out _).mono ?_
      rintro e w1 ⟨rfl, hb⟩
      have HB := Lib.hid (Below.next (box2 w _ _) hb)
      have D1 := ((Blk.made w 23 [.int .i64 x, .int .i64 y] rfl).old (.cells #[.int .i64 u, .int .i64 v] 23)).next hb
      have D2 := (Blk.made (w.alloc (.cells #[.int .i64 x, .int .i64 y] 23)) 23 [.int .i64 u, .int .i64 v] (World.size_alloc _ _)).next hb
      have c0 := D1.c 0 _ rfl
      have c1 := D1.c 1 _ rfl
      have c2 := D2.c 0 _ rfl
      have c3 := D2.c 1 _ rfl
      clear hb D1 D2
      go_wp2_with (fail)
      clear c0 c1 c2 c3
      refine (H2.out _).mono ?_
      rintro e w2 ⟨rfl, hb⟩
      have HB2 := Lib.hid (Below.next HB.out hb)
      clear hb
      go_wp2_with (fail)
      go_ret
      exact ⟨rfl, HB2.out⟩
  · go_enter Try.func24, Try.ntmps24
    go_wp2_with (fail)
    refine (H1.out _).mono ?_
    rintro e w1 ⟨rfl, hb⟩
    have HB := Lib.hid (Below.next (box2 w _ _) hb)
    have D1 := ((Blk.made w 23 [.int .i64 x, .int .i64 y] rfl).old (.cells #[.int .i64 u, .int .i64 v] 23)).next hb
    have D2 := (Blk.made (w.alloc (.cells #[.int .i64 x, .int .i64 y] 23)) 23 [.int .i64 u, .int .i64 v] (World.size_alloc _ _)).next hb
    have c0 := D1.c 0 _ rfl
    have c1 := D1.c 1 _ rfl
    have c2 := D2.c 0 _ rfl
    have c3 := D2.c 1 _ rfl
    clear hb D1 D2
    go_wp2_with (fail)
    go_ret
    exact ⟨rfl, HB.out⟩
set_option maxHeartbeats 4000000 in
theorem order_val (k n x y k' n' x' y' : Int) (s s' : ByteArray) (w : World) : Calls Try.prog 15 #[.agg #[.int .i64 k, .int .i64 n, .string s, .int .i64 x, .int .i64 y], .agg #[.int .i64 k', .int .i64 n', .string s', .int .i64 x', .int .i64 y']] w
    (Gives (.int .i64 (ord ⟨k, n, s.data.toList, x, y⟩ ⟨k', n', s'.data.toList, x', y'⟩)) w) := by
  have HI := Lib.hid cmpI_any
  have HS := Lib.hid (cmpS_any s s')
  have HP := Lib.hid (spots_any x y x' y')
  have HE : Hid (ord ⟨k, n, s.data.toList, x, y⟩ ⟨k', n', s'.data.toList, x', y'⟩ = orl [cI k k', cI n n', cS s.data.toList s'.data.toList, cP x y x' y']) := by
    show _ = _
    rw [orl4]; rfl
  generalize cS s.data.toList s'.data.toList = c3 at *
  generalize cP x y x' y' = c4 at *
  go_enter Try.func15, Try.ntmps15
  go_wp2_with (fail)
  have kb := Lib.hid (box2 w (.cells #[.int .i64 k, .int .i64 n, .string s, .int .i64 x, .int .i64 y] 25) (.cells #[.int .i64 k', .int .i64 n', .string s', .int .i64 x', .int .i64 y'] 25))
  have D := (Blk.made w 25 (vcs k n s x y) rfl).old (.cells #[.int .i64 k', .int .i64 n', .string s', .int .i64 x', .int .i64 y'] 25)
  have E := Blk.made (w.alloc (.cells #[.int .i64 k, .int .i64 n, .string s, .int .i64 x, .int .i64 y] 25)) 25 (vcs k' n' s' x' y') (World.size_alloc _ _)
  change Blk ((w.alloc (.cells #[.int .i64 k, .int .i64 n, .string s, .int .i64 x, .int .i64 y] 25)).alloc (.cells #[.int .i64 k', .int .i64 n', .string s', .int .i64 x', .int .i64 y'] 25)) w.heap.size _ at D
  change Blk ((w.alloc (.cells #[.int .i64 k, .int .i64 n, .string s, .int .i64 x, .int .i64 y] 25)).alloc (.cells #[.int .i64 k', .int .i64 n', .string s', .int .i64 x', .int .i64 y'] 25)) (w.heap.size + 1) _ at E
  generalize (w.alloc (.cells #[.int .i64 k, .int .i64 n, .string s, .int .i64 x, .int .i64 y] 25)).alloc (.cells #[.int .i64 k', .int .i64 n', .string s', .int .i64 x', .int .i64 y'] 25) = v at *
  have d0 := fun r : Over v => (D.over r).v0
  have d1 := fun r : Over v => (D.over r).v1
  have d2 := fun r : Over v => (D.over r).v2
  have d3 := fun r : Over v => (D.over r).v3
  have d4 := fun r : Over v => (D.over r).v4
  have e0 := fun r : Over v => (E.over r).v0
  have e1 := fun r : Over v => (E.over r).v1
  have e2 := fun r : Over v => (E.over r).v2
  have e3 := fun r : Over v => (E.over r).v3
  have e4 := fun r : Over v => (E.over r).v4
  clear D E
  refine wp_over_tail 20 (by kernel_rfl) (by kernel_rfl) ?_
  simp only [List.take_succ_cons, List.take_zero, List.drop_succ_cons, List.drop_zero]
  repeat (go_big_quiet_step (first | fail | with_reducible exact over_id _ (HI.out _ _ _) | with_reducible exact over_id _ (HS.out _) | with_reducible exact over_gives _ (HP.out _)))
  refine wpQuiet_nil ?_
  rintro w2 ⟨⟨w2, hb⟩, rfl⟩
  have HB := Lib.hid (Below.next kb.out hb)
  clear hb kb d0 d1 d2 d3 d4 e0 e1 e2 e3 e4
  go_wp2_with (fail)
  refine (or_any [cI k k', cI n n', c3, c4] w2.heap.size _ (Blk.made w2 3 [.int .i64 (cI k k'), .int .i64 (cI n n'), .int .i64 c3, .int .i64 c4] rfl) (Nat.le_refl _)).mono ?_
  rintro e w' ⟨rfl, rfl⟩
  have HB2 := Lib.hid (Below.next HB.out (box1 w2 (.cells #[.int .i64 (cI k k'), .int .i64 (cI n n'), .int .i64 c3, .int .i64 c4] 3)))
  go_wp2_with (fail)
  go_ret
  exact ⟨ret_int HE.out.symm, HB2.out⟩
end Go.Proofs.Ytimllihegnokeaa.Va

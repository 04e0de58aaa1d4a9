/-
  Jobs: folds of values.
-/
import Derived.Test.YtimllihegnokeaaJoSmall
import Derived.Test.YtimllihegnokeaaVaOrder
import Derived.Test.YtimllihegnokeaaGaCommon
import Derived.Test.YtimllihegnokeaaOvClone
import Derived.Test.YtimllihegnokeaaOvTail
namespace Go.Proofs.Ytimllihegnokeaa.Jo
open Go.ChangeShapes Go.WideShapes Go.ChangeAt Go.RowKit Go.Proofs.Ytimllihegnokeaa.Ov Go.Proofs.Ytimllihegnokeaa.Ga Go.Proofs.Ytimllihegnokeaa.Va

theorem five {w : World} {b : Nat} {x0 x1 x2 x3 x4 : Value} (h : Blk w b [x0, x1, x2, x3, x4]) : w.cell? ⟨b, 0, none⟩ = some x0 ∧ w.cell? ⟨b, 1, none⟩ = some x1 ∧ w.cell? ⟨b, 2, none⟩ = some x2 ∧ w.cell? ⟨b, 3, none⟩ = some x3 ∧ w.cell? ⟨b, 4, none⟩ = some x4 := ⟨h.c 0 _ rfl, h.c 1 _ rfl, h.c 2 _ rfl, h.c 3 _ rfl, h.c 4 _ rfl⟩
theorem thaw {w : World} {b : Nat} {x0 x1 x2 x3 x4 : Value} (h : Blk w b [x0, x1, x2, x3, x4]) : w.frozen? ⟨b, 0, none⟩ = false ∧ w.frozen? ⟨b, 1, none⟩ = false ∧ w.frozen? ⟨b, 2, none⟩ = false ∧ w.frozen? ⟨b, 3, none⟩ = false ∧ w.frozen? ⟨b, 4, none⟩ = false := ⟨h.f 0 _ rfl, h.f 1 _ rfl, h.f 2 _ rfl, h.f 3 _ rfl, h.f 4 _ rfl⟩
/-- A walk's end: five cells are laid into the box b, and are the answer. -/
theorem fin5 {P : World → Prop} {lo : Nat} {W w : World} {b : Nat} {x0 x1 x2 x3 x4 : Value} (h : Blk w b [x0, x1, x2, x3, x4]) (hb : Below lo W w) (hlo : lo ≤ b) (a0 a1 a2 a3 a4 : Value)
    (k : ∀ w', Blk w' b [a0, a1, a2, a3, a4] → Below lo W w' → (∀ c ys, c ≠ b → Blk w c ys → Blk w' c ys) → P w') : P (((((w.setCell ⟨b, 0, none⟩ a0).setCell ⟨b, 1, none⟩ a1).setCell ⟨b, 2, none⟩ a2).setCell ⟨b, 3, none⟩ a3).setCell ⟨b, 4, none⟩ a4) :=
  k _ (((((h.set 0 a0).set 1 a1).set 2 a2).set 3 a3).set 4 a4) (((((hb.setCell hlo _).setCell hlo _).setCell hlo _).setCell hlo _).setCell hlo _) fun _ _ hc g => ((((g.put (Ne.symm hc) 0 a0).put (Ne.symm hc) 1 a1).put (Ne.symm hc) 2 a2).put (Ne.symm hc) 3 a3).put (Ne.symm hc) 4 a4
theorem fin2 {P : World → Prop} {lo : Nat} {W w : World} {b : Nat} {x0 x1 : Value} (h : Duo w b x0 x1) (hb : Below lo W w) (hlo : lo ≤ b) (a0 a1 : Value)
    (k : ∀ w', Duo w' b a0 a1 → Below lo W w' → P w') : P ((w.setCell ⟨b, 0, none⟩ a0).setCell ⟨b, 1, none⟩ a1) := k _ (h.set a0 a1) ((hb.setCell hlo _).setCell hlo _)
theorem two_boxes (w : World) (t : TypeId) (xs ys zs : List Value) : Blk (((w.alloc (.cells xs.toArray t)).alloc (.cells ys.toArray t)).alloc (.cells zs.toArray t)) w.heap.size xs ∧
    Blk (((w.alloc (.cells xs.toArray t)).alloc (.cells ys.toArray t)).alloc (.cells zs.toArray t)) (w.heap.size + 1) ys ∧ Blk (((w.alloc (.cells xs.toArray t)).alloc (.cells ys.toArray t)).alloc (.cells zs.toArray t)) (w.heap.size + 1 + 1) zs ∧
    Below w.heap.size w (((w.alloc (.cells xs.toArray t)).alloc (.cells ys.toArray t)).alloc (.cells zs.toArray t)) :=
  ⟨((Blk.made w t xs rfl).old _).old _, (Blk.made _ t ys (World.size_alloc _ _)).old _, Blk.made _ t zs (by simp [World.size_alloc]), box3 _ _ _ _⟩
set_option maxHeartbeats 1000000 in
theorem choose_b (c : ByteArray) (k n x y k' n' x' y' : Int) (s s' : ByteArray) (hs : s'.size ≤ 281474976710656) (w : World) (h : (decide (ord ⟨k, n, s.data.toList, x, y⟩ ⟨k', n', s'.data.toList, x', y'⟩ < 0) == (c.toList == [109, 97, 120])) = true) :
    Calls Try.prog 8 #[.string c, .agg #[.int .i64 k, .int .i64 n, .string s, .int .i64 x, .int .i64 y], .agg #[.int .i64 k', .int .i64 n', .string s', .int .i64 x', .int .i64 y']] w (Gives (.agg #[.int .i64 k', .int .i64 n', .string s', .int .i64 x', .int .i64 y']) w) := by
  have HO := Lib.hid (order_val k n x y k' n' x' y' s s')
  have HC := Lib.hid (fun w1 => clone_any s' w1 hs)
  generalize ord ⟨k, n, s.data.toList, x, y⟩ ⟨k', n', s'.data.toList, x', y'⟩ = o at *
  obtain ⟨D1, D2, D3, hb0⟩ := two_boxes w 25 [.int .i64 k, .int .i64 n, .string s, .int .i64 x, .int .i64 y] [.int .i64 k', .int .i64 n', .string s', .int .i64 x', .int .i64 y'] [.int .i64 0, .int .i64 0, .string ⟨#[]⟩, .int .i64 0, .int .i64 0]
  have H1 := Lib.hid D1; have H2 := Lib.hid D2; have H3 := Lib.hid D3; have HB := Lib.hid hb0; clear D1 D2 D3 hb0
  go_enter Try.func8, Try.ntmps8
  go_wp2_with (fail)
  refine (HO.out _).mono ?_
  rintro e w1 ⟨rfl, hb⟩
  replace H1 := Lib.hid (H1.out.next hb); replace H2 := Lib.hid (H2.out.next hb); replace H3 := Lib.hid (H3.out.next hb); replace HB := Lib.hid (Below.next HB.out hb); clear hb
  obtain ⟨c0, c1, c2, c3, c4⟩ := five H2.out
  obtain ⟨f0, f1, f2, f3, f4⟩ := thaw H1.out
  obtain ⟨e0, e1, e2, e3, e4⟩ := five H1.out
  go_wp2_with (fail)
  clear c0 c1 c2 c3 c4 f0 f1 f2 f3 f4 e0 e1 e2 e3 e4
  refine fin5 (P := fun W => Calls Try.prog _ _ W _) H1.out HB.out (Nat.le_refl _) _ _ _ _ _ fun w2 hx hy ho => ?_
  replace H3 := Lib.hid (ho _ _ (by omega) H3.out); replace H1 := Lib.hid hx; replace HB := Lib.hid hy; clear hx hy ho H2
  refine (HC.out _).mono ?_
  rintro e w3 ⟨rfl, hb⟩
  replace H1 := Lib.hid (H1.out.next hb); replace H3 := Lib.hid (H3.out.next hb); replace HB := Lib.hid (Below.next HB.out hb); clear hb
  obtain ⟨c0, c1, c2, c3, c4⟩ := five H1.out
  obtain ⟨f0, f1, f2, f3, f4⟩ := thaw H3.out
  obtain ⟨e0, e1, e2, e3, e4⟩ := five H3.out
  have g2 := H1.out.f 2 _ rfl
  go_wp2_with (fail)
  have h3 := H3.out.put (show w.heap.size ≠ w.heap.size + 1 + 1 by omega) 2 (.string s')
  have hb3 := HB.out.setCell (p := ⟨w.heap.size, 2, none⟩) (Nat.le_refl _) (.string s')
  clear c0 c1 c2 c3 c4 f0 f1 f2 f3 f4 e0 e1 e2 e3 e4 g2
  refine fin5 (P := bodyPost _ _ _ _ _) h3 hb3 (by omega) _ _ _ _ _ fun w4 hx hy _ => ?_
  obtain ⟨c0, c1, c2, c3, c4⟩ := five hx
  exact bodyPost_ret (v := .agg #[.int .i64 k', .int .i64 n', .string s', .int .i64 x', .int .i64 y']) (by simp [results, Try.results8, go_sem, c0, c1, c2, c3, c4]) rfl ⟨rfl, hy⟩
set_option maxHeartbeats 1000000 in
theorem choose_a (c : ByteArray) (k n x y k' n' x' y' : Int) (s s' : ByteArray) (hs : s.size ≤ 281474976710656) (w : World) (h : (decide (ord ⟨k, n, s.data.toList, x, y⟩ ⟨k', n', s'.data.toList, x', y'⟩ < 0) == (c.toList == [109, 97, 120])) = false) :
    Calls Try.prog 8 #[.string c, .agg #[.int .i64 k, .int .i64 n, .string s, .int .i64 x, .int .i64 y], .agg #[.int .i64 k', .int .i64 n', .string s', .int .i64 x', .int .i64 y']] w (Gives (.agg #[.int .i64 k, .int .i64 n, .string s, .int .i64 x, .int .i64 y]) w) := by
  have HO := Lib.hid (order_val k n x y k' n' x' y' s s')
  have HC := Lib.hid (fun w1 => clone_any s w1 hs)
  generalize ord ⟨k, n, s.data.toList, x, y⟩ ⟨k', n', s'.data.toList, x', y'⟩ = o at *
  obtain ⟨D1, D2, D3, hb0⟩ := two_boxes w 25 [.int .i64 k, .int .i64 n, .string s, .int .i64 x, .int .i64 y] [.int .i64 k', .int .i64 n', .string s', .int .i64 x', .int .i64 y'] [.int .i64 0, .int .i64 0, .string ⟨#[]⟩, .int .i64 0, .int .i64 0]
  have H1 := Lib.hid D1; have H2 := Lib.hid D2; have H3 := Lib.hid D3; have HB := Lib.hid hb0; clear D1 D2 D3 hb0
  go_enter Try.func8, Try.ntmps8
  go_wp2_with (fail)
  refine (HO.out _).mono ?_
  rintro e w1 ⟨rfl, hb⟩
  replace H1 := Lib.hid (H1.out.next hb); replace H2 := Lib.hid (H2.out.next hb); replace H3 := Lib.hid (H3.out.next hb); replace HB := Lib.hid (Below.next HB.out hb); clear hb
  obtain ⟨c0, c1, c2, c3, c4⟩ := five H1.out
  go_wp2_with (fail)
  clear c0 c1 c2 c3 c4
  refine (HC.out _).mono ?_
  rintro e w3 ⟨rfl, hb⟩
  replace H1 := Lib.hid (H1.out.next hb); replace H2 := Lib.hid (H2.out.next hb); replace H3 := Lib.hid (H3.out.next hb); replace HB := Lib.hid (Below.next HB.out hb); clear hb
  obtain ⟨c0, c1, c2, c3, c4⟩ := five H1.out
  obtain ⟨f0, f1, f2, f3, f4⟩ := thaw H3.out
  obtain ⟨e0, e1, e2, e3, e4⟩ := five H3.out
  have g2 := H1.out.f 2 _ rfl
  go_wp2_with (fail)
  have h3 := H3.out.put (show w.heap.size ≠ w.heap.size + 1 + 1 by omega) 2 (.string s)
  have hb3 := HB.out.setCell (p := ⟨w.heap.size, 2, none⟩) (Nat.le_refl _) (.string s)
  clear c0 c1 c2 c3 c4 f0 f1 f2 f3 f4 e0 e1 e2 e3 e4 g2
  refine fin5 (P := bodyPost _ _ _ _ _) h3 hb3 (by omega) _ _ _ _ _ fun w4 hx hy _ => ?_
  obtain ⟨c0, c1, c2, c3, c4⟩ := five hx
  exact bodyPost_ret (v := .agg #[.int .i64 k, .int .i64 n, .string s, .int .i64 x, .int .i64 y]) (by simp [results, Try.results8, go_sem, c0, c1, c2, c3, c4]) rfl ⟨rfl, hy⟩
theorem sum_text (c : ByteArray) : (c.toList == [115, 117, 109]) = decide (c.data.toList = wSum) := by
  rw [ByteArray.toList_eq, Bool.eq_iff_iff, beq_iff_eq, decide_eq_true_iff]; rfl
set_option maxRecDepth 100000 in
theorem numbers_any (c : ByteArray) (a b : Int) (ha : -9007199254740992 ≤ a ∧ a ≤ 9007199254740992) (hb : -9007199254740992 ≤ b ∧ b ≤ 9007199254740992) (w : World) :
    Calls Try.prog 9 #[.string c, .int .i64 a, .int .i64 b] w (Gives (.int .i64 (if c.data.toList = wSum then rg (a + b) 9007199254740992 else (Int.gcd a b : Int))) w) := by
  have hq := sum_text c
  by_cases h : c.data.toList = wSum
  · rw [if_pos h]
    rw [decide_eq_true h] at hq
    have HC := Lib.hid (fun w => round_any (a + b) 9007199254740992 (by decide) (by omega) w)
    have h1 : wrap64 (a + b) = a + b := IntWalk.wrap64_in _ (by omega)
    clear h ha hb
    go_enter Try.func9, Try.ntmps9
    go_wp2_with (fail)
    refine (HC.out _).mono ?_
    rintro e w1 ⟨rfl, hb⟩
    have HB := Lib.hid hb; clear hb
    go_wp2_with (fail)
    go_ret
    exact ⟨rfl, HB.out⟩
  · rw [if_neg h]
    rw [decide_eq_false h] at hq
    have HC := Lib.hid (fun w => common_any a b ha hb w)
    generalize (Int.gcd a b : Int) = g at *
    clear h ha hb
    go_enter Try.func9, Try.ntmps9
    go_wp2_with (fail)
    refine (HC.out _).mono ?_
    rintro e w1 ⟨rfl, hb⟩
    have HB := Lib.hid hb; clear hb
    go_wp2_with (fail)
    go_ret
    exact ⟨rfl, HB.out⟩
set_option maxRecDepth 100000 in
set_option maxHeartbeats 1000000 in
theorem spots_sum (c : ByteArray) (x y u v : Int) (hq : (c.toList == [115, 117, 109]) = true) (hx : -16777216 ≤ x ∧ x ≤ 16777216) (hy : -16777216 ≤ y ∧ y ≤ 16777216) (hu : -16777216 ≤ u ∧ u ≤ 16777216) (hv : -16777216 ≤ v ∧ v ≤ 16777216) (w : World) :
    Calls Try.prog 10 #[.string c, .agg #[.int .i64 x, .int .i64 y], .agg #[.int .i64 u, .int .i64 v]] w (Gives (.agg #[.int .i64 (rg (x + u) 16777216), .int .i64 (rg (y + v) 16777216)]) w) := by
  have h1 : wrap64 (x + u) = x + u := IntWalk.wrap64_in _ (by omega)
  have h2 : wrap64 (y + v) = y + v := IntWalk.wrap64_in _ (by omega)
  have HX := Lib.hid (fun w => round_any (x + u) 16777216 (by decide) (by omega) w)
  have HY := Lib.hid (fun w => round_any (y + v) 16777216 (by decide) (by omega) w)
  generalize rg (x + u) 16777216 = p at *
  generalize rg (y + v) 16777216 = q at *
  clear hx hy hu hv
  obtain ⟨kb, o1, o2, o3⟩ := boxes3 23 (.int .i64 x) (.int .i64 y) (.int .i64 u) (.int .i64 v) (.int .i64 0) (.int .i64 0) w
  have HB := Lib.hid kb; have D1 := Lib.hid o1; have D2 := Lib.hid o2; have D3 := Lib.hid o3
  clear kb o1 o2 o3
  go_enter Try.func10, Try.ntmps10
  go_wp2_with (fail)
  generalize ((w.alloc (.cells #[.int .i64 x, .int .i64 y] 23)).alloc (.cells #[.int .i64 u, .int .i64 v] 23)).alloc (.cells #[.int .i64 0, .int .i64 0] 23) = v1 at *
  have d0 := fun r : Over v1 => (D1.out.over r).c0
  have d1 := fun r : Over v1 => (D1.out.over r).c1
  have e0 := fun r : Over v1 => (D2.out.over r).c0
  have e1 := fun r : Over v1 => (D2.out.over r).c1
  refine wp_over_tail 13 (by kernel_rfl) (by kernel_rfl) ?_
  simp only [List.take_succ_cons, List.take_zero, List.drop_succ_cons, List.drop_zero]
  repeat (go_big_quiet_step (first | fail | with_reducible exact over_gives _ (HX.out _) | with_reducible exact over_gives _ (HY.out _)))
  refine wpQuiet_nil ?_
  rintro w2 ⟨⟨w2, hb⟩, rfl⟩
  have E3 := D3.out.next hb
  replace HB := Lib.hid (Below.next HB.out hb)
  have hz := E3.lt
  have K3 := Lib.hid E3
  obtain ⟨c0, c1, f0, f1⟩ := E3
  clear hb d0 d1 e0 e1 D1 D2 D3
  go_wp2_with (fail)
  clear c0 c1 f0 f1
  refine fin2 (P := bodyPost _ _ _ _ _) K3.out HB.out (by omega) _ _ fun w4 hx hy => ?_
  obtain ⟨c0, c1, _, _⟩ := hx
  exact bodyPost_ret (v := .agg #[.int .i64 p, .int .i64 q]) (by simp [results, Try.results10, go_sem, c0, c1]) rfl ⟨rfl, hy⟩
set_option maxHeartbeats 1000000 in
theorem spots_gcd (c : ByteArray) (x y u v : Int) (hq : (c.toList == [115, 117, 109]) = false) (ha : rb ⟨x, y⟩ = true) (hb : rb ⟨u, v⟩ = true) (w : World) :
    Calls Try.prog 10 #[.string c, .agg #[.int .i64 x, .int .i64 y], .agg #[.int .i64 u, .int .i64 v]] w (Gives (.agg #[.int .i64 (Pt.cg ⟨x, y⟩ ⟨u, v⟩).x, .int .i64 (Pt.cg ⟨x, y⟩ ⟨u, v⟩).y]) w) := by
  have HC := Lib.hid (fun w => common_yes ha hb w)
  generalize (Pt.cg ⟨x, y⟩ ⟨u, v⟩).x = p at *
  generalize (Pt.cg ⟨x, y⟩ ⟨u, v⟩).y = q at *
  clear ha hb
  obtain ⟨kb, o1, o2, o3⟩ := boxes3 23 (.int .i64 x) (.int .i64 y) (.int .i64 u) (.int .i64 v) (.int .i64 0) (.int .i64 0) w
  have HB := Lib.hid kb; have D1 := Lib.hid o1; have D2 := Lib.hid o2; have D3 := Lib.hid o3
  clear kb o1 o2 o3
  go_enter Try.func10, Try.ntmps10
  go_wp2_with (fail)
  generalize ((w.alloc (.cells #[.int .i64 x, .int .i64 y] 23)).alloc (.cells #[.int .i64 u, .int .i64 v] 23)).alloc (.cells #[.int .i64 0, .int .i64 0] 23) = v1 at *
  refine (HC.out _).mono ?_
  rintro e w2 ⟨rfl, hb⟩
  have E3 := D3.out.next hb
  have hz := E3.lt
  have K3 := Lib.hid ((E3.set (.int .i64 p) (.int .i64 q)).old (.cells #[.int .i64 p, .int .i64 q] 23))
  have HB2 := Lib.hid ((((Below.next HB.out hb).setCell (p := ⟨w.heap.size + 1 + 1, 0, none⟩) (by show _ ≤ w.heap.size + 1 + 1; omega) (.int .i64 p)).setCell (p := ⟨w.heap.size + 1 + 1, 1, none⟩) (by show _ ≤ w.heap.size + 1 + 1; omega) (.int .i64 q)).alloc (by simp; have := HB.out.size; have := hb.size; omega) (.cells #[.int .i64 p, .int .i64 q] 23))
  obtain ⟨c0, c1, f0, f1⟩ := E3
  clear hb D1 D2 D3 HB
  go_wp2_with (fail)
  clear c0 c1 f0 f1
  obtain ⟨c0, c1, _, _⟩ := K3.out
  have hy := HB2.out
  generalize ((w2.setCell ⟨w.heap.size + 1 + 1, 0, none⟩ (.int .i64 p)).setCell ⟨w.heap.size + 1 + 1, 1, none⟩ (.int .i64 q)).alloc (.cells #[.int .i64 p, .int .i64 q] 23) = w4 at *
  exact bodyPost_ret (v := .agg #[.int .i64 p, .int .i64 q]) (by simp [results, Try.results10, go_sem, c0, c1]) rfl ⟨rfl, hy⟩
end Go.Proofs.Ytimllihegnokeaa.Jo

/-
  Small texts of this claim, together: JoFold, JoOr, ExEq, VaRef, VaRef2, VaRef3.
-/
import Derived.Test.YtimllihegnokeaaGreatDoorQ1
import Derived.Test.YtimllihegnokeaaGreatDoorQ3
import Derived.Test.YtimllihegnokeaaGreatDoorQ2
import Derived.Test.YtimllihegnokeaaGreatDoorQVaRight
namespace Go.Proofs.YtimllihegnokeaaGreatDoor.Jo
open Go.ChangeShapes Go.WideShapes Go.ChangeAt Go.RowKit Ov Ga Va
theorem five {w : World} {b : Nat} {x0 x1 x2 x3 x4 : Value} (h : Blk w b [x0, x1, x2, x3, x4]) : w.cell? ⟨b, 0, none⟩ = some x0 ∧ w.cell? ⟨b, 1, none⟩ = some x1 ∧ w.cell? ⟨b, 2, none⟩ = some x2 ∧ w.cell? ⟨b, 3, none⟩ = some x3 ∧ w.cell? ⟨b, 4, none⟩ = some x4 := ⟨h.c 0 _ rfl, h.c 1 _ rfl, h.c 2 _ rfl, h.c 3 _ rfl, h.c 4 _ rfl⟩
theorem thaw {w : World} {b : Nat} {x0 x1 x2 x3 x4 : Value} (h : Blk w b [x0, x1, x2, x3, x4]) : w.frozen? ⟨b, 0, none⟩ = false ∧ w.frozen? ⟨b, 1, none⟩ = false ∧ w.frozen? ⟨b, 2, none⟩ = false ∧ w.frozen? ⟨b, 3, none⟩ = false ∧ w.frozen? ⟨b, 4, none⟩ = false := ⟨h.f 0 _ rfl, h.f 1 _ rfl, h.f 2 _ rfl, h.f 3 _ rfl, h.f 4 _ rfl⟩
theorem fin5 {P : World → Prop} {lo : Nat} {W w : World} {b : Nat} {x0 x1 x2 x3 x4 : Value} (h : Blk w b [x0, x1, x2, x3, x4]) (hb : Below lo W w) (hlo : lo ≤ b) (a0 a1 a2 a3 a4 : Value)
 (k : ∀ w', Blk w' b [a0, a1, a2, a3, a4] → Below lo W w' → (∀ c ys, c ≠ b → Blk w c ys → Blk w' c ys) → P w') : P (((((w.setCell ⟨b, 0, none⟩ a0).setCell ⟨b, 1, none⟩ a1).setCell ⟨b, 2, none⟩ a2).setCell ⟨b, 3, none⟩ a3).setCell ⟨b, 4, none⟩ a4) :=
 k _ (((((h.set 0 a0).set 1 a1).set 2 a2).set 3 a3).set 4 a4) (((((hb.setCell hlo _).setCell hlo _).setCell hlo _).setCell hlo _).setCell hlo _) fun _ _ hc g => ((((g.put (Ne.symm hc) 0 a0).put (Ne.symm hc) 1 a1).put (Ne.symm hc) 2 a2).put (Ne.symm hc) 3 a3).put (Ne.symm hc) 4 a4
theorem fin2 {P : World → Prop} {lo : Nat} {W w : World} {b : Nat} {x0 x1 : Value} (h : Duo w b x0 x1) (hb : Below lo W w) (hlo : lo ≤ b) (a0 a1 : Value)
 (k : ∀ w', Duo w' b a0 a1 → Below lo W w' → P w') : P ((w.setCell ⟨b, 0, none⟩ a0).setCell ⟨b, 1, none⟩ a1) := k _ (h.set a0 a1) ((hb.setCell hlo _).setCell hlo _)
theorem two_boxes (w : World) (t : TypeId) (xs ys zs : List Value) : Blk (((w.alloc (.cells xs.toArray t)).alloc (.cells ys.toArray t)).alloc (.cells zs.toArray t)) w.heap.size xs ∧
 Blk (((w.alloc (.cells xs.toArray t)).alloc (.cells ys.toArray t)).alloc (.cells zs.toArray t)) (w.heap.size + 1) ys ∧ Blk (((w.alloc (.cells xs.toArray t)).alloc (.cells ys.toArray t)).alloc (.cells zs.toArray t)) (w.heap.size + 1 + 1) zs ∧
 Below w.heap.size w (((w.alloc (.cells xs.toArray t)).alloc (.cells ys.toArray t)).alloc (.cells zs.toArray t)) :=
 ⟨((Blk.made w t xs rfl).old _).old _, (Blk.made _ t ys (World.size_alloc _ _)).old _, Blk.made _ t zs (by simp [World.size_alloc]), box3 _ _ _ _⟩
set_option maxHeartbeats 1000000 in
theorem choose_b (c : ByteArray) (k n x y k' n' x' y' : Int) (s s' : ByteArray) (hs : s'.size ≤ 281474976710656) (w : World) (h : (decide (ord ⟨k, n, s.data.toList, x, y⟩ ⟨k', n', s'.data.toList, x', y'⟩ < 0) == (c.toList == [109, 97, 120])) = true) :
 Calls Tryz.prog 51 #[.string c, .agg #[.int .i64 k, .int .i64 n, .string s, .int .i64 x, .int .i64 y], .agg #[.int .i64 k', .int .i64 n', .string s', .int .i64 x', .int .i64 y']] w (Gives (.agg #[.int .i64 k', .int .i64 n', .string s', .int .i64 x', .int .i64 y']) w) := by
 have HO := Lib.hid (order_val k n x y k' n' x' y' s s')
 have HC := Lib.hid (fun w1 => clone_any s' w1 hs)
 generalize ord ⟨k, n, s.data.toList, x, y⟩ ⟨k', n', s'.data.toList, x', y'⟩ = o at *
 obtain ⟨D1, D2, D3, hb0⟩ := two_boxes w 45 [.int .i64 k, .int .i64 n, .string s, .int .i64 x, .int .i64 y] [.int .i64 k', .int .i64 n', .string s', .int .i64 x', .int .i64 y'] [.int .i64 0, .int .i64 0, .string ⟨#[]⟩, .int .i64 0, .int .i64 0]
 have H1 := Lib.hid D1; have H2 := Lib.hid D2; have H3 := Lib.hid D3; have HB := Lib.hid hb0; clear D1 D2 D3 hb0
 go_enter Tryz.func51, Tryz.ntmps51
 go_wp2_with (fail)
 refine (HO.out _).mono ?_
 rintro e w1 ⟨rfl, hb⟩
 replace H1 := Lib.hid (H1.out.next hb); replace H2 := Lib.hid (H2.out.next hb); replace H3 := Lib.hid (H3.out.next hb); replace HB := Lib.hid (Below.next HB.out hb); clear hb
 obtain ⟨c0, c1, c2, c3, c4⟩ := five H2.out
 obtain ⟨f0, f1, f2, f3, f4⟩ := thaw H1.out
 obtain ⟨e0, e1, e2, e3, e4⟩ := five H1.out
 go_wp2_with (fail)
 clear c0 c1 c2 c3 c4 f0 f1 f2 f3 f4 e0 e1 e2 e3 e4
 refine fin5 (P := fun W => Calls Tryz.prog _ _ W _) H1.out HB.out (Nat.le_refl _) _ _ _ _ _ fun w2 hx hy ho => ?_
 replace H3 := Lib.hid (ho _ _ (by omega) H3.out); replace H1 := Lib.hid hx; replace HB := Lib.hid hy; clear hx hy ho H2
 refine (HC.out _).mono ?_
 rintro e w3 ⟨rfl, hb⟩
 replace H1 := Lib.hid (H1.out.next hb); replace H3 := Lib.hid (H3.out.next hb); replace HB := Lib.hid (Below.next HB.out hb); clear hb
 obtain ⟨c0, c1, c2, c3, c4⟩ := five H1.out
 obtain ⟨f0, f1, f2, f3, f4⟩ := thaw H3.out
 obtain ⟨e0, e1, e2, e3, e4⟩ := five H3.out
 have g2 := H1.out.f 2 _ rfl
 go_wp2_with (fail)
 have h3 := H3.out.put (show w.heap.size ≠ w.heap.size + 1 + 1 by omega) 2 (.string s')
 have hb3 := HB.out.setCell (p := ⟨w.heap.size, 2, none⟩) (Nat.le_refl _) (.string s')
 clear c0 c1 c2 c3 c4 f0 f1 f2 f3 f4 e0 e1 e2 e3 e4 g2
 refine fin5 (P := bodyPost _ _ _ _ _) h3 hb3 (by omega) _ _ _ _ _ fun w4 hx hy _ => ?_
 obtain ⟨c0, c1, c2, c3, c4⟩ := five hx
 exact bodyPost_ret (v := .agg #[.int .i64 k', .int .i64 n', .string s', .int .i64 x', .int .i64 y']) (by simp [results, Tryz.results51, go_sem, c0, c1, c2, c3, c4]) rfl ⟨rfl, hy⟩
set_option maxHeartbeats 1000000 in
theorem choose_a (c : ByteArray) (k n x y k' n' x' y' : Int) (s s' : ByteArray) (hs : s.size ≤ 281474976710656) (w : World) (h : (decide (ord ⟨k, n, s.data.toList, x, y⟩ ⟨k', n', s'.data.toList, x', y'⟩ < 0) == (c.toList == [109, 97, 120])) = false) :
 Calls Tryz.prog 51 #[.string c, .agg #[.int .i64 k, .int .i64 n, .string s, .int .i64 x, .int .i64 y], .agg #[.int .i64 k', .int .i64 n', .string s', .int .i64 x', .int .i64 y']] w (Gives (.agg #[.int .i64 k, .int .i64 n, .string s, .int .i64 x, .int .i64 y]) w) := by
 have HO := Lib.hid (order_val k n x y k' n' x' y' s s')
 have HC := Lib.hid (fun w1 => clone_any s w1 hs)
 generalize ord ⟨k, n, s.data.toList, x, y⟩ ⟨k', n', s'.data.toList, x', y'⟩ = o at *
 obtain ⟨D1, D2, D3, hb0⟩ := two_boxes w 45 [.int .i64 k, .int .i64 n, .string s, .int .i64 x, .int .i64 y] [.int .i64 k', .int .i64 n', .string s', .int .i64 x', .int .i64 y'] [.int .i64 0, .int .i64 0, .string ⟨#[]⟩, .int .i64 0, .int .i64 0]
 have H1 := Lib.hid D1; have H2 := Lib.hid D2; have H3 := Lib.hid D3; have HB := Lib.hid hb0; clear D1 D2 D3 hb0
 go_enter Tryz.func51, Tryz.ntmps51
 go_wp2_with (fail)
 refine (HO.out _).mono ?_
 rintro e w1 ⟨rfl, hb⟩
 replace H1 := Lib.hid (H1.out.next hb); replace H2 := Lib.hid (H2.out.next hb); replace H3 := Lib.hid (H3.out.next hb); replace HB := Lib.hid (Below.next HB.out hb); clear hb
 obtain ⟨c0, c1, c2, c3, c4⟩ := five H1.out
 go_wp2_with (fail)
 clear c0 c1 c2 c3 c4
 refine (HC.out _).mono ?_
 rintro e w3 ⟨rfl, hb⟩
 replace H1 := Lib.hid (H1.out.next hb); replace H2 := Lib.hid (H2.out.next hb); replace H3 := Lib.hid (H3.out.next hb); replace HB := Lib.hid (Below.next HB.out hb); clear hb
 obtain ⟨c0, c1, c2, c3, c4⟩ := five H1.out
 obtain ⟨f0, f1, f2, f3, f4⟩ := thaw H3.out
 obtain ⟨e0, e1, e2, e3, e4⟩ := five H3.out
 have g2 := H1.out.f 2 _ rfl
 go_wp2_with (fail)
 have h3 := H3.out.put (show w.heap.size ≠ w.heap.size + 1 + 1 by omega) 2 (.string s)
 have hb3 := HB.out.setCell (p := ⟨w.heap.size, 2, none⟩) (Nat.le_refl _) (.string s)
 clear c0 c1 c2 c3 c4 f0 f1 f2 f3 f4 e0 e1 e2 e3 e4 g2
 refine fin5 (P := bodyPost _ _ _ _ _) h3 hb3 (by omega) _ _ _ _ _ fun w4 hx hy _ => ?_
 obtain ⟨c0, c1, c2, c3, c4⟩ := five hx
 exact bodyPost_ret (v := .agg #[.int .i64 k, .int .i64 n, .string s, .int .i64 x, .int .i64 y]) (by simp [results, Tryz.results51, go_sem, c0, c1, c2, c3, c4]) rfl ⟨rfl, hy⟩
theorem sum_text (c : ByteArray) : (c.toList == [115, 117, 109]) = decide (c.data.toList = wSum) := by
 rw [ByteArray.toList_eq, Bool.eq_iff_iff, beq_iff_eq, decide_eq_true_iff]; rfl
set_option maxRecDepth 100000 in
theorem numbers_any (c : ByteArray) (a b : Int) (ha : -9007199254740992 ≤ a ∧ a ≤ 9007199254740992) (hb : -9007199254740992 ≤ b ∧ b ≤ 9007199254740992) (w : World) :
 Calls Tryz.prog 52 #[.string c, .int .i64 a, .int .i64 b] w (Gives (.int .i64 (if c.data.toList = wSum then rg (a + b) 9007199254740992 else (Int.gcd a b : Int))) w) := by
 have hq := sum_text c
 by_cases h : c.data.toList = wSum
 · rw [if_pos h]
   rw [decide_eq_true h] at hq
   have HC := Lib.hid (fun w => round_any (a + b) 9007199254740992 (by decide) (by omega) w)
   have h1 : wrap64 (a + b) = a + b := IntWalk.wrap64_in _ (by omega)
   clear h ha hb
   go_enter Tryz.func52, Tryz.ntmps52
   go_wp2_with (fail)
   refine (HC.out _).mono ?_
   rintro e w1 ⟨rfl, hb⟩
   have HB := Lib.hid hb; clear hb
   go_wp2_with (fail)
   go_ret
   exact ⟨rfl, HB.out⟩
 · rw [if_neg h]
   rw [decide_eq_false h] at hq
   have HC := Lib.hid (fun w => common_any a b ha hb w)
   generalize (Int.gcd a b : Int) = g at *
   clear h ha hb
   go_enter Tryz.func52, Tryz.ntmps52
   go_wp2_with (fail)
   refine (HC.out _).mono ?_
   rintro e w1 ⟨rfl, hb⟩
   have HB := Lib.hid hb; clear hb
   go_wp2_with (fail)
   go_ret
   exact ⟨rfl, HB.out⟩
set_option maxRecDepth 100000 in
set_option maxHeartbeats 1000000 in
theorem spots_sum (c : ByteArray) (x y u v : Int) (hq : (c.toList == [115, 117, 109]) = true) (hx : -16777216 ≤ x ∧ x ≤ 16777216) (hy : -16777216 ≤ y ∧ y ≤ 16777216) (hu : -16777216 ≤ u ∧ u ≤ 16777216) (hv : -16777216 ≤ v ∧ v ≤ 16777216) (w : World) :
 Calls Tryz.prog 53 #[.string c, .agg #[.int .i64 x, .int .i64 y], .agg #[.int .i64 u, .int .i64 v]] w (Gives (.agg #[.int .i64 (rg (x + u) 16777216), .int .i64 (rg (y + v) 16777216)]) w) := by
 have h1 : wrap64 (x + u) = x + u := IntWalk.wrap64_in _ (by omega)
 have h2 : wrap64 (y + v) = y + v := IntWalk.wrap64_in _ (by omega)
 have HX := Lib.hid (fun w => round_any (x + u) 16777216 (by decide) (by omega) w)
 have HY := Lib.hid (fun w => round_any (y + v) 16777216 (by decide) (by omega) w)
 generalize rg (x + u) 16777216 = p at *
 generalize rg (y + v) 16777216 = q at *
 clear hx hy hu hv
 obtain ⟨kb, o1, o2, o3⟩ := boxes3 43 (.int .i64 x) (.int .i64 y) (.int .i64 u) (.int .i64 v) (.int .i64 0) (.int .i64 0) w
 have HB := Lib.hid kb; have D1 := Lib.hid o1; have D2 := Lib.hid o2; have D3 := Lib.hid o3
 clear kb o1 o2 o3
 go_enter Tryz.func53, Tryz.ntmps53
 go_wp2_with (fail)
 generalize ((w.alloc (.cells #[.int .i64 x, .int .i64 y] 43)).alloc (.cells #[.int .i64 u, .int .i64 v] 43)).alloc (.cells #[.int .i64 0, .int .i64 0] 43) = v1 at *
 have d0 := fun r : Over v1 => (D1.out.over r).c0
 have d1 := fun r : Over v1 => (D1.out.over r).c1
 have e0 := fun r : Over v1 => (D2.out.over r).c0
 have e1 := fun r : Over v1 => (D2.out.over r).c1
 refine wp_over_tail 13 (by kernel_rfl) (by kernel_rfl) ?_
 simp only [List.take_succ_cons, List.take_zero, List.drop_succ_cons, List.drop_zero]
 repeat (go_big_quiet_step (first | fail | with_reducible exact over_gives _ (HX.out _) | with_reducible exact over_gives _ (HY.out _)))
 refine wpQuiet_nil ?_
 rintro w2 ⟨⟨w2, hb⟩, rfl⟩
 have E3 := D3.out.next hb
 replace HB := Lib.hid (Below.next HB.out hb)
 have hz := E3.lt
 have K3 := Lib.hid E3
 obtain ⟨c0, c1, f0, f1⟩ := E3
 clear hb d0 d1 e0 e1 D1 D2 D3
 go_wp2_with (fail)
 clear c0 c1 f0 f1
 refine fin2 (P := bodyPost _ _ _ _ _) K3.out HB.out (by omega) _ _ fun w4 hx hy => ?_
 obtain ⟨c0, c1, _, _⟩ := hx
 exact bodyPost_ret (v := .agg #[.int .i64 p, .int .i64 q]) (by simp [results, Tryz.results53, go_sem, c0, c1]) rfl ⟨rfl, hy⟩
set_option maxHeartbeats 1000000 in
theorem spots_gcd (c : ByteArray) (x y u v : Int) (hq : (c.toList == [115, 117, 109]) = false) (ha : rb ⟨x, y⟩ = true) (hb : rb ⟨u, v⟩ = true) (w : World) :
 Calls Tryz.prog 53 #[.string c, .agg #[.int .i64 x, .int .i64 y], .agg #[.int .i64 u, .int .i64 v]] w (Gives (.agg #[.int .i64 (Pt.cg ⟨x, y⟩ ⟨u, v⟩).x, .int .i64 (Pt.cg ⟨x, y⟩ ⟨u, v⟩).y]) w) := by
 have HC := Lib.hid (fun w => common_yes ha hb w)
 generalize (Pt.cg ⟨x, y⟩ ⟨u, v⟩).x = p at *
 generalize (Pt.cg ⟨x, y⟩ ⟨u, v⟩).y = q at *
 clear ha hb
 obtain ⟨kb, o1, o2, o3⟩ := boxes3 43 (.int .i64 x) (.int .i64 y) (.int .i64 u) (.int .i64 v) (.int .i64 0) (.int .i64 0) w
 have HB := Lib.hid kb; have D1 := Lib.hid o1; have D2 := Lib.hid o2; have D3 := Lib.hid o3
 clear kb o1 o2 o3
 go_enter Tryz.func53, Tryz.ntmps53
 go_wp2_with (fail)
 generalize ((w.alloc (.cells #[.int .i64 x, .int .i64 y] 43)).alloc (.cells #[.int .i64 u, .int .i64 v] 43)).alloc (.cells #[.int .i64 0, .int .i64 0] 43) = v1 at *
 refine (HC.out _).mono ?_
 rintro e w2 ⟨rfl, hb⟩
 have E3 := D3.out.next hb
 have hz := E3.lt
 have K3 := Lib.hid ((E3.set (.int .i64 p) (.int .i64 q)).old (.cells #[.int .i64 p, .int .i64 q] 43))
 have HB2 := Lib.hid ((((Below.next HB.out hb).setCell (p := ⟨w.heap.size + 1 + 1, 0, none⟩) (by show _ ≤ w.heap.size + 1 + 1; omega) (.int .i64 p)).setCell (p := ⟨w.heap.size + 1 + 1, 1, none⟩) (by show _ ≤ w.heap.size + 1 + 1; omega) (.int .i64 q)).alloc (by simp; have := HB.out.size; have := hb.size; omega) (.cells #[.int .i64 p, .int .i64 q] 43))
 obtain ⟨c0, c1, f0, f1⟩ := E3
 clear hb D1 D2 D3 HB
 go_wp2_with (fail)
 clear c0 c1 f0 f1
 obtain ⟨c0, c1, _, _⟩ := K3.out
 have hy := HB2.out
 generalize ((w2.setCell ⟨w.heap.size + 1 + 1, 0, none⟩ (.int .i64 p)).setCell ⟨w.heap.size + 1 + 1, 1, none⟩ (.int .i64 q)).alloc (.cells #[.int .i64 p, .int .i64 q] 43) = w4 at *
 exact bodyPost_ret (v := .agg #[.int .i64 p, .int .i64 q]) (by simp [results, Tryz.results53, go_sem, c0, c1]) rfl ⟨rfl, hy⟩
end Go.Proofs.YtimllihegnokeaaGreatDoor.Jo
namespace Go.Proofs.YtimllihegnokeaaGreatDoor.Jo
open Go.ChangeShapes Go.WideShapes Go.ChangeAt Go.RowKit Ov Va
set_option maxHeartbeats 1000000 in
theorem orE_any (l : List Int) (b : Nat) (w : World) (h : Blk w b (l.map fun a => Value.int .i64 a)) (hl : l.length ≤ 4) : Calls Tryz.prog 28 #[.slice (some ⟨b, 0, none⟩) l.length l.length] w fun e w' => e = .returned (.int .i64 (orl l)) ∧ w = w' := by
 have H := Lib.hid h; clear h
 obtain ⟨n, hn⟩ : ∃ n, l.length = n := ⟨_, rfl⟩
 rw [hn] at hl ⊢
 have HN := Lib.hid hn; clear hn
 go_enter Tryz.func28, Tryz.ntmps28
 go_wp2_with (fail)
 go_loop [5, 8] (fun _ i => ∃ k : Nat, k ≤ n ∧ i = .int .i64 k ∧ orl l = orl (l.drop k)) (fun _ i => n - (intOf i).toNat)
 case atStart => exact ⟨0, Nat.zero_le _, rfl, by simp⟩
 case round =>
  obtain ⟨k, hk, rfl, hd⟩ := hrel
  have HD := Lib.hid hd; clear hd
  by_cases hlt : k < n
  · have hkl : k < l.length := by have := HN.out; omega
    obtain ⟨a, ha⟩ : ∃ a, l[k] = a := ⟨_, rfl⟩
    have HS : Hid (orl (l.drop k) = if a ≠ 0 then a else orl (l.drop (k + 1))) := by
     show _ = _
     rw [orl_drop hkl, ha]
    have hc : w.cell? ⟨b, k, none⟩ = some (.int .i64 a) := H.out.c k _ (by rw [List.getElem?_map, List.getElem?_eq_getElem hkl, ha]; rfl)
    clear ha hkl
    by_cases hz : a = 0
    · subst hz
      go_wp2_with (fail)
      go_round
      case rel => exact ⟨k + 1, by omega, by go_num, by rw [HD.out, HS.out]; rfl⟩
      case measure => simp [intOf]; omega
    · have hne : (a != 0) = true := bne_iff_ne.2 hz
      have HZ := Lib.hid hz; clear hz
      go_wp2_with (fail)
      go_ret
      exact ⟨ret_int (by rw [HD.out, HS.out, if_pos HZ.out]), rfl⟩
  · have HS : Hid (orl (l.drop k) = 0) := by
     show _ = _
     rw [List.drop_of_length_le (by have := HN.out; omega)]; rfl
    go_wp2_with (fail)
    go_ret
    exact ⟨ret_int (by rw [HD.out, HS.out]), rfl⟩
end Go.Proofs.YtimllihegnokeaaGreatDoor.Jo
namespace Go.Proofs.YtimllihegnokeaaGreatDoor.Ex
open Go.ChangeShapes Go.WideShapes Go.ChangeAt Go.RowKit Ov Va
set_option maxRecDepth 100000 in
set_option maxHeartbeats 1000000 in
theorem neq_val (k n x y k' n' x' y' : Int) (s s' : ByteArray) (w : World) : (binOp .neq 45 (.agg #[.int .i64 k, .int .i64 n, .string s, .int .i64 x, .int .i64 y]) (.agg #[.int .i64 k', .int .i64 n', .string s', .int .i64 x', .int .i64 y'])).run Tryz.prog w =
 .ok (.bool (!ve ⟨k, n, s.data.toList, x, y⟩ ⟨k', n', s'.data.toList, x', y'⟩)) w := by
 have e : ve ⟨k, n, s.data.toList, x, y⟩ ⟨k', n', s'.data.toList, x', y'⟩ = ((k == k') && ((n == n') && ((s.toList == s'.toList) && ((x == x') && (y == y'))))) := by
  rw [ByteArray.toList_eq, ByteArray.toList_eq]; unfold ve
  rw [Bool.eq_iff_iff]; simp
 rw [e]; clear e
 have u := Tryz.underlying3
 have hS : Tryz.prog.underlying 45 = some (.struct (Tryz.prog.fieldsOf 45)) := by kernel_rfl
 have hS2 : Tryz.prog.underlying 43 = some (.struct (Tryz.prog.fieldsOf 43)) := by kernel_rfl
 have hp : Tryz.prog.stoodInHeld 45 = false := by kernel_rfl
 have hp2 : Tryz.prog.stoodInHeld 43 = false := by kernel_rfl
 have hq := fun d xs ys w => run_equalIn_struct (P := Tryz.prog) w d 43 xs ys hS2 hp2
 rw [run_neq_struct, show (10000 : Nat) = 9999 + 1 from rfl, run_equalIn_struct w 9999 45 _ _ hS hp]
 clear hS hS2 hp hp2
 simp only [Program.fieldsOf, Tryz.underlying45, Tryz.underlying43] at hq ⊢
 go_simp
 clear hq u
 by_cases h1 : k = k' <;> by_cases h2 : n = n' <;> by_cases h3 : s.toList = s'.toList <;> by_cases h4 : x = x' <;> by_cases h5 : y = y' <;> simp [h1, h2, h3, h4, h5]
end Go.Proofs.YtimllihegnokeaaGreatDoor.Ex
namespace Go.Proofs.YtimllihegnokeaaGreatDoor.Va
open Go.ChangeShapes Go.WideShapes Go.ChangeAt Go.RowKit Ov Ga
theorem rspot_any (x y : Int) (w : World) : Calls Tryz.prog 92 #[.agg #[.int .i64 x, .int .i64 y]] w (Gives (.bool (rb ⟨x, y⟩)) w) := by
 have e : rb ⟨x, y⟩ = (fb x && fb y) := rfl
 rw [e]; clear e
 by_cases h1 : -16777216 ≤ x
 · by_cases h2 : x ≤ 16777216
   · by_cases h3 : -16777216 ≤ y
     · by_cases h4 : y ≤ 16777216
       · have e : (fb x && fb y) = true := by rw [fb_of h1 h2, fb_of h3 h4]; rfl
         rw [e]; clear e
         go_enter Tryz.func92, Tryz.ntmps92
         go_wp2_with (fail)
         go_ret
         exact ⟨rfl, box1 w _⟩
       · have e : (fb x && fb y) = false := by
          have e1 : fb y = false := decide_eq_false (by omega)
          rw [e1]; simp
         rw [e]; clear e
         go_enter Tryz.func92, Tryz.ntmps92
         go_wp2_with (fail)
         go_ret
         exact ⟨rfl, box1 w _⟩
     · have e : (fb x && fb y) = false := by
        have e1 : fb y = false := decide_eq_false (by omega)
        rw [e1]; simp
       rw [e]; clear e
       go_enter Tryz.func92, Tryz.ntmps92
       go_wp2_with (fail)
       go_ret
       exact ⟨rfl, box1 w _⟩
   · have e : (fb x && fb y) = false := by
      have e1 : fb x = false := decide_eq_false (by omega)
      rw [e1]; rfl
     rw [e]; clear e
     go_enter Tryz.func92, Tryz.ntmps92
     go_wp2_with (fail)
     go_ret
     exact ⟨rfl, box1 w _⟩
 · have e : (fb x && fb y) = false := by
    have e1 : fb x = false := decide_eq_false (by omega)
    rw [e1]; rfl
   rw [e]; clear e
   go_enter Tryz.func92, Tryz.ntmps92
   go_wp2_with (fail)
   go_ret
   exact ⟨rfl, box1 w _⟩
set_option maxHeartbeats 1000000 in
theorem rr0a {n x y : Int} {s : ByteArray} (w : World) (h1 : ¬ -9007199254740992 ≤ n) : Calls Tryz.prog 54 #[.agg #[.int .i64 0, .int .i64 n, .string s, .int .i64 x, .int .i64 y]] w (Gives (.bool false) w) := by
 go_enter Tryz.func54, Tryz.ntmps54
 go_wp2_with (fail)
 go_ret
 exact ⟨rfl, box1 w _⟩
set_option maxHeartbeats 1000000 in
theorem rr0b {n x y : Int} {s : ByteArray} (w : World) (h1 : -9007199254740992 ≤ n) (h2 : ¬ n ≤ 9007199254740992) : Calls Tryz.prog 54 #[.agg #[.int .i64 0, .int .i64 n, .string s, .int .i64 x, .int .i64 y]] w (Gives (.bool false) w) := by
 go_enter Tryz.func54, Tryz.ntmps54
 go_wp2_with (fail)
 go_ret
 exact ⟨rfl, box1 w _⟩
set_option maxHeartbeats 1000000 in
theorem rr0c {n x y : Int} {s : ByteArray} (w : World) (h1 : -9007199254740992 ≤ n) (h2 : n ≤ 9007199254740992) (hs : (s.toList == []) = false)  : Calls Tryz.prog 54 #[.agg #[.int .i64 0, .int .i64 n, .string s, .int .i64 x, .int .i64 y]] w (Gives (.bool false) w) := by
 go_enter Tryz.func54, Tryz.ntmps54
 go_wp2_with (fail)
 go_ret
 exact ⟨rfl, box1 w _⟩
set_option maxHeartbeats 1000000 in
theorem rr0d {n x y : Int} {s : ByteArray} (w : World) (h1 : -9007199254740992 ≤ n) (h2 : n ≤ 9007199254740992) (hs : s.toList = []) (h3 : (x == 0) = false) : Calls Tryz.prog 54 #[.agg #[.int .i64 0, .int .i64 n, .string s, .int .i64 x, .int .i64 y]] w (Gives (.bool false) w) := by
 go_enter Tryz.func54, Tryz.ntmps54
 go_wp2_with (fail)
 go_ret
 exact ⟨rfl, box1 w _⟩
set_option maxHeartbeats 1000000 in
theorem rr0e {n x y : Int} {s : ByteArray} (w : World) (h1 : -9007199254740992 ≤ n) (h2 : n ≤ 9007199254740992) (hs : s.toList = []) (h3 : x = 0) (h4 : (y == 0) = false) : Calls Tryz.prog 54 #[.agg #[.int .i64 0, .int .i64 n, .string s, .int .i64 x, .int .i64 y]] w (Gives (.bool false) w) := by
 subst h3
 go_enter Tryz.func54, Tryz.ntmps54
 go_wp2_with (fail)
 go_ret
 exact ⟨rfl, box1 w _⟩
set_option maxHeartbeats 1000000 in
theorem rr0f {n x y : Int} {s : ByteArray} (w : World) (h1 : -9007199254740992 ≤ n) (h2 : n ≤ 9007199254740992) (hs : s.toList = []) (h3 : x = 0) (h4 : y = 0) : Calls Tryz.prog 54 #[.agg #[.int .i64 0, .int .i64 n, .string s, .int .i64 x, .int .i64 y]] w (Gives (.bool true) w) := by
 subst h3; subst h4
 go_enter Tryz.func54, Tryz.ntmps54
 go_wp2_with (fail)
 go_ret
 exact ⟨rfl, box1 w _⟩
set_option maxHeartbeats 1000000 in
theorem rr1a {n x y : Int} {s : ByteArray} (w : World) (h1 : ¬ (s.size : Int) ≤ 4096) : Calls Tryz.prog 54 #[.agg #[.int .i64 1, .int .i64 n, .string s, .int .i64 x, .int .i64 y]] w (Gives (.bool false) w) := by
 go_enter Tryz.func54, Tryz.ntmps54
 go_wp2_with (fail)
 go_ret
 exact ⟨rfl, box1 w _⟩
set_option maxHeartbeats 1000000 in
theorem rr1b {n x y : Int} {s : ByteArray} (w : World) (h1 : (s.size : Int) ≤ 4096) (h2 : (n == 0) = false) : Calls Tryz.prog 54 #[.agg #[.int .i64 1, .int .i64 n, .string s, .int .i64 x, .int .i64 y]] w (Gives (.bool false) w) := by
 go_enter Tryz.func54, Tryz.ntmps54
 go_wp2_with (fail)
 go_ret
 exact ⟨rfl, box1 w _⟩
set_option maxHeartbeats 1000000 in
theorem rr1c {n x y : Int} {s : ByteArray} (w : World) (h1 : (s.size : Int) ≤ 4096) (h2 : n = 0) (h3 : (x == 0) = false) : Calls Tryz.prog 54 #[.agg #[.int .i64 1, .int .i64 n, .string s, .int .i64 x, .int .i64 y]] w (Gives (.bool false) w) := by
 subst h2
 go_enter Tryz.func54, Tryz.ntmps54
 go_wp2_with (fail)
 go_ret
 exact ⟨rfl, box1 w _⟩
set_option maxHeartbeats 1000000 in
theorem rr1d {n x y : Int} {s : ByteArray} (w : World) (h1 : (s.size : Int) ≤ 4096) (h2 : n = 0) (h3 : x = 0) (h4 : (y == 0) = false) : Calls Tryz.prog 54 #[.agg #[.int .i64 1, .int .i64 n, .string s, .int .i64 x, .int .i64 y]] w (Gives (.bool false) w) := by
 subst h2; subst h3
 go_enter Tryz.func54, Tryz.ntmps54
 go_wp2_with (fail)
 go_ret
 exact ⟨rfl, box1 w _⟩
set_option maxHeartbeats 1000000 in
theorem rr1e {n x y : Int} {s : ByteArray} (w : World) (h1 : (s.size : Int) ≤ 4096) (h2 : n = 0) (h3 : x = 0) (h4 : y = 0) : Calls Tryz.prog 54 #[.agg #[.int .i64 1, .int .i64 n, .string s, .int .i64 x, .int .i64 y]] w (Gives (.bool true) w) := by
 subst h2; subst h3; subst h4
 go_enter Tryz.func54, Tryz.ntmps54
 go_wp2_with (fail)
 go_ret
 exact ⟨rfl, box1 w _⟩
set_option maxHeartbeats 1000000 in
theorem rr2a {n x y : Int} {s : ByteArray} (w : World) (hp : rb ⟨x, y⟩ = false)  : Calls Tryz.prog 54 #[.agg #[.int .i64 2, .int .i64 n, .string s, .int .i64 x, .int .i64 y]] w (Gives (.bool false) w) := by
 have HP := Lib.hid (rspot_any x y); rw [hp] at HP; clear hp
 go_enter Tryz.func54, Tryz.ntmps54
 go_wp2_with (fail)
 have D := Blk.made w 45 (vcs 2 n s x y) rfl
 have kb := box1 w (.cells #[.int .i64 2, .int .i64 n, .string s, .int .i64 x, .int .i64 y] 45)
 change Blk (w.alloc (.cells #[.int .i64 2, .int .i64 n, .string s, .int .i64 x, .int .i64 y] 45)) w.heap.size _ at D
 generalize w.alloc (.cells #[.int .i64 2, .int .i64 n, .string s, .int .i64 x, .int .i64 y] 45) = v at *
 refine (HP.out _).mono ?_
 rintro e w1 ⟨rfl, hb⟩
 have HB := Lib.hid (Below.next kb hb)
 have D1 := D.next hb
 have d0 := D1.v0; have d1 := D1.v1; have d2 := D1.v2; have d3 := D1.v3; have d4 := D1.v4
 clear hb kb D D1
 go_wp2_with (fail)
 go_ret
 exact ⟨rfl, HB.out⟩
set_option maxHeartbeats 1000000 in
theorem rr2b {n x y : Int} {s : ByteArray} (w : World) (hp : rb ⟨x, y⟩ = true) (h2 : (n == 0) = false) : Calls Tryz.prog 54 #[.agg #[.int .i64 2, .int .i64 n, .string s, .int .i64 x, .int .i64 y]] w (Gives (.bool false) w) := by
 have HP := Lib.hid (rspot_any x y); rw [hp] at HP; clear hp
 go_enter Tryz.func54, Tryz.ntmps54
 go_wp2_with (fail)
 have D := Blk.made w 45 (vcs 2 n s x y) rfl
 have kb := box1 w (.cells #[.int .i64 2, .int .i64 n, .string s, .int .i64 x, .int .i64 y] 45)
 change Blk (w.alloc (.cells #[.int .i64 2, .int .i64 n, .string s, .int .i64 x, .int .i64 y] 45)) w.heap.size _ at D
 generalize w.alloc (.cells #[.int .i64 2, .int .i64 n, .string s, .int .i64 x, .int .i64 y] 45) = v at *
 refine (HP.out _).mono ?_
 rintro e w1 ⟨rfl, hb⟩
 have HB := Lib.hid (Below.next kb hb)
 have D1 := D.next hb
 have d0 := D1.v0; have d1 := D1.v1; have d2 := D1.v2; have d3 := D1.v3; have d4 := D1.v4
 clear hb kb D D1
 go_wp2_with (fail)
 go_ret
 exact ⟨rfl, HB.out⟩
set_option maxHeartbeats 1000000 in
theorem rr2c {n x y : Int} {s : ByteArray} (w : World) (hp : rb ⟨x, y⟩ = true) (h2 : n = 0) (hs : (s.toList == []) = false)  : Calls Tryz.prog 54 #[.agg #[.int .i64 2, .int .i64 n, .string s, .int .i64 x, .int .i64 y]] w (Gives (.bool false) w) := by
 have HP := Lib.hid (rspot_any x y); rw [hp] at HP; clear hp
 subst h2
 go_enter Tryz.func54, Tryz.ntmps54
 go_wp2_with (fail)
 have D := Blk.made w 45 (vcs 2 0 s x y) rfl
 have kb := box1 w (.cells #[.int .i64 2, .int .i64 0, .string s, .int .i64 x, .int .i64 y] 45)
 change Blk (w.alloc (.cells #[.int .i64 2, .int .i64 0, .string s, .int .i64 x, .int .i64 y] 45)) w.heap.size _ at D
 generalize w.alloc (.cells #[.int .i64 2, .int .i64 0, .string s, .int .i64 x, .int .i64 y] 45) = v at *
 refine (HP.out _).mono ?_
 rintro e w1 ⟨rfl, hb⟩
 have HB := Lib.hid (Below.next kb hb)
 have D1 := D.next hb
 have d0 := D1.v0; have d1 := D1.v1; have d2 := D1.v2; have d3 := D1.v3; have d4 := D1.v4
 clear hb kb D D1
 go_wp2_with (fail)
 go_ret
 exact ⟨rfl, HB.out⟩
set_option maxHeartbeats 1000000 in
theorem rr2d {n x y : Int} {s : ByteArray} (w : World) (hp : rb ⟨x, y⟩ = true) (h2 : n = 0) (hs : s.toList = [])  : Calls Tryz.prog 54 #[.agg #[.int .i64 2, .int .i64 n, .string s, .int .i64 x, .int .i64 y]] w (Gives (.bool true) w) := by
 have HP := Lib.hid (rspot_any x y); rw [hp] at HP; clear hp
 subst h2
 go_enter Tryz.func54, Tryz.ntmps54
 go_wp2_with (fail)
 have D := Blk.made w 45 (vcs 2 0 s x y) rfl
 have kb := box1 w (.cells #[.int .i64 2, .int .i64 0, .string s, .int .i64 x, .int .i64 y] 45)
 change Blk (w.alloc (.cells #[.int .i64 2, .int .i64 0, .string s, .int .i64 x, .int .i64 y] 45)) w.heap.size _ at D
 generalize w.alloc (.cells #[.int .i64 2, .int .i64 0, .string s, .int .i64 x, .int .i64 y] 45) = v at *
 refine (HP.out _).mono ?_
 rintro e w1 ⟨rfl, hb⟩
 have HB := Lib.hid (Below.next kb hb)
 have D1 := D.next hb
 have d0 := D1.v0; have d1 := D1.v1; have d2 := D1.v2; have d3 := D1.v3; have d4 := D1.v4
 clear hb kb D D1
 go_wp2_with (fail)
 go_ret
 exact ⟨rfl, HB.out⟩
theorem txt_nil {s : ByteArray} (h : s.data.toList = []) : s.toList = [] := by rw [ByteArray.toList_eq, h]
theorem txt_full {s : ByteArray} (h : s.data.toList ≠ []) : (s.toList == []) = false := by
 rw [ByteArray.toList_eq]; exact beq_eq_false_iff_ne.2 h
theorem rright_val (k n x y : Int) (s : ByteArray) (w : World) : Calls Tryz.prog 54 #[.agg #[.int .i64 k, .int .i64 n, .string s, .int .i64 x, .int .i64 y]] w (Gives (.bool (rt ⟨k, n, s.data.toList, x, y⟩)) w) := by
 have bq : ∀ {a : Int}, a ≠ 0 → (a == 0) = false := fun h => beq_eq_false_iff_ne.2 h
 by_cases k0 : k = 0
 · subst k0
   by_cases h1 : -9007199254740992 ≤ n
   rotate_left
   · rw [show rt ⟨0, n, s.data.toList, x, y⟩ = false by rw [rt_int, decide_eq_false h1]; simp]; exact rr0a w h1
   by_cases h2 : n ≤ 9007199254740992
   rotate_left
   · rw [show rt ⟨0, n, s.data.toList, x, y⟩ = false by rw [rt_int, decide_eq_false h2]; simp]; exact rr0b w h1 h2
   have key : rt ⟨0, n, s.data.toList, x, y⟩ = ve ⟨0, n, s.data.toList, x, y⟩ ⟨0, n, [], 0, 0⟩ := by rw [rt_int, decide_eq_true h1, decide_eq_true h2]; simp
   rw [key]
   by_cases hs : s.data.toList = []
   rotate_left
   · rw [show ve ⟨0, n, s.data.toList, x, y⟩ ⟨0, n, [], 0, 0⟩ = false from decide_eq_false (fun h => hs (congrArg Va.s h))]; exact rr0c w h1 h2 (txt_full hs)
   by_cases hx : x = 0
   rotate_left
   · rw [show ve ⟨0, n, s.data.toList, x, y⟩ ⟨0, n, [], 0, 0⟩ = false from decide_eq_false (fun h => hx (congrArg Va.x h))]; exact rr0d w h1 h2 (txt_nil hs) (bq hx)
   by_cases hy : y = 0
   rotate_left
   · rw [show ve ⟨0, n, s.data.toList, x, y⟩ ⟨0, n, [], 0, 0⟩ = false from decide_eq_false (fun h => hy (congrArg Va.y h))]; exact rr0e w h1 h2 (txt_nil hs) hx (bq hy)
   rw [show ve ⟨0, n, s.data.toList, x, y⟩ ⟨0, n, [], 0, 0⟩ = true from decide_eq_true (by rw [hs, hx, hy])]; exact rr0f w h1 h2 (txt_nil hs) hx hy
 by_cases k1 : k = 1
 · subst k1
   have hl : s.data.toList.length = s.size := by simp
   by_cases h1 : s.size ≤ 4096
   rotate_left
   · rw [show rt ⟨1, n, s.data.toList, x, y⟩ = false by rw [rt_text, hl, decide_eq_false h1]; simp]; exact rr1a w (by omega)
   have key : rt ⟨1, n, s.data.toList, x, y⟩ = ve ⟨1, n, s.data.toList, x, y⟩ ⟨1, 0, s.data.toList, 0, 0⟩ := by rw [rt_text, hl, decide_eq_true h1]; simp
   rw [key]
   by_cases hn : n = 0
   rotate_left
   · rw [show ve ⟨1, n, s.data.toList, x, y⟩ ⟨1, 0, s.data.toList, 0, 0⟩ = false from decide_eq_false (fun h => hn (congrArg Va.n h))]; exact rr1b w (by omega) (bq hn)
   by_cases hx : x = 0
   rotate_left
   · rw [show ve ⟨1, n, s.data.toList, x, y⟩ ⟨1, 0, s.data.toList, 0, 0⟩ = false from decide_eq_false (fun h => hx (congrArg Va.x h))]; exact rr1c w (by omega) hn (bq hx)
   by_cases hy : y = 0
   rotate_left
   · rw [show ve ⟨1, n, s.data.toList, x, y⟩ ⟨1, 0, s.data.toList, 0, 0⟩ = false from decide_eq_false (fun h => hy (congrArg Va.y h))]; exact rr1d w (by omega) hn hx (bq hy)
   rw [show ve ⟨1, n, s.data.toList, x, y⟩ ⟨1, 0, s.data.toList, 0, 0⟩ = true from decide_eq_true (by rw [hn, hx, hy])]; exact rr1e w (by omega) hn hx hy
 by_cases k2 : k = 2
 · subst k2
   rw [rt_point]
   rcases Bool.eq_false_or_eq_true (rb ⟨x, y⟩) with hp | hp
   rotate_left
   · rw [hp, Bool.and_false]; exact rr2a w hp
   rw [hp, Bool.and_true]
   by_cases hn : n = 0
   rotate_left
   · rw [show ve ⟨2, n, s.data.toList, x, y⟩ ⟨2, 0, [], x, y⟩ = false from decide_eq_false (fun h => hn (congrArg Va.n h))]; exact rr2b w hp (bq hn)
   by_cases hs : s.data.toList = []
   rotate_left
   · rw [show ve ⟨2, n, s.data.toList, x, y⟩ ⟨2, 0, [], x, y⟩ = false from decide_eq_false (fun h => hs (congrArg Va.s h))]; exact rr2c w hp hn (txt_full hs)
   rw [show ve ⟨2, n, s.data.toList, x, y⟩ ⟨2, 0, [], x, y⟩ = true from decide_eq_true (by rw [hn, hs])]; exact rr2d w hp hn (txt_nil hs)
 rw [rt_kind n x y _ k0 k1 k2]
 have e0 := bq k0
 have e1 : (k == 1) = false := beq_eq_false_iff_ne.2 k1
 have e2 : (k == 2) = false := beq_eq_false_iff_ne.2 k2
 clear k0 k1 k2 bq
 go_enter Tryz.func54, Tryz.ntmps54
 go_wp2_with (fail)
 go_ret
 exact ⟨rfl, box1 w _⟩
end Go.Proofs.YtimllihegnokeaaGreatDoor.Va
namespace Go.Proofs.YtimllihegnokeaaGreatDoor.Va
open Go.ChangeShapes Go.WideShapes Go.ChangeAt Go.RowKit Ov Ga Tp
theorem rplain_any (c : UInt8) (w : World) : Calls Tryz.prog 121 #[.int .u8 (c.toNat : Int)] w fun e w' => e = .returned (.bool (pl c)) ∧ w = w' := by
 obtain ⟨m, hm⟩ : ∃ m : Nat, m = c.toNat := ⟨_, rfl⟩
 have he : pl c = decide (32 ≤ m ∧ m ≤ 126 ∧ m ≠ 34 ∧ m ≠ 92) := by rw [hm]; rfl
 have hlt := c.toNat_lt
 rw [he, ← hm]
 rw [← hm] at hlt
 clear he hm
 by_cases h1 : 32 ≤ m
 · by_cases h2 : m ≤ 126
   · by_cases h3 : m = 34
     · subst h3
       go_enter Tryz.func121, Tryz.ntmps121
       go_wp2_with (fail)
       go_ret
       exact ⟨rfl, rfl⟩
     · have n3 : ((m : Int) != 34) = true := by rw [bne_iff_ne]; omega
       by_cases h4 : m = 92
       · subst h4
         go_enter Tryz.func121, Tryz.ntmps121
         go_wp2_with (fail)
         go_ret
         exact ⟨rfl, rfl⟩
       · have n4 : ((m : Int) != 92) = true := by rw [bne_iff_ne]; omega
         have he : decide (32 ≤ m ∧ m ≤ 126 ∧ m ≠ 34 ∧ m ≠ 92) = true := decide_eq_true ⟨h1, h2, h3, h4⟩
         rw [he]; clear he h3 h4
         go_enter Tryz.func121, Tryz.ntmps121
         go_wp2_with (fail)
         go_ret
         exact ⟨rfl, rfl⟩
   · have he : decide (32 ≤ m ∧ m ≤ 126 ∧ m ≠ 34 ∧ m ≠ 92) = false := decide_eq_false (by omega)
     rw [he]; clear he
     go_enter Tryz.func121, Tryz.ntmps121
     go_wp2_with (fail)
     go_ret
     exact ⟨rfl, rfl⟩
 · have he : decide (32 ≤ m ∧ m ≤ 126 ∧ m ≠ 34 ∧ m ≠ 92) = false := decide_eq_false (by omega)
   rw [he]; clear he
   go_enter Tryz.func121, Tryz.ntmps121
   go_wp2_with (fail)
   go_ret
   exact ⟨rfl, rfl⟩
set_option maxRecDepth 100000 in
theorem rhex_any (n : Nat) (w : World) (hn : n < 16) : Calls Tryz.prog 122 #[.int .i64 (n : Int)] w (Gives (.string (tx [hx n])) w) := by
 by_cases h : n < 10
 · have HE : Hid (tx [UInt8.ofNat (48 + n)] = tx [hx n]) := by show _ = _; unfold hx; rw [if_pos h]
   have hcv := one_text (w.alloc (.cells #[.int .u8 (48 + (n : Int))] 5)) w.heap.size (48 + n) (by omega) (by simp)
   obtain ⟨c, hc⟩ : ∃ c, UInt8.ofNat (48 + n) = c := ⟨_, rfl⟩
   rw [hc] at hcv HE; clear hc
   go_enter Tryz.func122, Tryz.ntmps122
   go_wp2_with (fail)
   go_ret
   exact ⟨ret_str HE.out, box1 w _⟩
 · have HE : Hid (tx [UInt8.ofNat (87 + n)] = tx [hx n]) := by show _ = _; unfold hx; rw [if_neg h]
   have hcv := one_text (w.alloc (.cells #[.int .u8 (97 + (n : Int) - 10)] 5)) w.heap.size (87 + n) (by omega) (by simp; omega)
   obtain ⟨c, hc⟩ : ∃ c, UInt8.ofNat (87 + n) = c := ⟨_, rfl⟩
   rw [hc] at hcv HE; clear hc
   go_enter Tryz.func122, Tryz.ntmps122
   go_wp2_with (fail)
   go_ret
   exact ⟨ret_str HE.out, box1 w _⟩
set_option maxRecDepth 100000 in
theorem rdec_small (n : Nat) (w : World) (hn : n < 10) : Calls Tryz.prog 47 #[.int .i64 (n : Int)] w (Gives (.string (tx (Lib.decDigits n))) w) := by
 have HE : Hid (tx [UInt8.ofNat (48 + n)] = tx (Lib.decDigits n)) := by show _ = _; rw [dec_small hn]
 have hcv := one_text (w.alloc (.cells #[.int .u8 (48 + (n : Int))] 5)) w.heap.size (48 + n) (by omega) (by simp)
 obtain ⟨c, hc⟩ : ∃ c, UInt8.ofNat (48 + n) = c := ⟨_, rfl⟩
 rw [hc] at hcv HE; clear hc
 go_enter Tryz.func47, Tryz.ntmps47
 go_wp2_with (fail)
 go_ret
 exact ⟨ret_str HE.out, box1 w _⟩
theorem dec_le (n : Nat) (h : n ≤ 9007199254740992) : (tx (Lib.decDigits n)).size ≤ 21 := by
 have h1 := Lib.itoa_length_le (n : Int) (by omega) (by omega)
 have e : Lib.itoa (n : Int) = Lib.decDigits n := by unfold Lib.itoa; rw [if_neg (by omega)]; rfl
 rw [tx_size, ← e]; exact h1
set_option maxRecDepth 100000 in
set_option maxHeartbeats 1000000 in
theorem rdec_nat (n : Nat) : ∀ (w : World), n ≤ 9007199254740992 → Calls Tryz.prog 47 #[.int .i64 (n : Int)] w (Gives (.string (tx (Lib.decDigits n))) w) := by
 induction n using Nat.strongRecOn with
 | _ n ih =>
   intro w hn
   by_cases hlt : n < 10
   · exact rdec_small n w hlt
   have HA : Hid (∀ w, Calls Tryz.prog 47 #[.int .i64 ((n : Int) / 10)] w (Gives (.string (tx (Lib.decDigits (n / 10)))) w)) := fun w => by
    have h := ih (n / 10) (by omega) w (by omega)
    rwa [show ((n / 10 : Nat) : Int) = (n : Int) / 10 by omega] at h
   have HC : Hid (∀ w, Calls Tryz.prog 47 #[.int .i64 ((n : Int) % 10)] w (Gives (.string (tx (Lib.decDigits (n % 10)))) w)) := fun w => by
    have h := rdec_small (n % 10) w (by omega)
    rwa [show ((n % 10 : Nat) : Int) = (n : Int) % 10 by omega] at h
   have HE : Hid (tx (Lib.decDigits (n / 10)) ++ tx (Lib.decDigits (n % 10)) = tx (Lib.decDigits n)) := by
    show _ = _
    rw [tx_append, dec_big hlt, dec_small (m := n % 10) (by omega)]
   have z1 := dec_le (n / 10) (by omega)
   have z2 := dec_le (n % 10) (by omega)
   generalize tx (Lib.decDigits (n / 10)) = a at *
   generalize tx (Lib.decDigits (n % 10)) = b at *
   have g1 : ¬ a.size + b.size > 9223372036854775807 := by omega
   have l1 : ¬ (n : Int) < 0 := by omega
   have l2 : ¬ (n : Int) < 10 := by omega
   have l3 : (0 : Int) ≤ (n : Int) := by omega
   have l4 : (n : Int) ≤ 9007199254740992 := by omega
   clear z1 z2 ih hlt hn
   generalize (n : Int) = m at *
   go_enter Tryz.func47, Tryz.ntmps47
   go_wp2_with (fail)
   refine (HA.out _).mono ?_
   rintro e w1 ⟨rfl, hb⟩
   have HB := Lib.hid hb; clear hb
   go_wp2_with (fail)
   refine (HC.out _).mono ?_
   rintro e w2 ⟨rfl, hb⟩
   have HB2 := Lib.hid (Below.next HB.out hb); clear hb
   go_wp2_with (fail)
   go_ret
   exact ⟨ret_str HE.out, HB2.out⟩
set_option maxHeartbeats 1000000 in
theorem rdec_any (n : Int) (w : World) (h : -9007199254740992 ≤ n ∧ n ≤ 9007199254740992) : Calls Tryz.prog 47 #[.int .i64 n] w (Gives (.string (tx (Lib.itoa n))) w) := by
 obtain ⟨h1, h2⟩ := h
 by_cases h0 : n < 0
 · have HA : Hid (∀ w, Calls Tryz.prog 47 #[.int .i64 (-n)] w (Gives (.string (tx (Lib.decDigits n.natAbs))) w)) := fun w => by
    have h := rdec_nat n.natAbs w (by omega)
    rwa [show ((n.natAbs : Nat) : Int) = -n by omega] at h
   have HE : Hid (⟨#[45]⟩ ++ tx (Lib.decDigits n.natAbs) = tx (Lib.itoa n)) := by
    show _ = _
    unfold Lib.itoa; rw [if_pos h0, show (⟨#[45]⟩ : ByteArray) = tx [45] from rfl, tx_append]; rfl
   have z := dec_le n.natAbs (by omega)
   generalize tx (Lib.decDigits n.natAbs) = a at *
   have g1 : ¬ 1 + a.size > 9223372036854775807 := by omega
   clear z
   go_enter Tryz.func47, Tryz.ntmps47
   go_wp2_with (fail)
   refine (HA.out _).mono ?_
   rintro e w1 ⟨rfl, hb⟩
   have HB := Lib.hid hb; clear hb
   go_wp2_with (fail)
   go_ret
   exact ⟨ret_str HE.out, HB.out⟩
 · have h := rdec_nat n.toNat w (by omega)
   rw [show ((n.toNat : Nat) : Int) = n by omega] at h
   have e : Lib.itoa n = Lib.decDigits n.toNat := by unfold Lib.itoa; rw [if_neg h0]
   rw [e]; exact h
set_option maxRecDepth 100000 in
set_option maxHeartbeats 2000000 in
theorem rwrite_int {n x y : Int} {s : ByteArray} (h : rt ⟨0, n, s.data.toList, x, y⟩ = true) (w : World) : Calls Tryz.prog 78 #[.agg #[.int .i64 0, .int .i64 n, .string s, .int .i64 x, .int .i64 y]] w (Gives (.string (tx (wr ⟨0, n, s.data.toList, x, y⟩))) w) := by
 have hr := (rt_int_in h).1
 clear h
 have HK := Lib.hid (fun w => rdec_any n w hr)
 rw [wr_int]
 generalize tx (Lib.itoa n) = t at *
 clear hr
 go_enter Tryz.func78, Tryz.ntmps78
 go_wp2_with (fail)
 have kb := Lib.hid (box1 w (.cells #[.int .i64 0, .int .i64 n, .string s, .int .i64 x, .int .i64 y] 45))
 have D := Blk.made w 45 (vcs 0 n s x y) rfl
 change Blk (w.alloc (.cells #[.int .i64 0, .int .i64 n, .string s, .int .i64 x, .int .i64 y] 45)) w.heap.size _ at D
 have DH := Lib.hid D; clear D
 generalize w.alloc (.cells #[.int .i64 0, .int .i64 n, .string s, .int .i64 x, .int .i64 y] 45) = v at *
 refine (HK.out _).mono ?_
 rintro e w1 ⟨rfl, hb⟩
 have HB := Lib.hid (Below.next kb.out hb)
 clear hb
 go_wp2_with (fail)
 go_ret
 exact ⟨rfl, HB.out⟩
set_option maxRecDepth 100000 in
set_option maxHeartbeats 2000000 in
theorem rwrite_point {n x y : Int} {s : ByteArray} (h : rt ⟨2, n, s.data.toList, x, y⟩ = true) (w : World) : Calls Tryz.prog 78 #[.agg #[.int .i64 2, .int .i64 n, .string s, .int .i64 x, .int .i64 y]] w (Gives (.string (tx (wr ⟨2, n, s.data.toList, x, y⟩))) w) := by
 have hr := (rt_point_in h).1
 clear h
 have HA := Lib.hid (fun w => rdec_any x w (by omega))
 have HC := Lib.hid (fun w => rdec_any y w (by omega))
 have z2 := itoa_le x (by omega)
 have z3 := itoa_le y (by omega)
 have HE : Hid (tx (Lib.itoa x) ++ ⟨#[58]⟩ ++ tx (Lib.itoa y) = tx (wr ⟨2, n, s.data.toList, x, y⟩)) := by
  show _ = _
  rw [wr_point, show (⟨#[58]⟩ : ByteArray) = tx [58] from rfl, tx_append, tx_append]
 generalize tx (Lib.itoa x) = a at *
 generalize tx (Lib.itoa y) = b at *
 have g1 : ¬ a.size + 1 > 9223372036854775807 := by omega
 have g2 : ¬ a.size + 1 + b.size > 9223372036854775807 := by omega
 clear z2 z3 hr
 go_enter Tryz.func78, Tryz.ntmps78
 go_wp2_with (fail)
 have kb := Lib.hid (box1 w (.cells #[.int .i64 2, .int .i64 n, .string s, .int .i64 x, .int .i64 y] 45))
 have D := Blk.made w 45 (vcs 2 n s x y) rfl
 change Blk (w.alloc (.cells #[.int .i64 2, .int .i64 n, .string s, .int .i64 x, .int .i64 y] 45)) w.heap.size _ at D
 have DH := Lib.hid D; clear D
 generalize w.alloc (.cells #[.int .i64 2, .int .i64 n, .string s, .int .i64 x, .int .i64 y] 45) = v at *
 have k3 := fun r : Over v => (DH.out.over r).v3
 have k4 := fun r : Over v => (DH.out.over r).v4
 refine wp_over (by kernel_rfl) (by kernel_rfl) ?_
 repeat (go_big_quiet_step (first | fail | with_reducible exact over_gives _ (HA.out _) | with_reducible exact over_gives _ (HC.out _)))
 refine wpQuiet_nil ?_
 rintro w3 ⟨⟨w3, hb⟩, rfl⟩
 have HB3 := Lib.hid (Below.next kb.out hb)
 clear hb k3 k4
 go_wp2_with (fail)
 go_ret
 exact ⟨ret_str HE.out, HB3.out⟩
theorem ext_one {s : ByteArray} {k : Nat} (h : k < s.size) : (s.extract k (k + 1)).data.toList = [s[k]] := by
 have hl : k < s.data.toList.length := by simpa using h
 rw [Lib.extract_data, List.drop_eq_getElem_cons hl, show k + 1 - k = 1 by omega]; rfl
set_option maxRecDepth 100000 in
set_option maxHeartbeats 2000000 in
theorem rwrite_text {n x y : Int} {s : ByteArray} (h : rt ⟨1, n, s.data.toList, x, y⟩ = true) (w : World) : Calls Tryz.prog 78 #[.agg #[.int .i64 1, .int .i64 n, .string s, .int .i64 x, .int .i64 y]] w (Gives (.string (tx (wr ⟨1, n, s.data.toList, x, y⟩))) w) := by
 have hs : s.size ≤ 4096 := by
  have := (rt_text_in h).1
  simpa using this
 clear h
 rw [wr_text]
 go_enter Tryz.func78, Tryz.ntmps78
 go_wp2_with (fail)
 have kb := Lib.hid (box1 w (.cells #[.int .i64 1, .int .i64 n, .string s, .int .i64 x, .int .i64 y] 45))
 have D := Blk.made w 45 (vcs 1 n s x y) rfl
 change Blk (w.alloc (.cells #[.int .i64 1, .int .i64 n, .string s, .int .i64 x, .int .i64 y] 45)) w.heap.size _ at D
 have DH := Lib.hid D; clear D
 generalize w.alloc (.cells #[.int .i64 1, .int .i64 n, .string s, .int .i64 x, .int .i64 y] 45) = v at *
 go_wp2_with (fail)
 go_loopw [3, 4] (fun u i wr => ∃ k : Nat, k ≤ s.size ∧ i = .int .i64 (k : Int) ∧ u = .string (tx (34 :: esc (s.data.toList.take k))) ∧ Below v.heap.size v wr) (fun _ i _ => s.size - (intOf i).toNat)
 case atStart => exact ⟨0, Nat.zero_le _, rfl, rfl, Below.refl _ _⟩
 case round =>
  obtain ⟨k, hk, rfl, rfl, hb⟩ := hrel
  have HB := Lib.hid hb
  have D1 := DH.out.next hb
  have d2 := D1.v2
  have D1H := Lib.hid D1
  clear hb D1
  have zu : (tx (34 :: esc (s.data.toList.take k))).size ≤ 12290 := by
   rw [tx_size, List.length_cons]
   have h1 := esc_le (s.data.toList.take k)
   have h2 : (s.data.toList.take k).length ≤ k := List.length_take_le _ _
   omega
  by_cases hlt : k < s.size
  · have HS := Lib.hid (esc_take s k hlt)
    have HX := Lib.hid (ext_one hlt)
    obtain ⟨c, hc⟩ : ∃ c : UInt8, s[k] = c := ⟨_, rfl⟩
    rw [hc] at HS HX
    have HP := Lib.hid (rplain_any c)
    have hcl := c.toNat_lt
    by_cases hp : pl c = true
    · have HE : Hid (tx (34 :: esc (s.data.toList.take k)) ++ s.extract k (k + 1) = tx (34 :: esc (s.data.toList.take (k + 1)))) := by
       show _ = _
       rw [HS.out, tx_ext HX.out, tx_append, show e1 c = [c] from if_pos hp]; rfl
      have hz : (s.extract k (k + 1)).size = 1 := by
       rw [ByteArray.size_extract]; omega
      have hsl : ∀ w, (Instr.slice 9 (.string s) (some (.int .i64 (k : Int))) (some (.int .i64 ((k : Int) + 1))) none).run Tryz.prog w = .ok (.string (s.extract k (k + 1))) w := fun w =>
       run_slice_string (P := Tryz.prog) w 9 s .i64 .i64 (k : Int) ((k : Int) + 1) Tryz.underlying9 (by omega) (by omega) (by omega)
      rw [hp] at HP; clear hp HS HX
      generalize tx (34 :: esc (s.data.toList.take k)) = u at *
      generalize s.extract k (k + 1) = t at *
      have g1 : ¬ u.size + t.size > 9223372036854775807 := by omega
      clear hz
      go_wp2_with (fail)
      refine (HP.out _).mono ?_
      rintro e w' ⟨rfl, rfl⟩
      go_wp2_with (fail)
      go_roundw
      case rel => exact ⟨k + 1, by omega, by go_num, by rw [← HE.out], HB.out⟩
      case measure => simp [intOf]; omega
    · have hp' : pl c = false := by simpa using hp
      have HE : Hid (tx (34 :: esc (s.data.toList.take k)) ++ ⟨#[92]⟩ ++ tx [hx (c.toNat / 16)] ++ tx [hx (c.toNat % 16)] = tx (34 :: esc (s.data.toList.take (k + 1)))) := by
       show _ = _
       rw [HS.out, show (⟨#[92]⟩ : ByteArray) = tx [92] from rfl, tx_append, tx_append, tx_append, show e1 c = [92, hx (c.toNat / 16), hx (c.toNat % 16)] from if_neg hp]; simp
      have HA : Hid (∀ w, Calls Tryz.prog 122 #[.int .i64 ((c.toNat : Int) / 16)] w (Gives (.string (tx [hx (c.toNat / 16)])) w)) := fun w => rhex_any (c.toNat / 16) w (by omega)
      have HC : Hid (∀ w, Calls Tryz.prog 122 #[.int .i64 ((c.toNat : Int) % 16)] w (Gives (.string (tx [hx (c.toNat % 16)])) w)) := fun w => rhex_any (c.toNat % 16) w (by omega)
      have za : (tx [hx (c.toNat / 16)]).size = 1 := tx_size _
      have zb : (tx [hx (c.toNat % 16)]).size = 1 := tx_size _
      rw [hp'] at HP; clear hp hp' HS HX
      generalize tx (34 :: esc (s.data.toList.take k)) = u at *
      generalize tx [hx (c.toNat / 16)] = a at *
      generalize tx [hx (c.toNat % 16)] = b at *
      have g1 : ¬ u.size + 1 > 9223372036854775807 := by omega
      have g2 : ¬ u.size + 1 + a.size > 9223372036854775807 := by omega
      have g3 : ¬ u.size + 1 + a.size + b.size > 9223372036854775807 := by omega
      clear za zb zu
      go_wp2_with (fail)
      refine (HP.out _).mono ?_
      rintro e w' ⟨rfl, rfl⟩
      go_wp2_with (fail)
      have k2 := fun r : Over wr => (D1H.out.over r).v2
      refine wp_over (by kernel_rfl) (by kernel_rfl) ?_
      repeat (go_big_quiet_step (first | fail | with_reducible exact over_gives _ (HA.out _) | with_reducible exact over_gives _ (HC.out _)))
      refine wpQuiet_nil ?_
      rintro w3 ⟨⟨w3, hb⟩, rfl⟩
      have HB3 := Lib.hid (Below.next HB.out hb)
      clear hb k2
      go_wp2_with (fail)
      go_roundw
      case rel => exact ⟨k + 1, by omega, by go_num, by rw [← HE.out], HB3.out⟩
      case measure => simp [intOf]; omega
  · have HE : Hid (tx (34 :: esc (s.data.toList.take k)) ++ ⟨#[34]⟩ = tx (34 :: (esc s.data.toList ++ [34]))) := by
     show _ = _
     rw [show (⟨#[34]⟩ : ByteArray) = tx [34] from rfl, tx_append, List.take_of_length_le (by simp; omega)]; rfl
    generalize tx (34 :: esc (s.data.toList.take k)) = u at *
    have g1 : ¬ u.size + 1 > 9223372036854775807 := by omega
    clear zu
    go_wp2_with (fail)
    go_ret
    exact ⟨ret_str HE.out, Below.next kb.out HB.out⟩
theorem rwrite_yes {k n x y : Int} {s : ByteArray} (h : rt ⟨k, n, s.data.toList, x, y⟩ = true) (w : World) : Calls Tryz.prog 78 #[.agg #[.int .i64 k, .int .i64 n, .string s, .int .i64 x, .int .i64 y]] w (Gives (.string (tx (wr ⟨k, n, s.data.toList, x, y⟩))) w) := by
 by_cases h0 : k = 0
 · subst h0; exact rwrite_int h w
 by_cases h1 : k = 1
 · subst h1; exact rwrite_text h w
 by_cases h2 : k = 2
 · subst h2; exact rwrite_point h w
 rw [rt_kind n x y _ h0 h1 h2] at h; cases h
end Go.Proofs.YtimllihegnokeaaGreatDoor.Va

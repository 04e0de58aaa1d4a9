/-
  The greatest common divisor.
-/
import Derived.Test.YtimllihegnokeaaGaDiv2
import Derived.Test.YtimllihegnokeaaOvJump
namespace Go.Proofs.Ytimllihegnokeaa.Ga
open Go.ChangeShapes Go.WideShapes Go.ChangeAt Go.RowKit Go.Proofs.Ytimllihegnokeaa.Ov

theorem common_bad (x y u v : Int) (h : (rb ⟨x, y⟩ && rb ⟨u, v⟩) = false) (w : World) : Calls Try.prog 19 #[.agg #[.int .i64 x, .int .i64 y], .agg #[.int .i64 u, .int .i64 v]] w (Gives (.tuple #[.agg #[.int .i64 0, .int .i64 0], .int .i64 14]) w) := by
  have HR := Lib.hid (both_any x y u v); rw [h] at HR; clear h
  go_enter Try.func19, Try.ntmps19
  go_wp2_with (fail)
  refine wp_scope_once 0 (fun _ _ => False) (fun _ _ => 0) rfl (fun NX => ?_) (fun _ _ h => h.elim)
  clear NX
  go_wp2_with (fail)
  refine (HR.out _).mono ?_
  rintro e w1 ⟨rfl, hb⟩
  obtain ⟨h2, d2, d3, d4⟩ := boxes3 23 (.int .i64 x) (.int .i64 y) (.int .i64 u) (.int .i64 v) (.int .i64 0) (.int .i64 0) w
  have HB := Lib.hid (Below.next h2 hb)
  have hz := (d4.next hb).lt
  obtain ⟨e0, e1, g0, g1⟩ := d4.next hb
  clear hb h2 d2 d3 d4
  go_wp2_with (fail)
  simp only [Exit.jump]
  refine bodyPost_ret (v := .tuple #[.agg #[.int .i64 0, .int .i64 0], .int .i64 14]) (by simp [results, Try.results19, go_sem, e0, e1]) rfl ⟨rfl, ?_⟩
  exact below_put2 HB.out (c := w.heap.size + 1 + 1) (by omega) _ _
/-- Where the loop stands. -/
def JG (x y u v : Int) (w : World) (a' : Act) (w' : World) : Prop := ∃ (p q r s : Int) (u6 u7 u8 u9 u10 u11 u12 u13 u14 u15 u16 u17 u18 u19 u20 u21 u22 u23 u24 u25 : Value),
  rb ⟨p, q⟩ = true ∧ rb ⟨r, s⟩ = true ∧ Pt.cg ⟨p, q⟩ ⟨r, s⟩ = Pt.cg ⟨x, y⟩ ⟨u, v⟩ ∧ Duo w' w.heap.size (.int .i64 p) (.int .i64 q) ∧ Duo w' (w.heap.size + 1) (.int .i64 r) (.int .i64 s) ∧ Duo w' (w.heap.size + 1 + 1) (.int .i64 0) (.int .i64 0) ∧ Below w.heap.size w w' ∧
  a' = { tmps := #[.agg #[.int .i64 x, .int .i64 y], .agg #[.int .i64 u, .int .i64 v], .pointer (some ⟨w.heap.size, 0, none⟩), .pointer (some ⟨w.heap.size + 1, 0, none⟩), .pointer (some ⟨w.heap.size + 1 + 1, 0, none⟩), .int .i64 0, u6, u7, u8, u9, u10, u11, u12, u13, u14, u15, u16, u17, u18, u19, u20, u21, u22, u23, u24, u25], defers := [] }
def muG (w : World) (_ : Act) (w' : World) : Nat := (Pt.norm ⟨cellInt w' (w.heap.size + 1) 0, cellInt w' (w.heap.size + 1) 1⟩).toNat
set_option maxRecDepth 100000 in
set_option maxHeartbeats 2000000 in
theorem common_yes {x y u v : Int} (ha : rb ⟨x, y⟩ = true) (hb : rb ⟨u, v⟩ = true) (w : World) : Calls Try.prog 19 #[.agg #[.int .i64 x, .int .i64 y], .agg #[.int .i64 u, .int .i64 v]] w
    (Gives (.tuple #[.agg #[.int .i64 (Pt.cg ⟨x, y⟩ ⟨u, v⟩).x, .int .i64 (Pt.cg ⟨x, y⟩ ⟨u, v⟩).y], .int .i64 0]) w) := by
  have HR := Lib.hid (both_any x y u v); rw [ha, hb] at HR
  have HA := Lib.hid ha; have HH := Lib.hid hb; clear ha hb
  go_enter Try.func19, Try.ntmps19
  go_wp2_with (fail)
  refine wp_scope_once 0 (JG x y u v w) (muG w) rfl (fun NX => ?_) ?_
  · go_wp2_with (fail)
    refine (HR.out _).mono ?_
    rintro e w1 ⟨rfl, hb⟩
    obtain ⟨h2, d2, d3, d4⟩ := boxes3 23 (.int .i64 x) (.int .i64 y) (.int .i64 u) (.int .i64 v) (.int .i64 0) (.int .i64 0) w
    have HB := Lib.hid (Below.next h2 hb)
    have D2 := Lib.hid (d2.next hb); have D3 := Lib.hid (d3.next hb); have D4 := Lib.hid (d4.next hb)
    clear hb h2 d2 d3 d4
    go_wp2_with (fail)
    go_step3
    rename_i hK
    exact hK _ _ (NX.out _ _ ⟨x, y, u, v, _, _, _, _, _, _, _, _, _, _, _, _, _, _, _, _, _, _, _, _, HA.out, HH.out, rfl, D2.out, D3.out, D4.out, HB.out, rfl⟩)
  · rintro a' w' ⟨p, q, r, s, u6, u7, u8, u9, u10, u11, u12, u13, u14, u15, u16, u17, u18, u19, u20, u21, u22, u23, u24, u25, ha, hb, hg, d2, d3, d4, hbl, rfl⟩
    have HP := Lib.hid ha; have HQ := Lib.hid hb; have HG := Lib.hid hg; have D2 := Lib.hid d2; have D3 := Lib.hid d3; have D4 := Lib.hid d4; have HB := Lib.hid hbl
    obtain ⟨a0, a1, f2, f3⟩ := d2
    obtain ⟨b0, b1, f4, f5⟩ := d3
    have HM : Hid (muG w { tmps := #[.agg #[.int .i64 x, .int .i64 y], .agg #[.int .i64 u, .int .i64 v], .pointer (some ⟨w.heap.size, 0, none⟩), .pointer (some ⟨w.heap.size + 1, 0, none⟩), .pointer (some ⟨w.heap.size + 1 + 1, 0, none⟩), .int .i64 0, u6, u7, u8, u9, u10, u11, u12, u13, u14, u15, u16, u17, u18, u19, u20, u21, u22, u23, u24, u25], defers := [] } w' = (Pt.norm ⟨r, s⟩).toNat) := by
      show muG _ _ _ = _
      unfold muG; rw [cellInt_of b0, cellInt_of b1]
    clear ha hb hg d4 hbl
    by_cases h0 : (⟨r, s⟩ : Pt) = Pt.zero
    · have HC : Hid (Pt.cg ⟨x, y⟩ ⟨u, v⟩ = Pt.fs ⟨p, q⟩) := by
        show _ = _
        rw [← HG.out, h0, Pt.cg_zero]
      have hr : (r == 0) = true := by injection h0 with h1 h2; exact beq_iff_eq.2 h1
      have hs : (s == 0) = true := by injection h0 with h1 h2; exact beq_iff_eq.2 h2
      clear h0
      rw [HC.out]
      have HF := Lib.hid (first_any HP.out)
      generalize (Pt.fs ⟨p, q⟩).x = fx at *
      generalize (Pt.fs ⟨p, q⟩).y = fy at *
      go_wp2_with (fail)
      refine (HF.out _).mono ?_
      rintro e w2 ⟨rfl, hb⟩
      have HB2 := Lib.hid (HB.out.trans (hb.mono HB.out.size))
      have hz := (D4.out.next hb).lt
      obtain ⟨e0, e1, g0, g1⟩ := D4.out.next hb
      clear hb a0 a1 b0 b1
      go_wp2_with (fail)
      simp only [Exit.jump]
      refine bodyPost_ret (v := .tuple #[.agg #[.int .i64 fx, .int .i64 fy], .int .i64 0]) (by simp [results, Try.results19, go_sem, e0, e1]) rfl ⟨rfl, ?_⟩
      exact below_put2 HB2.out (c := w.heap.size + 1 + 1) (by omega) _ _
    · have HC : Hid (Pt.cg ⟨r, s⟩ (Pt.rest ⟨p, q⟩ ⟨r, s⟩) = Pt.cg ⟨x, y⟩ ⟨u, v⟩) := by
        show _ = _
        rw [← HG.out, Pt.cg_rest _ h0]
      have HL := Lib.hid (Pt.rest_lt ⟨p, q⟩ h0)
      have HN := Lib.hid (Pt.rest_right (a := ⟨p, q⟩) HQ.out h0)
      have HD := Lib.hid (divide_any HP.out HQ.out h0)
      have hne := not_zero h0
      clear h0
      obtain ⟨t, ht⟩ : ∃ t, Pt.rest ⟨p, q⟩ ⟨r, s⟩ = t := ⟨_, rfl⟩
      rw [ht] at HC HL HN HD
      obtain ⟨tx, ty⟩ := t
      have HD2 : Hid (∀ w, Calls Try.prog 28 #[.agg #[.int .i64 p, .int .i64 q], .agg #[.int .i64 r, .int .i64 s]] w
        (Gives (.tuple #[.agg #[.int .i64 (Pt.quo ⟨p, q⟩ ⟨r, s⟩).x, .int .i64 (Pt.quo ⟨p, q⟩ ⟨r, s⟩).y], .agg #[.int .i64 tx, .int .i64 ty]]) w)) := HD
      clear HD ht
      generalize (Pt.quo ⟨p, q⟩ ⟨r, s⟩).x = qx at *
      generalize (Pt.quo ⟨p, q⟩ ⟨r, s⟩).y = qy at *
      rcases hne with hr | ⟨hr, hs⟩
      all_goals
        go_wp2_with (fail)
        refine (HD2.out _).mono ?_
        rintro e w2 ⟨rfl, hb⟩
        obtain ⟨k2, o6, o7⟩ := boxes2 23 (.int .i64 qx) (.int .i64 qy) (.int .i64 tx) (.int .i64 ty) w2
        have HB2 := Lib.hid ((HB.out.trans (hb.mono HB.out.size)).trans (k2.mono (HB.out.trans (hb.mono HB.out.size)).size))
        have F2 := Lib.hid ((D2.out.next hb).next k2)
        have F3 := Lib.hid ((D3.out.next hb).next k2)
        have F4 := Lib.hid ((D4.out.next hb).next k2)
        have O7 := Lib.hid o7
        have hg : w.heap.size + 1 + 1 < w2.heap.size := (D4.out.next hb).lt
        clear hb a0 a1 b0 b1 f2 f3 f4 f5 k2 o6 o7
        go_wp2_with (fail)
        generalize (w2.alloc (.cells #[.int .i64 qx, .int .i64 qy] 23)).alloc (.cells #[.int .i64 tx, .int .i64 ty] 23) = w3 at *
        have n1 : ¬ w.heap.size = w2.heap.size + 1 := by omega
        have n2 : ¬ w.heap.size + 1 = w2.heap.size + 1 := by omega
        have n3 : ¬ w2.heap.size + 1 = w.heap.size := by omega
        have n4 : ¬ w2.heap.size + 1 = w.heap.size + 1 := by omega
        clear hg
        generalize w2.heap.size + 1 = g at *
        obtain ⟨a0, a1, _, _⟩ := O7.out
        obtain ⟨b0, b1, g0, g1⟩ := F2.out
        obtain ⟨c0, c1, i0, i1⟩ := F3.out
        have hz := F4.out.lt
        have HX := Lib.hid (((F2.out.set (.int .i64 r) (.int .i64 s)).put2 (c := w.heap.size + 1) (by omega) (.int .i64 tx) (.int .i64 ty)).drew)
        have HY := Lib.hid (((F3.out.put2 (c := w.heap.size) (by omega) (.int .i64 r) (.int .i64 s)).set (.int .i64 tx) (.int .i64 ty)).drew)
        have HZ := Lib.hid (((F4.out.put2 (c := w.heap.size) (by omega) (.int .i64 r) (.int .i64 s)).put2 (c := w.heap.size + 1) (by omega) (.int .i64 tx) (.int .i64 ty)).drew)
        have HW := Lib.hid (below_put2 (below_put2 HB2.out (c := w.heap.size) (by omega) (.int .i64 r) (.int .i64 s)) (c := w.heap.size + 1) (by omega) (.int .i64 tx) (.int .i64 ty)).drew
        go_region
        go_wp2_with (fail)
        go_step3
        refine ⟨rfl, ⟨r, s, tx, ty, _, _, _, _, _, _, _, _, _, _, _, _, _, _, _, _, _, _, _, _, HQ.out, HN.out, HC.out, HX.out, HY.out, HZ.out, HW.out, rfl⟩, ?_⟩
        refine Nat.lt_of_lt_of_eq ?_ HM.out.symm
        unfold muG
        rw [cellInt_of HY.out.c0, cellInt_of HY.out.c1]
        exact HL.out
end Go.Proofs.Ytimllihegnokeaa.Ga

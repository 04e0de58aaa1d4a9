/-
  The document's common divisors; 'in'.
-/
import Derived.Test.YtjgaaeomfilhoaaGaRef2
namespace Go.Proofs.Ytjgaaeomfilhoaa.Ga
open Go.ChangeShapes Go.WideShapes Go.ChangeAt Go.RowKit Go.Proofs.Ytjgaaeomfilhoaa.Ov

set_option maxHeartbeats 2000000 in
theorem rcommon_upto (n : Nat) : ∀ (x y u v : Int) (w : World), (Pt.norm ⟨u, v⟩).toNat < n → rb ⟨x, y⟩ = true → rb ⟨u, v⟩ = true →
    Calls Try.prog 24 #[.agg #[.int .i64 x, .int .i64 y], .agg #[.int .i64 u, .int .i64 v]] w (Gives (.agg #[.int .i64 (Pt.cg ⟨x, y⟩ ⟨u, v⟩).x, .int .i64 (Pt.cg ⟨x, y⟩ ⟨u, v⟩).y]) w) := by
  induction n with
  | zero => intro x y u v w h; omega
  | succ n ih =>
    intro x y u v w hn ha hb
    by_cases h0 : (⟨u, v⟩ : Pt) = Pt.zero
    · have HC := Lib.hid (rfirst_any ha)
      injection h0 with e1 e2
      subst e1; subst e2
      have e : Pt.cg ⟨x, y⟩ ⟨0, 0⟩ = Pt.fs ⟨x, y⟩ := Pt.cg_zero _
      rw [e]
      clear hn ha hb e ih
      generalize (Pt.fs ⟨x, y⟩).x = p at *
      generalize (Pt.fs ⟨x, y⟩).y = q at *
      go_enter Try.func24, Try.ntmps24
      go_wp2_with (fail)
      obtain ⟨kb, d0, d1, d2⟩ := boxes3 23 (.int .i64 x) (.int .i64 y) (.int .i64 0) (.int .i64 0) (.int .i64 0) (.int .i64 0) w
      have HB := Lib.hid kb; have D2 := Lib.hid d2
      clear kb d0 d1 d2
      generalize ((w.alloc (.cells #[.int .i64 x, .int .i64 y] 23)).alloc (.cells #[.int .i64 0, .int .i64 0] 23)).alloc (.cells #[.int .i64 0, .int .i64 0] 23) = w1 at *
      refine (HC.out _).mono ?_
      rintro e w2 ⟨rfl, hb⟩
      have HB2 := Lib.hid (Below.next HB.out hb)
      obtain ⟨e0, e1, g0, g1⟩ := D2.out.next hb
      have hz := (D2.out.next hb).lt
      clear hb
      go_wp2_with (fail)
      refine bodyPost_ret (v := .agg #[.int .i64 p, .int .i64 q]) (by simp [results, Try.results24, go_sem, e0, e1]) rfl ⟨rfl, ?_⟩
      exact below_put2 HB2.out (c := w.heap.size + 1 + 1) (by omega) _ _
    · have HD := Lib.hid (rdiv_any ha hb h0)
      have hr := Pt.rest_right (a := ⟨x, y⟩) hb h0
      have hl := Pt.rest_lt ⟨x, y⟩ h0
      rw [Pt.cg_rest _ h0]
      have hne := not_zero h0
      generalize Pt.rest ⟨x, y⟩ ⟨u, v⟩ = t at *
      obtain ⟨r, s⟩ := t
      have HI := Lib.hid (fun w => ih u v r s w (by omega) hb hr)
      clear ih hn ha hb h0 hr hl
      generalize (Pt.quo ⟨x, y⟩ ⟨u, v⟩).x = qx at *
      generalize (Pt.quo ⟨x, y⟩ ⟨u, v⟩).y = qy at *
      generalize (Pt.cg ⟨u, v⟩ ⟨r, s⟩).x = p at *
      generalize (Pt.cg ⟨u, v⟩ ⟨r, s⟩).y = q at *
      have HD2 : Hid (∀ w, Calls Try.prog 25 #[.agg #[.int .i64 x, .int .i64 y], .agg #[.int .i64 u, .int .i64 v]] w (Gives (.tuple #[.agg #[.int .i64 qx, .int .i64 qy], .agg #[.int .i64 r, .int .i64 s]]) w)) := HD
      clear HD
      rcases hne with h1 | ⟨h1, h2⟩
      all_goals
        go_enter Try.func24, Try.ntmps24
        go_wp2_with (fail)
        obtain ⟨kb, d0, d1, d2⟩ := boxes3 23 (.int .i64 x) (.int .i64 y) (.int .i64 u) (.int .i64 v) (.int .i64 0) (.int .i64 0) w
        have HB := Lib.hid kb; have D1 := Lib.hid d1; have D2 := Lib.hid d2
        clear kb d0 d1 d2
        generalize ((w.alloc (.cells #[.int .i64 x, .int .i64 y] 23)).alloc (.cells #[.int .i64 u, .int .i64 v] 23)).alloc (.cells #[.int .i64 0, .int .i64 0] 23) = w1 at *
        refine (HD2.out _).mono ?_
        rintro e w2 ⟨rfl, hb⟩
        obtain ⟨kb, o5, o6⟩ := boxes2 23 (.int .i64 qx) (.int .i64 qy) (.int .i64 r) (.int .i64 s) w2
        have HB2 := Lib.hid (Below.next (Below.next HB.out hb) kb)
        have E2 := Lib.hid ((D2.out.next hb).next kb)
        obtain ⟨a0, a1, a2, a3⟩ := (D1.out.next hb).next kb
        obtain ⟨b0, b1, b2, b3⟩ := o6
        clear hb kb o5 HB D1 D2
        go_wp2_with (fail)
        generalize (w2.alloc (.cells #[.int .i64 qx, .int .i64 qy] 23)).alloc (.cells #[.int .i64 r, .int .i64 s] 23) = w3 at *
        generalize w2.heap.size = g at *
        clear a0 a1 a2 a3 b0 b1 b2 b3
        refine (HI.out _).mono ?_
        rintro e w4 ⟨rfl, hb⟩
        have HB3 := Lib.hid (Below.next HB2.out hb)
        obtain ⟨e0, e1, g0, g1⟩ := E2.out.next hb
        have hz := (E2.out.next hb).lt
        clear hb
        go_wp2_with (fail)
        refine bodyPost_ret (v := .agg #[.int .i64 p, .int .i64 q]) (by simp [results, Try.results24, go_sem, e0, e1]) rfl ⟨rfl, ?_⟩
        exact below_put2 HB3.out (c := w.heap.size + 1 + 1) (by omega) _ _
theorem rcommon_any {x y u v : Int} (ha : rb ⟨x, y⟩ = true) (hb : rb ⟨u, v⟩ = true) (w : World) :
    Calls Try.prog 24 #[.agg #[.int .i64 x, .int .i64 y], .agg #[.int .i64 u, .int .i64 v]] w (Gives (.agg #[.int .i64 (Pt.cg ⟨x, y⟩ ⟨u, v⟩).x, .int .i64 (Pt.cg ⟨x, y⟩ ⟨u, v⟩).y]) w) :=
  rcommon_upto _ x y u v w (Nat.lt_succ_self _) ha hb
end Go.Proofs.Ytjgaaeomfilhoaa.Ga

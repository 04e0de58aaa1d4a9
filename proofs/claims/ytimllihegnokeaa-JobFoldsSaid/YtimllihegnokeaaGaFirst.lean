/-
  The first of four; Turn, Div.
-/
import Derived.Test.YtimllihegnokeaaGaDiv
namespace Go.Proofs.Ytimllihegnokeaa.Ga
open Go.ChangeShapes Go.WideShapes Go.ChangeAt Go.RowKit Go.Proofs.Ytimllihegnokeaa.Ov

/-- So many turns are left. -/
def left (a : Pt) : Nat := if (0 < a.x ∧ 0 ≤ a.y) ∨ (a.x = 0 ∧ a.y = 0) then 0 else if a.y < 0 ∧ 0 ≤ a.x then 1 else if a.x < 0 ∧ a.y ≤ 0 then 2 else 3
theorem left_turn {a : Pt} (h : ¬ ((0 < a.x ∧ 0 ≤ a.y) ∨ (a.x = 0 ∧ a.y = 0))) : left a.turn < left a := by
  have tx : a.turn.x = -a.y := rfl
  have ty : a.turn.y = a.x := rfl
  unfold left
  rw [if_neg h, tx, ty]
  repeat' split
  all_goals omega
/-- What the loop keeps. -/
structure RelF (x y : Int) (w : World) (b c : Nat) (wr : World) (p q : Int) : Prop where
  right : rb ⟨p, q⟩ = true
  same : Pt.fs ⟨p, q⟩ = Pt.fs ⟨x, y⟩
  own : Duo wr b (.int .i64 p) (.int .i64 q)
  res : Duo wr c (.int .i64 0) (.int .i64 0)
  below : Below w.heap.size w wr
def cellInt (w : World) (b o : Nat) : Int := match w.cell? ⟨b, o, none⟩ with | some (.int _ n) => n | _ => 0
theorem cellInt_of {w : World} {b o : Nat} {k : IntKind} {n : Int} (h : w.cell? ⟨b, o, none⟩ = some (.int k n)) : cellInt w b o = n := by unfold cellInt; rw [h]
set_option maxHeartbeats 1000000 in
theorem first_any {x y : Int} (h : rb ⟨x, y⟩ = true) (w : World) :
    Calls Try.prog 29 #[.agg #[.int .i64 x, .int .i64 y]] w (Gives (.agg #[.int .i64 (Pt.fs ⟨x, y⟩).x, .int .i64 (Pt.fs ⟨x, y⟩).y]) w) := by
  have H := Lib.hid h; clear h
  go_enter Try.func29, Try.ntmps29
  go_wp2_with (fail)
  obtain ⟨h2, d0, d1⟩ := boxes2 23 (.int .i64 x) (.int .i64 y) (.int .i64 0) (.int .i64 0) w
  have HW : Hid (∃ p q, RelF x y w w.heap.size (w.heap.size + 1) ((w.alloc (.cells #[.int .i64 x, .int .i64 y] 23)).alloc (.cells #[.int .i64 0, .int .i64 0] 23)) p q) := Lib.hid ⟨x, y, H.out, rfl, d0, d1, h2⟩
  clear h2 d0 d1
  go_loopw [] (fun wr => ∃ p q, RelF x y w w.heap.size (w.heap.size + 1) wr p q) (fun wr => left ⟨cellInt wr w.heap.size 0, cellInt wr w.heap.size 1⟩)
  case atStart => exact HW.out
  case round =>
    obtain ⟨p, q, hF⟩ := hrel
    have HF := Lib.hid hF
    have HM1 : Hid (cellInt wr w.heap.size 0 = p) := Lib.hid (cellInt_of hF.own.c0)
    have HM2 : Hid (cellInt wr w.heap.size 1 = q) := Lib.hid (cellInt_of hF.own.c1)
    obtain ⟨c0, c1, f0, f1⟩ := hF.own
    obtain ⟨e0, e1, g0, g1⟩ := hF.res
    clear hF
    by_cases hd : (0 < p ∧ 0 ≤ q) ∨ (p = 0 ∧ q = 0)
    · have HE : Hid (Pt.fs ⟨x, y⟩ = ⟨p, q⟩) := by
        show _ = _
        rw [← HF.out.same]
        exact Pt.fs_done (hd.imp id (fun h => Pt.ext h.1 h.2))
      have hz := HF.out.res.lt
      have p0 : ¬ p < 0 := by omega
      have q0 : ¬ q < 0 := by omega
      by_cases hp : p = 0
      · have q1 : ¬ 0 < q := by omega
        have hpb : (p == 0) = true := beq_iff_eq.2 hp
        clear hd hp
        go_wp2_with (fail)
        refine bodyPost_ret (v := .agg #[.int .i64 p, .int .i64 q]) (by simp [results, Try.results29, go_sem, e0, e1]) rfl ⟨by rw [HE.out], ?_⟩
        exact below_put2 HF.out.below (c := w.heap.size + 1) (by omega) _ _
      · have hpb : (p == 0) = false := beq_eq_false_iff_ne.2 hp
        clear hd hp
        go_wp2_with (fail)
        refine bodyPost_ret (v := .agg #[.int .i64 p, .int .i64 q]) (by simp [results, Try.results29, go_sem, e0, e1]) rfl ⟨by rw [HE.out], ?_⟩
        exact below_put2 HF.out.below (c := w.heap.size + 1) (by omega) _ _
    · have HT : Hid (∀ w, Calls Try.prog 38 #[.agg #[.int .i64 p, .int .i64 q], .int .i64 1] w (Gives (.agg #[.int .i64 (-q), .int .i64 p]) w)) := Lib.hid (turn_any HF.out.right 1 (by omega))
      have HL : Hid (left ⟨-q, p⟩ < left ⟨p, q⟩) := Lib.hid (left_turn (a := ⟨p, q⟩) hd)
      have HS : Hid (Pt.fs ⟨-q, p⟩ = Pt.fs ⟨x, y⟩) := Lib.hid ((Pt.fs_turn (a := ⟨p, q⟩) (fun h => hd (.inl h)) (fun h => hd (.inr (by injection h with h1 h2; exact ⟨h1, h2⟩)))).trans HF.out.same)
      have HR : Hid (rb ⟨-q, p⟩ = true) := Lib.hid (Pt.turn_right HF.out.right)
      have hcase : p < 0 ∨ (¬ p < 0 ∧ q < 0) ∨ (¬ p < 0 ∧ ¬ q < 0 ∧ (p == 0) = true ∧ 0 < q) := by
        by_cases a1 : p < 0
        · exact .inl a1
        · by_cases a2 : q < 0
          · exact .inr (.inl ⟨a1, a2⟩)
          · exact .inr (.inr ⟨a1, a2, beq_iff_eq.2 (by omega), by omega⟩)
      clear hd
      generalize -q = q' at *
      rcases hcase with a1 | ⟨a1, a2⟩ | ⟨a1, a2, a3, a4⟩
      all_goals
        go_wp2_with (fail)
        refine (HT.out _).mono ?_
        rintro e w2 ⟨rfl, hb⟩
        have HO := Lib.hid ((HF.out.own.next hb).set (.int .i64 q') (.int .i64 p))
        have HP := Lib.hid ((HF.out.res.next hb).put2 (c := w.heap.size) (by omega) (.int .i64 q') (.int .i64 p))
        have HB := Lib.hid (below_put2 (HF.out.below.trans (hb.mono HF.out.below.size)) (c := w.heap.size) (Nat.le_refl _) (.int .i64 q') (.int .i64 p))
        obtain ⟨d0, d1, h0, h1⟩ := HF.out.own.next hb
        have hz := (HF.out.own.next hb).lt
        clear hb c0 c1 f0 f1 e0 e1 g0 g1
        go_wp2_with (fail)
        go_roundw
        case rel => exact ⟨q', p, HR.out, HS.out, HO.out, HP.out, HB.out⟩
        case measure =>
          rw [HM1.out, HM2.out, cellInt_of HO.out.c0, cellInt_of HO.out.c1]
          exact HL.out
end Go.Proofs.Ytimllihegnokeaa.Ga

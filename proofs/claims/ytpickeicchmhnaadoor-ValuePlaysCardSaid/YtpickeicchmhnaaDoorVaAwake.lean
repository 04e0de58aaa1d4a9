/-
  The document's examples for layer 7; a value among a law's arguments.
-/
import Derived.Test.YtpickeicchmhnaaDoorVaParse
import Derived.Test.YtpickeicchmhnaaDoorVaPz
import Derived.Test.YtpickeicchmhnaaDoorVaWrite2
import Derived.Lib.SmallJoins
import Derived.OpenShut
import Derived.ShutString
namespace Go.Proofs.YtpickeicchmhnaaDoor.Va
open Go.ChangeShapes Go.WideShapes Go.ChangeAt Go.RowKit Go.Proofs.YtpickeicchmhnaaDoor.Ov Go.Proofs.YtpickeicchmhnaaDoor.Tp

theorem parse_eg (w : World) : Calls Tryd.prog 13 #[.string ⟨#[34, 97, 92, 48, 97, 34, 120]⟩] w (Gives (.tuple #[.agg #[.int .i64 1, .int .i64 0, .string ⟨#[97, 10]⟩, .int .i64 0, .int .i64 0], .int .i64 6, .int .i64 0]) w) := by
  have e : pz [34, 97, 92, 48, 97, 34, 120] = (⟨1, 0, [97, 10], 0, 0⟩, 6, 0) := by
    have h := pz_wr (v := ⟨1, 0, [97, 10], 0, 0⟩) (by decide) (r := [120]) (fun h => absurd rfl h)
    have e : wr ⟨1, 0, [97, 10], 0, 0⟩ = [34, 97, 92, 48, 97, 34] := by decide
    rw [e] at h; exact h
  have h := parse_any ⟨#[34, 97, 92, 48, 97, 34, 120]⟩ w (by decide)
  change Calls _ _ _ _ (Gives (prv (pz [34, 97, 92, 48, 97, 34, 120])) w) at h
  rw [e] at h
  exact h
theorem write_eg (w : World) (ht : Tab w) : Calls Tryd.prog 12 #[.agg #[.int .i64 2, .int .i64 0, .string ⟨#[]⟩, .int .i64 3, .int .i64 (-4)]] w (Gives (.string ⟨#[51, 58, 45, 52]⟩) w) := by
  have e : wr ⟨2, 0, [], 3, -4⟩ = [51, 58, 45, 52] := by
    rw [wr_point]
    have e1 : Lib.itoa 3 = [51] := by
      show Lib.decDigits 3 = _
      rw [dec_small (by omega)]; rfl
    have e2 : Lib.itoa (-4) = [45, 52] := by
      show 45 :: Lib.decDigits 4 = _
      rw [dec_small (by omega)]; rfl
    rw [e1, e2]; rfl
  have h := write_yes (k := 2) (n := 0) (x := 3) (y := -4) (s := ⟨#[]⟩) (by decide) w ht
  change Calls _ _ _ _ (Gives (.string (tx (wr ⟨2, 0, [], 3, -4⟩))) w) at h
  rw [e] at h
  exact h
set_option maxHeartbeats 1000000 in
theorem awake_any (w : World) (ht : Tab w) : Calls Tryd.prog 7 #[] w (Gives (.bool true) w) := by
  have HT := Lib.hid ht; clear ht
  go_enter Tryd.func7, Tryd.ntmps7
  go_wp2_with (fail)
  refine (parse_eg _).mono ?_
  rintro e w1 ⟨rfl, hb⟩
  have HB := Lib.hid (Below.next hb (box1 w1 (.cells #[.int .i64 1, .int .i64 0, .string ⟨#[97, 10]⟩, .int .i64 0, .int .i64 0] 25)))
  have HT1 := Lib.hid ((HT.out.next hb).next (box1 w1 (.cells #[.int .i64 1, .int .i64 0, .string ⟨#[97, 10]⟩, .int .i64 0, .int .i64 0] 25)))
  have D := Lib.hid (Blk.made w1 25 (vcs 1 0 ⟨#[97, 10]⟩ 0 0) rfl)
  clear hb
  go_wp2_with (fail)
  change Hid (Blk (w1.alloc (.cells #[.int .i64 1, .int .i64 0, .string ⟨#[97, 10]⟩, .int .i64 0, .int .i64 0] 25)) w1.heap.size _) at D
  generalize w1.alloc (.cells #[.int .i64 1, .int .i64 0, .string ⟨#[97, 10]⟩, .int .i64 0, .int .i64 0] 25) = w2 at *
  generalize w1.heap.size = d at *
  refine (write_eg _ HT1.out).mono ?_
  rintro e w3 ⟨rfl, hb⟩
  have HB3 := Lib.hid (Below.next HB.out hb)
  have D3 := D.out.next hb
  clear hb D
  have d0 := D3.v0; have d1 := D3.v1; have d2 := D3.v2; have d3 := D3.v3; have d4 := D3.v4
  clear D3
  go_wp2_with (fail)
  go_ret
  exact ⟨rfl, HB3.out⟩
section
variable {H : Type} {enc : TypeId × Value → H} {w : World} {base : Nat} {spare : Nat → Bool} {held : Bool}
/-- A value among the arguments, opened. -/
theorem val_of {r : Reach} {b0 : Nat} {v : Value} {d : DataW H} {p : List MemPlace} (hv : Value.okWide Tryd.prog w r b0 25 v) (h : DataW.Trod enc Tryd.prog w base spare held 25 v d p) :
    ∃ (k n : Int) (s : ByteArray) (x y : Int), v = .agg #[.int .i64 k, .int .i64 n, .string s, .int .i64 x, .int .i64 y] ∧
      d = .agg [.lit (.int .i64 k), .lit (.int .i64 n), .lit (.string s.data.toList), .agg [.lit (.int .i64 x), .lit (.int .i64 y)]] ∧ p = [] ∧
      (Lit.int .i64 k).wf = true ∧ (Lit.int .i64 n).wf = true ∧ s.size ≤ maxLen ∧ (Lit.int .i64 x).wf = true ∧ (Lit.int .i64 y).wf = true := by
  have c1 : Tryd.prog.cellsOf 3 = 1 := by kernel_rfl
  have c2 : Tryd.prog.cellsOf 9 = 1 := by kernel_rfl
  have c3 : Tryd.prog.cellsOf 23 = 2 := by kernel_rfl
  obtain ⟨cs, rfl, hsz⟩ := okWide_struct Tryd.underlying25 hv
  have hC : Tryd.prog.cellsOf 25 = 5 := by kernel_rfl
  obtain ⟨l⟩ := cs
  match l, hsz.trans hC with
  | [a0, a1, a2, a3, a4], _ =>
    obtain ⟨fuel, hf⟩ := h
    obtain ⟨y0, y1, y2, y3, m, hx, _, h0, h1, h2, h3⟩ := Joins.trod_struct4 Tryd.underlying25 hf
    simp only [Prod.mk.injEq] at hx
    simp only [c1, c2, c3, Value.cells] at h0 h1 h2 h3
    obtain ⟨k, e0, rfl, w0⟩ := DataW.trod_int Tryd.underlying3 h0
    obtain ⟨n, e1, rfl, w1⟩ := DataW.trod_int Tryd.underlying3 h1
    obtain ⟨s, e2, rfl, w2⟩ := DataW.trod_string Tryd.underlying9 h2
    obtain ⟨z0, z1, m', hz, _, g0, g1⟩ := trod_struct2 Tryd.underlying23 h3
    simp only [c1] at g0 g1
    obtain ⟨x, f0, rfl, u0⟩ := DataW.trod_int Tryd.underlying3 g0
    obtain ⟨y, f1, rfl, u1⟩ := DataW.trod_int Tryd.underlying3 g1
    have e3 : [a0] = [Value.int .i64 k] := e0
    have e4 : [a1] = [Value.int .i64 n] := e1
    have e5 : [a2] = [Value.string s] := e2
    have e6 : [a3] = [Value.int .i64 x] := f0
    have e7 : [a4] = [Value.int .i64 y] := f1
    obtain rfl : a0 = .int .i64 k := by simpa using e3
    obtain rfl : a1 = .int .i64 n := by simpa using e4
    obtain rfl : a2 = .string s := by simpa using e5
    obtain rfl : a3 = .int .i64 x := by simpa using e6
    obtain rfl : a4 = .int .i64 y := by simpa using e7
    subst hz
    exact ⟨k, n, s, x, y, rfl, hx.1, by simpa using hx.2, w0, w1, w2, u0, u1⟩
/-- And shut. -/
theorem shut_val {k n x y : Int} {s : ByteArray} (w0 : (Lit.int .i64 k).wf = true) (w1 : (Lit.int .i64 n).wf = true) (w2 : s.size ≤ maxLen) (w3 : (Lit.int .i64 x).wf = true) (w4 : (Lit.int .i64 y).wf = true) :
    DataW.Trod enc Tryd.prog w base spare held 25 (.agg #[.int .i64 k, .int .i64 n, .string s, .int .i64 x, .int .i64 y]) (.agg [.lit (.int .i64 k), .lit (.int .i64 n), .lit (.string s.data.toList), .agg [.lit (.int .i64 x), .lit (.int .i64 y)]]) [] := by
  have c1 : Tryd.prog.cellsOf 3 = 1 := by kernel_rfl
  have c2 : Tryd.prog.cellsOf 9 = 1 := by kernel_rfl
  have c3 : Tryd.prog.cellsOf 23 = 2 := by kernel_rfl
  have c4 : Tryd.prog.cellsOf 25 = 5 := by kernel_rfl
  have hs : DataW.trod enc Tryd.prog w base spare held 2 9 [.string s] = some (.lit (.string s.data.toList), []) := by simp [DataW.trod, Tryd.underlying9, w2]
  have hp := trod_struct2_mk (enc := enc) (P := Tryd.prog) (w := w) (base := base) (spare := spare) (held := held) (n := 1) (cs := [.int .i64 x, .int .i64 y]) (y0 := (.lit (.int .i64 x), [])) (y1 := (.lit (.int .i64 y), []))
    Tryd.underlying23 (by simp [c3]) (by simp only [c1]; exact trod_int_mk 0 Tryd.underlying3 w3) (by simp only [c1]; exact trod_int_mk 0 Tryd.underlying3 w4)
  have ht := Joins.trod_struct4_mk (enc := enc) (P := Tryd.prog) (w := w) (base := base) (spare := spare) (held := held) (n := 2) (cs := [.int .i64 k, .int .i64 n, .string s, .int .i64 x, .int .i64 y])
    (y0 := (.lit (.int .i64 k), [])) (y1 := (.lit (.int .i64 n), [])) (y2 := (.lit (.string s.data.toList), [])) (y3 := (.agg [.lit (.int .i64 x), .lit (.int .i64 y)], []))
    Tryd.underlying25 (by simp [c4]) (by simp only [c1]; exact trod_int_mk 1 Tryd.underlying3 w0) (by simp only [c1]; exact trod_int_mk 1 Tryd.underlying3 w1) (by simp only [c2]; exact hs)
    (by simp only [c3]; simpa using hp)
  exact ⟨_, by simpa [Value.cells] using ht⟩
end
end Go.Proofs.YtpickeicchmhnaaDoor.Va

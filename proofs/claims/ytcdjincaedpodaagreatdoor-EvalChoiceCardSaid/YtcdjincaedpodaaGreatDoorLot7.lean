/-
  The texts of this claim, lot 7: EvArg.
-/
import Derived.Test.YtcdjincaedpodaaGreatDoorLot6
import Derived.Deep.Strs
/-
  What stands for names, among a law's arguments: opened, and shut.
-/
namespace Go.Proofs.YtcdjincaedpodaaGreatDoor.Ev
open Go.ChangeShapes Go.WideShapes Go.ChangeAt Go.RowKit Go.Proofs.YtcdjincaedpodaaGreatDoor.Ov Go.Proofs.YtcdjincaedpodaaGreatDoor.Tp Go.Proofs.YtcdjincaedpodaaGreatDoor.Va

/-- A right machine's value: its numbers fit, its text is not too long. -/
def Vin (v : Va) : Prop := (Lit.int .i64 v.k).wf = true ∧ (Lit.int .i64 v.n).wf = true ∧ v.s.length ≤ maxLen ∧ (Lit.int .i64 v.x).wf = true ∧ (Lit.int .i64 v.y).wf = true
def vdt {H : Type} (v : Va) : DataW H := .agg [.lit (.int .i64 v.k), .lit (.int .i64 v.n), .lit (.string v.s), .agg [.lit (.int .i64 v.x), .lit (.int .i64 v.y)]]
section
variable {H : Type} {enc : TypeId × Value → H} {w : World} {base : Nat} {spare : Nat → Bool} {held : Bool}
set_option maxRecDepth 100000 in
theorem val_cells {fuel : Nat} {a0 a1 a2 a3 a4 : Value} {z : DataW H × List MemPlace} (h : DataW.trod enc Tryz.prog w base spare held fuel 26 [a0, a1, a2, a3, a4] = some z) :
    ∃ v : Va, [a0, a1, a2, a3, a4] = [.int .i64 v.k, .int .i64 v.n, .string (tx v.s), .int .i64 v.x, .int .i64 v.y] ∧ z = (vdt v, []) ∧ Vin v := by
  have c1 : Tryz.prog.cellsOf 3 = 1 := by kernel_rfl
  have c2 : Tryz.prog.cellsOf 9 = 1 := by kernel_rfl
  have c3 : Tryz.prog.cellsOf 24 = 2 := by kernel_rfl
  obtain ⟨y0, y1, y2, y3, m, hx, _, h0, h1, h2, h3⟩ := Joins.trod_struct4 Tryz.underlying26 h
  simp only [c1, c2, c3] at h0 h1 h2 h3
  obtain ⟨k, e0, rfl, w0⟩ := DataW.trod_int Tryz.underlying3 h0
  obtain ⟨n, e1, rfl, w1⟩ := DataW.trod_int Tryz.underlying3 h1
  obtain ⟨s, e2, rfl, w2⟩ := DataW.trod_string Tryz.underlying9 h2
  obtain ⟨z0, z1, m', hz, _, g0, g1⟩ := trod_struct2 Tryz.underlying24 h3
  simp only [c1] at g0 g1
  obtain ⟨x, f0, rfl, u0⟩ := DataW.trod_int Tryz.underlying3 g0
  obtain ⟨y, f1, rfl, u1⟩ := DataW.trod_int Tryz.underlying3 g1
  have e3 : [a0] = [Value.int .i64 k] := e0
  have e4 : [a1] = [Value.int .i64 n] := e1
  have e5 : [a2] = [Value.string s] := e2
  have e6 : [a3] = [Value.int .i64 x] := f0
  have e7 : [a4] = [Value.int .i64 y] := f1
  obtain rfl : a0 = .int .i64 k := by simpa using e3
  obtain rfl : a1 = .int .i64 n := by simpa using e4
  obtain rfl : a2 = .string s := by simpa using e5
  obtain rfl : a3 = .int .i64 x := by simpa using e6
  obtain rfl : a4 = .int .i64 y := by simpa using e7
  subst hz
  refine ⟨⟨k, n, s.data.toList, x, y⟩, by dsimp only; rw [show tx s.data.toList = s from (tx_ext rfl).symm], ?_, w0, w1, by simpa using w2, u0, u1⟩
  rw [hx]; rfl
set_option maxRecDepth 100000 in
theorem val_mk {v : Va} (h : Vin v) : DataW.trod enc Tryz.prog w base spare held 3 26 [.int .i64 v.k, .int .i64 v.n, .string (tx v.s), .int .i64 v.x, .int .i64 v.y] = some (vdt v, []) := by
  obtain ⟨w0, w1, w2, w3, w4⟩ := h
  have c1 : Tryz.prog.cellsOf 3 = 1 := by kernel_rfl
  have c2 : Tryz.prog.cellsOf 9 = 1 := by kernel_rfl
  have c3 : Tryz.prog.cellsOf 24 = 2 := by kernel_rfl
  have c4 : Tryz.prog.cellsOf 26 = 5 := by kernel_rfl
  have hs : DataW.trod enc Tryz.prog w base spare held 2 9 [.string (tx v.s)] = some (.lit (.string v.s), []) := by
    have : (tx v.s).size ≤ maxLen := by rw [tx_size]; exact w2
    simp [DataW.trod, Tryz.underlying9, this, tx_list]
  have hp := trod_struct2_mk (enc := enc) (P := Tryz.prog) (w := w) (base := base) (spare := spare) (held := held) (n := 1) (cs := [.int .i64 v.x, .int .i64 v.y]) (y0 := (.lit (.int .i64 v.x), [])) (y1 := (.lit (.int .i64 v.y), []))
    Tryz.underlying24 (by simp [c3]) (by simp only [c1]; exact trod_int_mk 0 Tryz.underlying3 w3) (by simp only [c1]; exact trod_int_mk 0 Tryz.underlying3 w4)
  have ht := Joins.trod_struct4_mk (enc := enc) (P := Tryz.prog) (w := w) (base := base) (spare := spare) (held := held) (n := 2) (cs := [.int .i64 v.k, .int .i64 v.n, .string (tx v.s), .int .i64 v.x, .int .i64 v.y])
    (y0 := (.lit (.int .i64 v.k), [])) (y1 := (.lit (.int .i64 v.n), [])) (y2 := (.lit (.string v.s), [])) (y3 := (.agg [.lit (.int .i64 v.x), .lit (.int .i64 v.y)], []))
    Tryz.underlying26 (by simp [c4]) (by simp only [c1]; exact trod_int_mk 1 Tryz.underlying3 w0) (by simp only [c1]; exact trod_int_mk 1 Tryz.underlying3 w1) (by simp only [c2]; exact hs)
    (by simp only [c3]; simpa using hp)
  simpa [vdt] using ht
set_option maxRecDepth 100000 in
/-- What stands for names, opened. -/
theorem env_of {r : Reach} {b0 : Nat} {v : Value} {d : DataW H} {p : List MemPlace} (hv : Value.okWide Tryz.prog w r b0 28 v) (h : DataW.Trod enc Tryz.prog w base spare held 28 v d p) :
    ∃ (k : List UInt8) (x y : Va), v = .agg #[.string (tx k), .int .i64 x.k, .int .i64 x.n, .string (tx x.s), .int .i64 x.x, .int .i64 x.y, .int .i64 y.k, .int .i64 y.n, .string (tx y.s), .int .i64 y.x, .int .i64 y.y] ∧
      d = .agg [.lit (.string k), vdt x, vdt y] ∧ p = [] ∧ k.length ≤ maxLen ∧ Vin x ∧ Vin y := by
  have c2 : Tryz.prog.cellsOf 9 = 1 := by kernel_rfl
  have c4 : Tryz.prog.cellsOf 26 = 5 := by kernel_rfl
  obtain ⟨cs, rfl, hsz⟩ := okWide_struct Tryz.underlying28 hv
  have hC : Tryz.prog.cellsOf 28 = 11 := by kernel_rfl
  obtain ⟨l⟩ := cs
  match l, hsz.trans hC with
  | [a0, a1, a2, a3, a4, a5, a6, a7, a8, a9, a10], _ =>
    obtain ⟨fuel, hf⟩ := h
    obtain ⟨y0, y1, y2, m, hx, _, h0, h1, h2⟩ := Go.Deep.trod_struct3 Tryz.underlying28 hf
    simp only [Prod.mk.injEq] at hx
    simp only [c2, c4, Value.cells] at h0 h1 h2
    obtain ⟨s, e0, rfl, w0⟩ := DataW.trod_string Tryz.underlying9 h0
    have e1 : [a0] = [Value.string s] := e0
    obtain rfl : a0 = .string s := by simpa using e1
    change DataW.trod enc Tryz.prog w base spare held m 26 [a1, a2, a3, a4, a5] = _ at h1
    change DataW.trod enc Tryz.prog w base spare held m 26 [a6, a7, a8, a9, a10] = _ at h2
    obtain ⟨u, e2, rfl, q1⟩ := val_cells h1
    obtain ⟨u', e3, rfl, q2⟩ := val_cells h2
    simp only [List.cons.injEq, and_true] at e2 e3
    obtain ⟨rfl, rfl, rfl, rfl, rfl⟩ := e2
    obtain ⟨rfl, rfl, rfl, rfl, rfl⟩ := e3
    exact ⟨s.data.toList, u, u', by rw [show tx s.data.toList = s from (tx_ext rfl).symm], hx.1, by simpa using hx.2, by simpa using w0, q1, q2⟩
set_option maxRecDepth 100000 in
/-- And shut. -/
theorem shut_env {k : List UInt8} {x y : Va} (hk : k.length ≤ maxLen) (hx : Vin x) (hy : Vin y) :
    DataW.Trod enc Tryz.prog w base spare held 28 (.agg #[.string (tx k), .int .i64 x.k, .int .i64 x.n, .string (tx x.s), .int .i64 x.x, .int .i64 x.y, .int .i64 y.k, .int .i64 y.n, .string (tx y.s), .int .i64 y.x, .int .i64 y.y]) (.agg [.lit (.string k), vdt x, vdt y]) [] := by
  have c2 : Tryz.prog.cellsOf 9 = 1 := by kernel_rfl
  have c4 : Tryz.prog.cellsOf 26 = 5 := by kernel_rfl
  have hC : Tryz.prog.cellsOf 28 = 11 := by kernel_rfl
  have hs : DataW.trod enc Tryz.prog w base spare held 3 9 [.string (tx k)] = some (.lit (.string k), []) := by
    have : (tx k).size ≤ maxLen := by rw [tx_size]; exact hk
    simp [DataW.trod, Tryz.underlying9, this, tx_list]
  have ht := Go.Deep.trod_struct3_mk (enc := enc) (P := Tryz.prog) (w := w) (base := base) (spare := spare) (held := held) (n := 3) (cs := [.string (tx k), .int .i64 x.k, .int .i64 x.n, .string (tx x.s), .int .i64 x.x, .int .i64 x.y, .int .i64 y.k, .int .i64 y.n, .string (tx y.s), .int .i64 y.x, .int .i64 y.y])
    (y0 := (.lit (.string k), [])) (y1 := (vdt x, [])) (y2 := (vdt y, []))
    Tryz.underlying28 (by simp [hC]) (by simp only [c2]; exact hs) (by simp only [c4]; exact val_mk hx) (by simp only [c4]; exact val_mk hy)
  exact ⟨_, by simpa [Value.cells] using ht⟩
end
end Go.Proofs.YtcdjincaedpodaaGreatDoor.Ev

/-
  Pairs, and lists of pairs, among a law's arguments.
-/
import Derived.Test.YtgakcpcpfkoaiaaPrCat
import Derived.Test.YtgakcpcpfkoaiaaVaVal
import Derived.Deep.Slices
import Derived.DataReads
namespace Go.Proofs.Ytgakcpcpfkoaiaa.Pr
open Go.ChangeShapes Go.WideShapes Go.ChangeAt Go.RowKit Go.Proofs.Ytgakcpcpfkoaiaa.Ov Go.Proofs.Ytgakcpcpfkoaiaa.Va

section
variable {H : Type} {enc : TypeId × Value → H} {w : World} {base : Nat} {spare : Nat → Bool} {held : Bool}
def vdt {H : Type} (k n : Int) (s : ByteArray) (x y : Int) : DataW H := .agg [.lit (.int .i64 k), .lit (.int .i64 n), .lit (.string s.data.toList), .agg [.lit (.int .i64 x), .lit (.int .i64 y)]]
set_option maxRecDepth 100000 in
theorem val_cells {fuel : Nat} {a0 a1 a2 a3 a4 : Value} {z : DataW H × List MemPlace} (h : DataW.trod enc Try.prog w base spare held fuel 42 [a0, a1, a2, a3, a4] = some z) :
    ∃ (k n : Int) (s : ByteArray) (x y : Int), [a0, a1, a2, a3, a4] = [.int .i64 k, .int .i64 n, .string s, .int .i64 x, .int .i64 y] ∧ z = (vdt k n s x y, []) ∧
      (Lit.int .i64 k).wf = true ∧ (Lit.int .i64 n).wf = true ∧ s.size ≤ maxLen ∧ (Lit.int .i64 x).wf = true ∧ (Lit.int .i64 y).wf = true := by
  have c1 : Try.prog.cellsOf 3 = 1 := by kernel_rfl
  have c2 : Try.prog.cellsOf 9 = 1 := by kernel_rfl
  have c3 : Try.prog.cellsOf 40 = 2 := by kernel_rfl
  obtain ⟨y0, y1, y2, y3, m, hx, _, h0, h1, h2, h3⟩ := Joins.trod_struct4 Try.underlying42 h
  simp only [c1, c2, c3] at h0 h1 h2 h3
  obtain ⟨k, e0, rfl, w0⟩ := DataW.trod_int Try.underlying3 h0
  obtain ⟨n, e1, rfl, w1⟩ := DataW.trod_int Try.underlying3 h1
  obtain ⟨s, e2, rfl, w2⟩ := DataW.trod_string Try.underlying9 h2
  obtain ⟨z0, z1, m', hz, _, g0, g1⟩ := trod_struct2 Try.underlying40 h3
  simp only [c1] at g0 g1
  obtain ⟨x, f0, rfl, u0⟩ := DataW.trod_int Try.underlying3 g0
  obtain ⟨y, f1, rfl, u1⟩ := DataW.trod_int Try.underlying3 g1
  have e3 : [a0] = [Value.int .i64 k] := e0
  have e4 : [a1] = [Value.int .i64 n] := e1
  have e5 : [a2] = [Value.string s] := e2
  have e6 : [a3] = [Value.int .i64 x] := f0
  have e7 : [a4] = [Value.int .i64 y] := f1
  obtain rfl : a0 = .int .i64 k := by simpa using e3
  obtain rfl : a1 = .int .i64 n := by simpa using e4
  obtain rfl : a2 = .string s := by simpa using e5
  obtain rfl : a3 = .int .i64 x := by simpa using e6
  obtain rfl : a4 = .int .i64 y := by simpa using e7
  subst hz
  exact ⟨k, n, s, x, y, rfl, by rw [hx]; rfl, w0, w1, w2, u0, u1⟩
set_option maxRecDepth 100000 in
theorem val_mk {k n x y : Int} {s : ByteArray} (w0 : (Lit.int .i64 k).wf = true) (w1 : (Lit.int .i64 n).wf = true) (w2 : s.size ≤ maxLen) (w3 : (Lit.int .i64 x).wf = true) (w4 : (Lit.int .i64 y).wf = true) :
    DataW.trod enc Try.prog w base spare held 3 42 [.int .i64 k, .int .i64 n, .string s, .int .i64 x, .int .i64 y] = some (vdt k n s x y, []) := by
  have c1 : Try.prog.cellsOf 3 = 1 := by kernel_rfl
  have c2 : Try.prog.cellsOf 9 = 1 := by kernel_rfl
  have c3 : Try.prog.cellsOf 40 = 2 := by kernel_rfl
  have c4 : Try.prog.cellsOf 42 = 5 := by kernel_rfl
  have hs : DataW.trod enc Try.prog w base spare held 2 9 [.string s] = some (.lit (.string s.data.toList), []) := by simp [DataW.trod, Try.underlying9, w2]
  have hp := trod_struct2_mk (enc := enc) (P := Try.prog) (w := w) (base := base) (spare := spare) (held := held) (n := 1) (cs := [.int .i64 x, .int .i64 y]) (y0 := (.lit (.int .i64 x), [])) (y1 := (.lit (.int .i64 y), []))
    Try.underlying40 (by simp [c3]) (by simp only [c1]; exact trod_int_mk 0 Try.underlying3 w3) (by simp only [c1]; exact trod_int_mk 0 Try.underlying3 w4)
  have ht := Joins.trod_struct4_mk (enc := enc) (P := Try.prog) (w := w) (base := base) (spare := spare) (held := held) (n := 2) (cs := [.int .i64 k, .int .i64 n, .string s, .int .i64 x, .int .i64 y])
    (y0 := (.lit (.int .i64 k), [])) (y1 := (.lit (.int .i64 n), [])) (y2 := (.lit (.string s.data.toList), [])) (y3 := (.agg [.lit (.int .i64 x), .lit (.int .i64 y)], []))
    Try.underlying42 (by simp [c4]) (by simp only [c1]; exact trod_int_mk 1 Try.underlying3 w0) (by simp only [c1]; exact trod_int_mk 1 Try.underlying3 w1) (by simp only [c2]; exact hs)
    (by simp only [c3]; simpa using hp)
  simpa [vdt] using ht
set_option maxRecDepth 100000 in
theorem pair_cells {fuel : Nat} {cs : List Value} {z : DataW H × List MemPlace} (h : DataW.trod enc Try.prog w base spare held fuel 44 cs = some z) :
    ∃ (u : ByteArray) (k n : Int) (s : ByteArray) (x y : Int), cs = [.string u, .int .i64 k, .int .i64 n, .string s, .int .i64 x, .int .i64 y] ∧ z = (.agg [.lit (.string u.data.toList), vdt k n s x y], []) ∧
      u.size ≤ maxLen ∧ (Lit.int .i64 k).wf = true ∧ (Lit.int .i64 n).wf = true ∧ s.size ≤ maxLen ∧ (Lit.int .i64 x).wf = true ∧ (Lit.int .i64 y).wf = true := by
  have c2 : Try.prog.cellsOf 9 = 1 := by kernel_rfl
  have c4 : Try.prog.cellsOf 42 = 5 := by kernel_rfl
  have c5 : Try.prog.cellsOf 44 = 6 := by kernel_rfl
  obtain ⟨y0, y1, m, hx, hl, g0, g1⟩ := trod_struct2 Try.underlying44 h
  rw [c5] at hl
  match cs, hl with
  | [a0, a1, a2, a3, a4, a5], _ =>
    simp only [c2, c4] at g0 g1
    obtain ⟨u, e0, rfl, w0⟩ := DataW.trod_string Try.underlying9 g0
    have e1 : [a0] = [Value.string u] := e0
    obtain rfl : a0 = .string u := by simpa using e1
    change DataW.trod enc Try.prog w base spare held m 42 [a1, a2, a3, a4, a5] = _ at g1
    obtain ⟨k, n, s, x, y, e2, rfl, q⟩ := val_cells g1
    simp only [List.cons.injEq, and_true] at e2
    obtain ⟨rfl, rfl, rfl, rfl, rfl⟩ := e2
    exact ⟨u, k, n, s, x, y, rfl, hx, w0, q⟩
set_option maxRecDepth 100000 in
/-- A pair among the arguments, opened. -/
theorem pair_of {r : Reach} {b0 : Nat} {v : Value} {d : DataW H} {p : List MemPlace} (hv : Value.okWide Try.prog w r b0 44 v) (h : DataW.Trod enc Try.prog w base spare held 44 v d p) :
    ∃ (u : ByteArray) (k n : Int) (s : ByteArray) (x y : Int), v = .agg #[.string u, .int .i64 k, .int .i64 n, .string s, .int .i64 x, .int .i64 y] ∧ d = .agg [.lit (.string u.data.toList), vdt k n s x y] ∧ p = [] ∧
      u.size ≤ maxLen ∧ (Lit.int .i64 k).wf = true ∧ (Lit.int .i64 n).wf = true ∧ s.size ≤ maxLen ∧ (Lit.int .i64 x).wf = true ∧ (Lit.int .i64 y).wf = true := by
  obtain ⟨cs, rfl, hsz⟩ := okWide_struct Try.underlying44 hv
  obtain ⟨l⟩ := cs
  obtain ⟨fuel, hf⟩ := h
  obtain ⟨u, k, n, s, x, y, e, hz, q⟩ := pair_cells hf
  obtain rfl : l = [.string u, .int .i64 k, .int .i64 n, .string s, .int .i64 x, .int .i64 y] := by simpa [Value.cells] using e
  simp only [Prod.mk.injEq] at hz
  exact ⟨u, k, n, s, x, y, rfl, hz.1, hz.2, q⟩
set_option maxRecDepth 100000 in
/-- And shut. -/
theorem shut_pair {u s : ByteArray} {k n x y : Int} (wu : u.size ≤ maxLen) (w0 : (Lit.int .i64 k).wf = true) (w1 : (Lit.int .i64 n).wf = true) (w2 : s.size ≤ maxLen) (w3 : (Lit.int .i64 x).wf = true) (w4 : (Lit.int .i64 y).wf = true) :
    DataW.Trod enc Try.prog w base spare held 44 (.agg #[.string u, .int .i64 k, .int .i64 n, .string s, .int .i64 x, .int .i64 y]) (.agg [.lit (.string u.data.toList), vdt k n s x y]) [] := by
  have c2 : Try.prog.cellsOf 9 = 1 := by kernel_rfl
  have c4 : Try.prog.cellsOf 42 = 5 := by kernel_rfl
  have c5 : Try.prog.cellsOf 44 = 6 := by kernel_rfl
  have hs : DataW.trod enc Try.prog w base spare held 3 9 [.string u] = some (.lit (.string u.data.toList), []) := by simp [DataW.trod, Try.underlying9, wu]
  have ht := trod_struct2_mk (enc := enc) (P := Try.prog) (w := w) (base := base) (spare := spare) (held := held) (n := 3) (cs := [.string u, .int .i64 k, .int .i64 n, .string s, .int .i64 x, .int .i64 y])
    (y0 := (.lit (.string u.data.toList), [])) (y1 := (vdt k n s x y, [])) Try.underlying44 (by simp [c5]) (by simp only [c2]; exact hs) (by simp only [c4]; exact val_mk w0 w1 w2 w3 w4)
  exact ⟨_, by simpa [Value.cells] using ht⟩
end
theorem pcl_lt {p : Pr} {j : Nat} {v : Value} (h : (pcl p)[j]? = some v) : j < 6 := (List.getElem?_eq_some_iff.1 h).1
theorem plain_addr {w : World} {a : Addr} {v : Value} (h : w.cell? a = some v) : a = ⟨a.block, a.off, none⟩ := by
  obtain ⟨b, off, spot⟩ := a
  have hspot : spot = none := World.cell?_spot h
  subst hspot; rfl
/-- What a walk is told of such an argument. -/
def PrIn (w : World) (p : Option Addr) (n c : Nat) (l : List Pr) : Prop := l.length = n ∧ PIn w (p, c, l) ∧ n ≤ maxLen
set_option maxRecDepth 100000 in
theorem pairs_of {H : Type} {enc : TypeId × Value → H} {W : World} {p : Option Addr} {n c : Nat} {d : DataW H} {ps : List MemPlace} (h : DataW.Trod enc Try.prog W 0 (fun _ => true) true 22 (.slice p n c) d ps) : ∃ l : List Pr, PrIn W p n c l := by
  have c5 : Try.prog.cellsOf 44 = 6 := by kernel_rfl
  obtain ⟨fuel, hf⟩ := h
  rcases Go.Deep.open_slice Try.underlying22 hf with ⟨hcs, _⟩ | ⟨a, len, cap, m, f, D, Pl, hcs, _, hlc, hcm, hm, _, hall⟩
  · simp [Value.cells] at hcs
    obtain ⟨rfl, rfl, rfl⟩ := hcs
    exact ⟨[], rfl, ⟨Prs.nil _ _, fun _ => ⟨rfl, rfl⟩⟩, Nat.zero_le _⟩
  · simp [Value.cells] at hcs
    obtain ⟨rfl, rfl, rfl⟩ := hcs
    simp at hm
    subst hm
    have hz : ∀ i, i < m → ∃ q : Pr, ∀ j v, (pcl q)[j]? = some v → W.cell? ((a.add (i * 6)).add j) = some v := fun i hi => by
      obtain ⟨cs', hc, ht⟩ := hall i hi
      rw [c5] at hc
      obtain ⟨u, k, n', s, x, y, e, _⟩ := pair_cells ht
      have e' : cs' = pcl (u.data.toList, ⟨k, n', s.data.toList, x, y⟩) := by rw [e]; unfold pcl; dsimp only; rw [tx_of, tx_of]
      rw [e'] at hc
      obtain ⟨_, _, hat⟩ := World.cells?_some hc
      exact ⟨_, fun j v hv => by rw [hat j (pcl_lt hv)]; exact hv⟩
    obtain ⟨q, hq⟩ := Go.Deep.choose_lt hz
    have hget : ∀ i, i < n → pd ((List.range n).map q) i = q i := fun i hi => by unfold pd; simp [hi]
    refine ⟨(List.range n).map q, by simp, ⟨fun hn => ?_, fun h => nomatch h⟩, Nat.le_trans hlc hcm⟩
    have hn' : 0 < n := by simpa using hn
    have h0 := hq 0 (by omega) 0 _ rfl
    have ha := plain_addr (show W.cell? a = _ by simpa [Addr.add] using h0)
    refine ⟨a.block, a.off, congrArg some ha, fun i j v hi hv => ?_⟩
    have hi' : i < n := by simpa using hi
    rw [hget i hi'] at hv
    have := hq i (by omega) j v hv
    rw [ha, Go.WideShapes.add_plain, Go.WideShapes.add_plain] at this
    exact this
end Go.Proofs.Ytgakcpcpfkoaiaa.Pr

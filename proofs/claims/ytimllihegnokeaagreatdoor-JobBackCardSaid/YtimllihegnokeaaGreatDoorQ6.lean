/-
  Small texts of this claim, together: ExMem, ExArg, ExEnd, ExNames, EvMem, EvDo, EvParts, EvPre, EvKit, EvDeed1, EvDeed2, EvDeed3, EvAlike, EvReckon, EvDeed4, EvDeed5, EvStand, EvDeed7, EvDeed8, EvGrow, EvBeh, ExOf, ExEq.
-/
import Derived.Test.YtimllihegnokeaaGreatDoorQExPart
import Derived.Laws.OwnMore
import Derived.Deep.AppendLies
import Derived.Test.YtimllihegnokeaaGreatDoorQ2
import Derived.Deep.Slices
import Derived.DataReads
import Derived.ChangeKeysEq
import Derived.Test.YtimllihegnokeaaGreatDoorQ4
import Derived.Test.YtimllihegnokeaaGreatDoorQVaRight
import Derived.OneCell
import Derived.Deep.RegionWith
import Derived.Test.YtimllihegnokeaaGreatDoorQ5
import Derived.Deep.QuietTactic
import Derived.BigQuiet
import Derived.Defers
import Derived.Test.YtimllihegnokeaaGreatDoorQ1
import Derived.Deep.RegionLaw
import Derived.Deep.OwnRows
namespace Go.Proofs.YtimllihegnokeaaGreatDoor.Ov
open Go.ChangeShapes Go.WideShapes Go.ChangeAt Go.RowKit
section
variable {w w' : World} {base base' size size' n n' : Nat} {e e' : TypeId} {v v' : Value} {xs xs' : List Value}
theorem own_ne (h : w.ownsRow base e size v n xs) (h' : w.ownsRow base' e' size' v' n' xs') (hne : e ≠ e') : v.ownBlock = none ∨ v.ownBlock ≠ v'.ownBlock := by
 rcases h.2 with ⟨rfl, _⟩ | ⟨g, cap, cur, rfl, _, hg, _⟩
 · exact .inl rfl
 · refine .inr fun heq => ?_
   rcases h'.2 with ⟨rfl, _⟩ | ⟨g', cap', cur', rfl, _, hg', _⟩
   · cases heq
   · have e1 : g = g' := Option.some.inj heq
     subst e1
     rw [hg] at hg'
     injection hg' with hg'
     injection hg' with _ h3
     exact hne h3
theorem own_old (h : w.ownsRow base e size v n xs) (k : Below w.heap.size w w') : w'.ownsRow base e size v n xs :=
 h.kept (row := none) ⟨k.os, k.tape, k.output, k.size, fun i hi _ => k.block i hi⟩ (by cases v.ownBlock <;> simp)
theorem own_take {g cap k : Nat} (h : w.ownsRow base e 1 (.slice (some ⟨g, 0, none⟩) n cap) n xs) (hk : k ≤ n) : w.ownsRow base e 1 (.slice (some ⟨g, 0, none⟩) k cap) k (xs.take k) := by
 rcases h.2 with ⟨h', _⟩ | ⟨g', cap', cur, h', hb, hg, hnc, hcm, hcs, htake⟩
 · simp at h'
 · simp only [Value.slice.injEq, Option.some.injEq, Addr.mk.injEq, and_true, true_and] at h'
   obtain ⟨rfl, rfl⟩ := h'
   refine ⟨by rw [List.length_take, h.1]; omega, .inr ⟨g, cap, cur, rfl, hb, hg, by omega, hcm, hcs, ?_⟩⟩
   rw [← htake, List.take_take]
   congr 1; omega
theorem cell_grown {row : Option Nat} (hg : w.grownBy w' row) {p : Addr} {u : Value} (hc : w.cell? p = some u) (hne : some p.block ≠ row) : w'.cell? p = some u := by
 rw [World.cell?_of_block (hg.block p.block (block_lt_of_cell hc) hne)]; exact hc
end
end Go.Proofs.YtimllihegnokeaaGreatDoor.Ov
namespace Go.Proofs.YtimllihegnokeaaGreatDoor.Ex
open Go.ChangeShapes Go.WideShapes Go.ChangeAt Go.RowKit Ov Va
def cells (l : List No) : List Value := l.flatMap ncl
def nd (l : List No) (i : Nat) : No := (l[i]?).getD nz
theorem cells_snoc (l : List No) (n : No) : cells (l ++ [n]) = cells l ++ ncl n := by
 unfold cells
 rw [List.flatMap_append]; simp
theorem nd_cons (n : No) (t : List No) (i : Nat) : nd (n :: t) (i + 1) = nd t i := rfl
theorem nd_drop (l : List No) (k i : Nat) : nd (l.drop k) i = nd l (k + i) := by unfold nd; rw [List.getElem?_drop]
theorem nd_at {l : List No} {i : Nat} (h : i < l.length) : nd l i = l[i] := by unfold nd; rw [List.getElem?_eq_getElem h]; rfl
theorem cells_at (l : List No) (i j : Nat) (hi : i < l.length) (hj : j < 6) : (cells l)[i * 6 + j]? = (ncl (nd l i))[j]? := by
 induction l generalizing i with
 | nil => simp at hi
 | cons n t ih =>
   show (ncl n ++ cells t)[i * 6 + j]? = _
   cases i with
   | zero =>
     rw [Nat.zero_mul, Nat.zero_add, List.getElem?_append_left (by show j < 6; exact hj)]; rfl
   | succ i =>
     rw [List.getElem?_append_right (by show 6 ≤ _; omega), nd_cons]
     show (cells t)[(i + 1) * 6 + j - 6]? = _
     rw [show (i + 1) * 6 + j - 6 = i * 6 + j by omega]
     exact ih i (by simpa using hi)
theorem drop_nd {l : List No} {k : Nat} (h : k < l.length) : l.drop k = nd l k :: l.drop (k + 1) := by rw [nd_at h]; exact List.drop_eq_getElem_cons h
def Nds (w : World) (p : Option Addr) (l : List No) : Prop :=
 0 < l.length → ∃ B O, p = some ⟨B, O, none⟩ ∧ ∀ i j v, i < l.length → (ncl (nd l i))[j]? = some v → w.cell? ⟨B, O + i * 6 + j, none⟩ = some v
section
variable {w w' : World} {p : Option Addr} {l : List No}
theorem Nds.next (h : Nds w p l) (k : Below w.heap.size w w') : Nds w' p l := fun hn => by
 obtain ⟨B, O, e, hc⟩ := h hn
 exact ⟨B, O, e, fun i j v hi hv => (k.cell (p := ⟨B, O + i * 6 + j, none⟩) (block_lt_of_cell (hc i j v hi hv))).trans (hc i j v hi hv)⟩
theorem Nds.below {lo : Nat} (h : Nds w p l) (hlo : ∀ a, p = some a → a.block < lo) (k : Below lo w w') : Nds w' p l := fun hn => by
 obtain ⟨B, O, e, hc⟩ := h hn
 exact ⟨B, O, e, fun i j v hi hv => (k.cell (p := ⟨B, O + i * 6 + j, none⟩) (show B < lo from hlo _ e)).trans (hc i j v hi hv)⟩
theorem Nds.drewN (h : Nds w p l) (m : Nat) : Nds (w.drewN m) p l := h
theorem Nds.cell {B O : Nat} (h : Nds w (some ⟨B, O, none⟩) l) {i : Nat} (hi : i < l.length) (j : Nat) (v : Value) (hv : (ncl (nd l i))[j]? = some v) : w.cell? ⟨B, O + i * 6 + j, none⟩ = some v := by
 obtain ⟨B', O', e, hc⟩ := h (by omega)
 simp only [Option.some.injEq, Addr.mk.injEq, and_true] at e
 obtain ⟨rfl, rfl⟩ := e
 exact hc i j v hi hv
theorem Nds.lt {B O : Nat} (h : Nds w (some ⟨B, O, none⟩) l) (hl : 0 < l.length) : B < w.heap.size := block_lt_of_cell (h.cell hl 0 _ rfl)
theorem Nds.shape (h : Nds w p l) (hl : 0 < l.length) : ∃ B O, p = some ⟨B, O, none⟩ := by
 obtain ⟨B, O, e, _⟩ := h hl
 exact ⟨B, O, e⟩
theorem Nds.drop {B O : Nat} (h : Nds w (some ⟨B, O, none⟩) l) (k : Nat) : Nds w (some ⟨B, O + k * 6, none⟩) (l.drop k) := fun hn => by
 rw [List.length_drop] at hn
 refine ⟨B, O + k * 6, rfl, fun i j v hi hv => ?_⟩
 rw [List.length_drop] at hi
 rw [nd_drop] at hv
 have := h.cell (i := k + i) (by omega) j v hv
 rw [show O + k * 6 + i * 6 + j = O + (k + i) * 6 + j by omega]; exact this
theorem Nds.nil (w : World) (p : Option Addr) : Nds w p [] := fun h => absurd h (Nat.lt_irrefl 0)
theorem Nds.of_own {base : Nat} {e : TypeId} {A : Option Addr} {c : Nat} (h : w.ownsRow base e 6 (.slice A l.length c) l.length (cells l)) : Nds w A l := fun hn => by
 obtain ⟨g, cap, hv, _⟩ := h.form hn
 injection hv with h1 h2 h3
 subst h1
 refine ⟨g, 0, rfl, fun i j v hi hv => ?_⟩
 have hj : j < 6 := by
  rcases Nat.lt_or_ge j 6 with h | h
  · exact h
  · rw [List.getElem?_eq_none (by show 6 ≤ j; exact h)] at hv; cases hv
 rw [Nat.zero_add, h.cellAt _ (by omega), cells_at l i j hi hj]; exact hv
end
theorem own_slice {w : World} {base size n : Nat} {e : TypeId} {v : Value} {xs : List Value} (h : w.ownsRow base e size v n xs) : ∃ A c, v = .slice A n c := by
 rcases h.2 with ⟨rfl, rfl⟩ | ⟨g, cap, cur, rfl, _⟩
 · exact ⟨none, 0, rfl⟩
 · exact ⟨_, _, rfl⟩
theorem own_cap {w : World} {base size n c : Nat} {e : TypeId} {A : Option Addr} {xs : List Value} (h : w.ownsRow base e size (.slice A n c) n xs) : n ≤ c ∧ c ≤ maxLen := by
 rcases h.2 with ⟨h1, rfl⟩ | ⟨g, cap, cur, h1, _, _, hn, hc, _⟩
 · injection h1 with _ _ h3; subst h3; exact ⟨Nat.le_refl _, Nat.zero_le _⟩
 · injection h1 with _ _ h3; subst h3; exact ⟨hn, hc⟩
def ints (l : List Nat) : List Value := l.map fun n : Nat => .int .i64 (n : Int)
theorem ints_top (m : Nat) (more : List Nat) : (ints (m :: more).reverse)[more.length]? = some (.int .i64 (m : Int)) := by
 unfold ints
 rw [List.reverse_cons, List.map_append, List.getElem?_append_right (by simp)]; simp
theorem ints_set (m k : Nat) (more : List Nat) : (ints (m :: more).reverse).set more.length (.int .i64 (k : Int)) = ints (k :: more).reverse := by
 unfold ints
 rw [List.reverse_cons, List.map_append, List.set_append_right _ _ (by simp), List.reverse_cons, List.map_append]; simp
theorem ints_take (m : Nat) (more : List Nat) : (ints (m :: more).reverse).take more.length = ints more.reverse := by
 unfold ints
 rw [List.reverse_cons, List.map_append, List.take_append_of_le_length (by simp), List.take_of_length_le (by simp)]
theorem ints_push (p : Nat) (st : List Nat) : ints st.reverse ++ [.int .i64 (p : Int)] = ints (p :: st).reverse := by
 unfold ints
 rw [List.reverse_cons, List.map_append]; simp
theorem ncl_one (n : No) : ∀ u ∈ ncl n, u.oneCell' = true := by
 intro u hu
 unfold ncl at hu
 simp only [List.mem_cons, List.not_mem_nil, or_false] at hu
 rcases hu with rfl | rfl | rfl | rfl | rfl | rfl <;> rfl
theorem infoN : (Tryz.prog.info? 118).map (fun i => (i.zero, i.size, i.bytes)) = some (some (nov nz), 6, 56) := by kernel_rfl
theorem infoI : (Tryz.prog.info? 3).map (fun i => (i.zero, i.size, i.bytes)) = some (some (.int .i64 0), 1, 8) := by kernel_rfl
end Go.Proofs.YtimllihegnokeaaGreatDoor.Ex
namespace Go.Proofs.YtimllihegnokeaaGreatDoor.Ex
open Go.ChangeShapes Go.WideShapes Go.ChangeAt Go.RowKit Ov Va
instance : Inhabited No := ⟨nz⟩
section
variable {H : Type} {enc : TypeId × Value → H} {w : World} {base : Nat} {spare : Nat → Bool} {held : Bool}
set_option maxRecDepth 100000 in
theorem node_cells {fuel : Nat} {cs : List Value} {x : DataW H × List MemPlace} (h : DataW.trod enc Tryz.prog w base spare held fuel 57 cs = some x) : ∃ n : No, cs = ncl n := by
 have c1 : Tryz.prog.cellsOf 3 = 1 := by kernel_rfl
 have c2 : Tryz.prog.cellsOf 9 = 1 := by kernel_rfl
 have c3 : Tryz.prog.cellsOf 43 = 2 := by kernel_rfl
 have c4 : Tryz.prog.cellsOf 45 = 5 := by kernel_rfl
 have c5 : Tryz.prog.cellsOf 57 = 6 := by kernel_rfl
 obtain ⟨y0, y1, m, _, hl, g0, g1⟩ := trod_struct2 Tryz.underlying57 h
 rw [c5] at hl
 match cs, hl with
 | [a0, a1, a2, a3, a4, a5], _ =>
   simp only [c1, c4] at g0 g1
   obtain ⟨o, e0, _, _⟩ := DataW.trod_int Tryz.underlying3 g0
   obtain ⟨z0, z1, z2, z3, m', _, _, h0, h1, h2, h3⟩ := Joins.trod_struct4 Tryz.underlying45 g1
   simp only [c1, c2, c3] at h0 h1 h2 h3
   obtain ⟨k, e1, _, _⟩ := DataW.trod_int Tryz.underlying3 h0
   obtain ⟨n, e2, _, _⟩ := DataW.trod_int Tryz.underlying3 h1
   obtain ⟨s, e3, _, _⟩ := DataW.trod_string Tryz.underlying9 h2
   obtain ⟨x0, x1, m'', _, _, f0, f1⟩ := trod_struct2 Tryz.underlying43 h3
   simp only [c1] at f0 f1
   obtain ⟨x, e4, _, _⟩ := DataW.trod_int Tryz.underlying3 f0
   obtain ⟨y, e5, _, _⟩ := DataW.trod_int Tryz.underlying3 f1
   have q0 : [a0] = [Value.int .i64 o] := e0
   have q1 : [a1] = [Value.int .i64 k] := e1
   have q2 : [a2] = [Value.int .i64 n] := e2
   have q3 : [a3] = [Value.string s] := e3
   have q4 : [a4] = [Value.int .i64 x] := e4
   have q5 : [a5] = [Value.int .i64 y] := e5
   obtain rfl : a0 = .int .i64 o := by simpa using q0
   obtain rfl : a1 = .int .i64 k := by simpa using q1
   obtain rfl : a2 = .int .i64 n := by simpa using q2
   obtain rfl : a3 = .string s := by simpa using q3
   obtain rfl : a4 = .int .i64 x := by simpa using q4
   obtain rfl : a5 = .int .i64 y := by simpa using q5
   exact ⟨⟨o, ⟨k, n, s.data.toList, x, y⟩⟩, by unfold ncl; dsimp only; rw [tx_of]⟩
end
theorem ncl_lt {n : No} {j : Nat} {v : Value} (h : (ncl n)[j]? = some v) : j < 6 := by
 rcases Nat.lt_or_ge j 6 with h1 | h1
 · exact h1
 · rw [List.getElem?_eq_none (by show 6 ≤ j; exact h1)] at h; cases h
theorem plain_addr {w : World} {a : Addr} {v : Value} (h : w.cell? a = some v) : a = ⟨a.block, a.off, none⟩ := by
 obtain ⟨b, off, spot⟩ := a
 have hspot : spot = none := World.cell?_spot h
 subst hspot; rfl
def NdIn (w : World) (p : Option Addr) (n : Nat) (l : List No) : Prop := l.length = n ∧ Nds w p l ∧ n ≤ maxLen
set_option maxRecDepth 100000 in
theorem nodes_of {H : Type} {enc : TypeId × Value → H} {W : World} {p : Option Addr} {n c : Nat} {d : DataW H} {ps : List MemPlace} (h : DataW.Trod enc Tryz.prog W 0 (fun _ => true) true 22 (.slice p n c) d ps) : ∃ l : List No, NdIn W p n l := by
 have c5 : Tryz.prog.cellsOf 57 = 6 := by kernel_rfl
 obtain ⟨fuel, hf⟩ := h
 rcases Go.Deep.open_slice Tryz.underlying22 hf with ⟨hcs, _⟩ | ⟨a, len, cap, m, f, D, Pl, hcs, _, hlc, hcm, hm, _, hall⟩
 · simp [Value.cells] at hcs
   obtain ⟨rfl, rfl, rfl⟩ := hcs
   exact ⟨[], rfl, Nds.nil _ _, Nat.zero_le _⟩
 · simp [Value.cells] at hcs
   obtain ⟨rfl, rfl, rfl⟩ := hcs
   simp at hm
   subst hm
   have hz : ∀ i, i < m → ∃ q : No, ∀ j v, (ncl q)[j]? = some v → W.cell? ((a.add (i * 6)).add j) = some v := fun i hi => by
    obtain ⟨cs', hc, ht⟩ := hall i hi
    rw [c5] at hc
    obtain ⟨q, rfl⟩ := node_cells ht
    obtain ⟨_, _, hat⟩ := World.cells?_some hc
    exact ⟨q, fun j v hv => by rw [hat j (ncl_lt hv)]; exact hv⟩
   obtain ⟨q, hq⟩ := Go.Deep.choose_lt hz
   have hget : ∀ i, i < n → nd ((List.range n).map q) i = q i := fun i hi => by unfold nd; simp [hi]
   refine ⟨(List.range n).map q, by simp, fun hn => ?_, Nat.le_trans hlc hcm⟩
   have hn' : 0 < n := by simpa using hn
   have h0 := hq 0 (by omega) 0 _ rfl
   have ha := plain_addr (show W.cell? a = _ by simpa [Addr.add] using h0)
   refine ⟨a.block, a.off, congrArg some ha, fun i j v hi hv => ?_⟩
   have hi' : i < n := by simpa using hi
   rw [hget i hi'] at hv
   have := hq i (by omega) j v hv
   rw [ha, Go.WideShapes.add_plain, Go.WideShapes.add_plain] at this
   exact this
def enx (n : Nat) : Option (List No) → Value
 | some r => .tuple #[.int .i64 ((n - r.length : Nat) : Int), .bool true]
 | none => .tuple #[.int .i64 0, .bool false]
theorem rnv_nd (n : No) : rnv n.o n.v.k n.v.n (tx n.v.s) n.v.x n.v.y = rn n := by unfold rnv; rw [tx_list]
theorem rn_range {n : No} (h : rn n = true) : 0 ≤ n.o ∧ n.o ≤ 29 := by
 rcases rn_cases h with ⟨h, _⟩ | ⟨h, _⟩ | ⟨h, _⟩ <;> omega
theorem ex_drop_len {d k : Nat} {l r : List No} (h : ex d (l.drop k) = some r) (hk : k ≤ l.length) : r = l.drop (l.length - r.length) ∧ k < l.length - r.length ∧ r.length ≤ l.length := by
 obtain ⟨h1, h2⟩ := ex_len h
 rw [List.length_drop] at h1 h2
 rw [List.drop_drop] at h2
 refine ⟨?_, by omega, by omega⟩
 rw [show k + (l.length - k - r.length) = l.length - r.length by omega] at h2
 exact h2
theorem end_out {l : List No} {A : Option Addr} {c k wi : Nat} {w : World} (d : Nat) (hk : ¬ k < l.length) : Calls Tryz.prog 107 #[.slice A l.length c, .int .i64 (k : Int), .int .i64 (wi : Int)] w (Gives (enx l.length (ex d (l.drop k))) w) := by
 have HE : Hid (enx l.length (ex d (l.drop k)) = .tuple #[.int .i64 0, .bool false]) := by
  show _ = _
  rw [List.drop_of_length_le (by omega), ex_nil]; rfl
 go_enter Tryz.func107, Tryz.ntmps107
 go_wp2_with (fail)
 go_ret2
 exact ⟨by rw [HE.out]; rfl, Below.refl _ _⟩
theorem end_deep {l : List No} {A : Option Addr} {c k : Nat} {w : World} (hk : k < l.length) : Calls Tryz.prog 107 #[.slice A l.length c, .int .i64 (k : Int), .int .i64 25] w (Gives (enx l.length (ex 0 (l.drop k))) w) := by
 have HE : Hid (enx l.length (ex 0 (l.drop k)) = .tuple #[.int .i64 0, .bool false]) := rfl
 go_enter Tryz.func107, Tryz.ntmps107
 go_wp2_with (fail)
 go_ret2
 exact ⟨by rw [HE.out]; rfl, Below.refl _ _⟩
set_option maxRecDepth 100000 in
set_option maxHeartbeats 4000000 in
theorem end_any : ∀ (d : Nat) (l : List No) (A : Option Addr) (c k wi : Nat) (w : World), Nds w A l → KN w → wi + d = 25 → l.length ≤ 4294967296 → Calls Tryz.prog 107 #[.slice A l.length c, .int .i64 (k : Int), .int .i64 (wi : Int)] w (Gives (enx l.length (ex d (l.drop k))) w)
 | d, l, A, c, k, wi, w, hn, hkn, hwi, hl => by
   by_cases hk : k < l.length
   · cases d with
     | zero =>
       obtain rfl : wi = 25 := by omega
       exact end_deep hk
     | succ d =>
       have ih := end_any d
       obtain ⟨B, O, rfl⟩ := hn.shape (by omega)
       have HI : Hid (∀ (k wi : Nat) (w : World), Nds w (some ⟨B, O, none⟩) l → KN w → wi + d = 25 → Calls Tryz.prog 107 #[.slice (some ⟨B, O, none⟩) l.length c, .int .i64 (k : Int), .int .i64 (wi : Int)] w (Gives (enx l.length (ex d (l.drop k))) w)) :=
        fun k wi w h1 h2 h3 => ih l (some ⟨B, O, none⟩) c k wi w h1 h2 h3 hl
       clear ih
       have hw : wi ≤ 24 := by omega
       have HE1 : Hid (ex (d + 1) (l.drop k) = if rn (nd l k) = true then it (ex d) (pa (nd l k).o) (l.drop (k + 1)) else none) := by
        show _ = _
        rw [drop_nd hk, ex_cons]
       have HW : Hid (wi + 1 + d = 25) := by show _ = _; omega
       have HN := Lib.hid hn
       have HK := Lib.hid hkn
       clear hn hkn hwi
       have e0 := HN.out.cell hk 0 _ rfl
       have e1 := HN.out.cell hk 1 _ rfl
       have e2 := HN.out.cell hk 2 _ rfl
       have e3 := HN.out.cell hk 3 _ rfl
       have e4 := HN.out.cell hk 4 _ rfl
       have e5 := HN.out.cell hk 5 _ rfl
       rw [Nat.add_zero] at e0
       have HR : Hid (∀ w, KN w → Calls Tryz.prog 172 #[.agg #[.int .i64 (nd l k).o, .int .i64 (nd l k).v.k, .int .i64 (nd l k).v.n, .string (tx (nd l k).v.s), .int .i64 (nd l k).v.x, .int .i64 (nd l k).v.y]] w (Gives (.bool (rn (nd l k))) w)) := fun w h => by
        rw [← rnv_nd]; exact rightNode_any _ _ _ _ _ _ w h
       rcases Bool.eq_false_or_eq_true (rn (nd l k)) with hr | hr
       · obtain ⟨i, hi⟩ : ∃ i : Nat, (nd l k).o = (i : Int) := ⟨(nd l k).o.toNat, by have := rn_range hr; omega⟩
         have hi30 : i < 30 := by have := rn_range hr; omega
         have HE : Hid (ex (d + 1) (l.drop k) = it (ex d) ptl[i]! (l.drop (k + 1))) := by
          show _ = _
          rw [HE1.out, if_pos hr, hi, pa_at hi30]
         have hp3 : ptl[i]! ≤ 3 := by rw [← pa_at hi30]; exact pa_le _
         rw [hr, hi] at HR
         rw [hi] at e0
         clear HE1 hr hi
         generalize ex (d + 1) (l.drop k) = Z at *
         generalize hpp : ptl[i]! = p at *
         have HPP := Lib.hid hpp
         clear hpp
         have HW0 : Hid (B < w.heap.size) := HN.out.lt (by omega)
         have hd1 : decide (l.length ≤ k) = false := decide_eq_false (by omega)
         have hd2 : decide ((24 : Int) < (wi : Int)) = false := decide_eq_false (by omega)
         go_enter Tryz.func107, Tryz.ntmps107
         go_wp2_with (fail)
         refine (HR.out _ HK.out).mono ?_
         rintro e w1 ⟨rfl, hb⟩
         have HN1 := Lib.hid (HN.out.next hb)
         have HK1 := Lib.hid (HK.out.next hb)
         have HB := Lib.hid hb
         have f0 : w1.cell? ⟨B, O + k * 6, none⟩ = some (.int .i64 (i : Int)) := (hb.cell (p := ⟨B, O + k * 6, none⟩) HW0.out).trans e0
         clear hb e0 e1 e2 e3 e4 e5 HR HN HK HW0
         have cK := HK1.out.parts i hi30
         rw [HPP.out, Nat.mul_comm] at cK
         go_wp2_with (fail)
         clear f0 cK
         go_loopw [8, 37] (fun bh j wr => ∃ y q : Nat, q ≤ p ∧ y ≤ l.length ∧ j = .int .i64 (q : Int) ∧ bh = .int .i64 (y : Int) ∧ Z = it (ex d) (p - q) (l.drop y) ∧ Below w1.heap.size w1 wr) (fun _ j _ => p - (intOf j).toNat)
         case atStart => exact ⟨k + 1, 0, Nat.zero_le _, by omega, rfl, rfl, HE.out, Below.refl _ _⟩
         case round =>
          obtain ⟨y, q, hq, hy, rfl, rfl, hz, hb⟩ := hrel
          have HB1 := Lib.hid hb
          have HZ := Lib.hid hz
          clear hb hz
          by_cases hlt : q < p
          · have HC := Lib.hid (HI.out y (wi + 1) wr (HN1.out.next HB1.out) (HK1.out.next HB1.out) HW.out)
            have HZ1 : Hid (Z = (ex d (l.drop y)).bind (it (ex d) (p - (q + 1)))) := by
             show _ = _
             rw [HZ.out, show p - q = (p - (q + 1)) + 1 by omega, it_succ]
            clear HZ
            obtain ⟨x, hx⟩ : ∃ x, ex d (l.drop y) = x := ⟨_, rfl⟩
            rw [hx] at HC HZ1
            have HX := Lib.hid hx
            clear hx
            cases x with
            | none =>
              have HEE : Hid (enx l.length Z = .tuple #[.int .i64 0, .bool false]) := by show _ = _; rw [HZ1.out]; rfl
              clear HZ1
              unfold enx at HC
              go_wp2_with (fail)
              refine HC.out.mono ?_
              rintro e w2 ⟨rfl, hb⟩
              have HB2 := Lib.hid (Below.next HB.out (Below.next HB1.out hb))
              clear hb
              go_wp2_with (fail)
              go_ret2
              exact ⟨by rw [HEE.out]; rfl, HB2.out⟩
            | some r =>
              obtain ⟨g1, g2, g3⟩ := ex_drop_len HX.out hy
              obtain ⟨v, hv⟩ : ∃ v, l.length - r.length = v := ⟨_, rfl⟩
              rw [hv] at g1 g2
              have HZ2 : Hid (Z = it (ex d) (p - (q + 1)) (l.drop v)) := by show _ = _; rw [HZ1.out, ← g1]; rfl
              unfold enx at HC
              dsimp only at HC
              rw [hv] at HC
              have hv2 : v ≤ l.length := by omega
              clear HZ1 g1 hv HX
              go_wp2_with (fail)
              refine HC.out.mono ?_
              rintro e w2 ⟨rfl, hb⟩
              have HB2 := Lib.hid (Below.next HB1.out hb)
              clear hb
              go_wp2_with (fail)
              go_roundw
              case rel => exact ⟨v, q + 1, by omega, hv2, by go_num, rfl, HZ2.out, HB2.out⟩
              case measure => simp [intOf]; omega
          · have HEE : Hid (enx l.length Z = .tuple #[.int .i64 (y : Int), .bool true]) := by
             show _ = _
             rw [HZ.out, show p - q = 0 by omega, it_zero]
             show Value.tuple #[.int .i64 ((l.length - (l.drop y).length : Nat) : Int), .bool true] = _
             rw [List.length_drop, show l.length - (l.length - y) = y by omega]
            have HB2 := Lib.hid (Below.next HB.out HB1.out)
            clear HZ
            go_wp2_with (fail)
            go_ret2
            exact ⟨by rw [HEE.out]; rfl, HB2.out⟩
       · have HE : Hid (enx l.length (ex (d + 1) (l.drop k)) = .tuple #[.int .i64 0, .bool false]) := by
          show _ = _
          rw [HE1.out, if_neg (by rw [hr]; decide)]; rfl
         rw [hr] at HR
         clear HE1 hr
         go_enter Tryz.func107, Tryz.ntmps107
         go_wp2_with (fail)
         refine (HR.out _ HK.out).mono ?_
         rintro e w1 ⟨rfl, hb⟩
         have HB := Lib.hid hb
         clear hb
         go_wp2_with (fail)
         go_ret2
         exact ⟨by rw [HE.out]; rfl, HB.out⟩
   · exact end_out d hk
theorem Rt_val (l : List No) : Rt l = (decide (l.length ≤ 400) && decide (ex 25 l = some [])) := by
 unfold Rt
 rw [Bool.eq_iff_iff]; simp
set_option maxRecDepth 100000 in
theorem eright_any (l : List No) (A : Option Addr) (c : Nat) (w : World) (hn : Nds w A l) (hk : KN w) (hl : l.length ≤ 4294967296) : Calls Tryz.prog 66 #[.slice A l.length c] w (Gives (.bool (Rt l)) w) := by
 rw [Rt_val]
 by_cases h4 : l.length ≤ 400
 · rw [decide_eq_true h4, Bool.true_and]
   have HC := Lib.hid (end_any 25 l A c 0 0 w hn hk rfl hl)
   rw [List.drop_zero] at HC
   clear hn hk
   obtain ⟨x, hx⟩ : ∃ x, ex 25 l = x := ⟨_, rfl⟩
   rw [hx] at HC ⊢
   have HX := Lib.hid hx; clear hx
   cases x with
   | none =>
     rw [decide_eq_false (show ¬ (none : Option (List No)) = some [] by simp)]
     unfold enx at HC
     go_enter Tryz.func66, Tryz.ntmps66
     go_wp2_with (fail)
     refine HC.out.mono ?_
     rintro e w1 ⟨rfl, hb⟩
     have HB := Lib.hid hb; clear hb
     go_wp2_with (fail)
     go_ret
     exact ⟨rfl, HB.out⟩
   | some r =>
     have hr := (ex_len HX.out).1
     unfold enx at HC
     dsimp only at HC
     obtain ⟨v, hv⟩ : ∃ v, l.length - r.length = v := ⟨_, rfl⟩
     rw [hv] at HC
     have HE : decide (some r = some ([] : List No)) = ((v : Int) == (l.length : Int)) := by
      rw [Bool.eq_iff_iff]
      simp only [decide_eq_true_eq, beq_iff_eq, Option.some.injEq]
      constructor
      · rintro rfl; rw [List.length_nil] at hv; omega
      · intro h; exact List.eq_nil_of_length_eq_zero (by omega)
     rw [HE]
     clear HE hv HX hr
     go_enter Tryz.func66, Tryz.ntmps66
     go_wp2_with (fail)
     refine HC.out.mono ?_
     rintro e w1 ⟨rfl, hb⟩
     have HB := Lib.hid hb; clear hb
     go_wp2_with (fail)
     go_ret
     exact ⟨rfl, HB.out⟩
 · rw [decide_eq_false h4, Bool.false_and]
   have h5 : 400 < l.length := by omega
   clear hn hk
   go_enter Tryz.func66, Tryz.ntmps66
   go_wp2_with (fail)
   go_ret
   exact ⟨rfl, Below.refl _ _⟩
def hasN (l : List No) (k i : Nat) : Bool := (l.take k).any fun n => n.o == 1 && n.v.n == (i : Int)
def hasL (l : List No) (k : Nat) : List Value := (List.range 5).map fun i => Value.bool (hasN l k i)
theorem hasN_succ {l : List No} {k : Nat} (h : k < l.length) (i : Nat) : hasN l (k + 1) i = (hasN l k i || ((nd l k).o == 1 && (nd l k).v.n == (i : Int))) := by
 unfold hasN
 rw [nd_at h, List.take_succ_eq_append_getElem h, List.any_append]; simp
theorem hasL_zero (l : List No) : hasL l 0 = [.bool false, .bool false, .bool false, .bool false, .bool false] := rfl
theorem hasL_other {l : List No} {k : Nat} (h : k < l.length) (ho : (nd l k).o ≠ 1) : hasL l (k + 1) = hasL l k := by
 unfold hasL
 apply List.map_congr_left
 intro i _
 rw [hasN_succ h, show ((nd l k).o == 1) = false from beq_eq_false_iff_ne.2 ho]; simp
theorem hasL_name {l : List No} {k j : Nat} (h : k < l.length) (ho : (nd l k).o = 1) (hj : (nd l k).v.n = (j : Int)) (hj5 : j < 5) : hasL l (k + 1) = (hasL l k).set j (.bool true) := by
 apply List.ext_getElem?
 intro i
 unfold hasL
 rw [List.getElem?_set]
 by_cases hi : i < 5
 · rw [List.getElem?_map, List.getElem?_range hi]
   simp only [Option.map_some]
   rw [hasN_succ h, ho, hj]
   by_cases e : j = i
   · subst e
     rw [if_pos rfl, if_pos (by simpa using hj5)]; simp
   · rw [if_neg e, List.getElem?_map, List.getElem?_range hi]
     have e2 : ((j : Int) == (i : Int)) = false := by rw [beq_eq_false_iff_ne]; omega
     rw [e2]; simp
 · rw [List.getElem?_eq_none (by simp; omega)]
   by_cases e : j = i
   · omega
   · rw [if_neg e, List.getElem?_eq_none (by simp; omega)]
theorem hasL_get (l : List No) (k : Nat) {i : Nat} (hi : i < 5) : (hasL l k)[i]? = some (.bool (hasN l k i)) := by
 unfold hasL
 rw [List.getElem?_map, List.getElem?_range hi]; rfl
def hnv (l : List No) (k : Nat) : Value := .agg #[.bool (hasN l k 0), .bool (hasN l k 1), .bool (hasN l k 2), .bool (hasN l k 3), .bool (hasN l k 4)]
def nmv (l : List No) : Value := if Rt l = true then hnv l l.length else .agg #[.bool false, .bool false, .bool false, .bool false, .bool false]
theorem Rt_names {l : List No} (h : Rt l = true) : ∀ k, k < l.length → rn (nd l k) = true := by
 intro k hk
 obtain ⟨_, hex⟩ := Rt_in h
 obtain ⟨r', h'⟩ := ex_each 25 l [] hex k (by simpa using hk)
 rw [drop_nd hk, ex_cons] at h'
 rcases Bool.eq_false_or_eq_true (rn (nd l k)) with hr | hr
 · exact hr
 · rw [hr] at h'; cases h'
theorem name_in {n : No} (h : rn n = true) (ho : n.o = 1) : ∃ j : Nat, n.v.n = (j : Int) ∧ j < 5 := by
 rcases rn_cases h with ⟨h1, _⟩ | ⟨_, _, h1⟩ | ⟨h1, _⟩
 · omega
 · exact ⟨n.v.n.toNat, by omega, by omega⟩
 · omega
set_option maxRecDepth 100000 in
set_option maxHeartbeats 4000000 in
theorem names_any (l : List No) (A : Option Addr) (c : Nat) (w : World) (hn : Nds w A l) (hk : KN w) (hl : l.length ≤ 4294967296) : Calls Tryz.prog 111 #[.slice A l.length c] w (Gives (nmv l) w) := by
 have HN := Lib.hid hn; have HK := Lib.hid hk
 clear hn hk
 obtain ⟨q, hq⟩ : ∃ q, Rt l = q := ⟨_, rfl⟩
 have HQ := Lib.hid hq
 go_enter Tryz.func111, Tryz.ntmps111
 go_wp2_with (fail)
 have hb2 := box2 w (.cells #[.bool false, .bool false, .bool false, .bool false, .bool false] 121) (.cells #[.bool false, .bool false, .bool false, .bool false, .bool false] 121)
 have D2 : Blk ((w.alloc (.cells #[.bool false, .bool false, .bool false, .bool false, .bool false] 121)).alloc (.cells #[.bool false, .bool false, .bool false, .bool false, .bool false] 121)) w.heap.size (hasL l 0) := (Blk.made w 121 (hasL l 0) rfl).old _
 have D3 : Blk ((w.alloc (.cells #[.bool false, .bool false, .bool false, .bool false, .bool false] 121)).alloc (.cells #[.bool false, .bool false, .bool false, .bool false, .bool false] 121)) (w.heap.size + 1) (hasL l 0) := Blk.made (w.alloc (.cells #[.bool false, .bool false, .bool false, .bool false, .bool false] 121)) 121 (hasL l 0) (World.size_alloc _ _)
 generalize (w.alloc (.cells #[.bool false, .bool false, .bool false, .bool false, .bool false] 121)).alloc (.cells #[.bool false, .bool false, .bool false, .bool false, .bool false] 121) = v at *
 have HC := Lib.hid (eright_any l A c v (HN.out.next hb2) (HK.out.next hb2) hl)
 rw [hq] at HC
 refine HC.out.mono ?_
 rintro e w1 ⟨rfl, hb⟩
 have HB1 := Lib.hid (Below.next hb2 hb)
 have HD2 := Lib.hid (D2.next hb)
 have HD3 := Lib.hid (D3.next hb)
 clear hb hb2 D2 D3 HK HC hq
 cases q with
 | false =>
   have HE : Hid (nmv l = .agg #[.bool false, .bool false, .bool false, .bool false, .bool false]) := by show _ = _; unfold nmv; rw [if_neg (by rw [HQ.out]; decide)]
   have HZ2 := Lib.hid (HD2.out.cast (hasL_zero l))
   have HZ3 := Lib.hid (HD3.out.cast (hasL_zero l))
   obtain ⟨d0, d1, d2, d3, d4⟩ := ck5 HZ3.out
   have a0 := HZ2.out.c 0 _ rfl; have a1 := HZ2.out.c 1 _ rfl; have a2 := HZ2.out.c 2 _ rfl; have a3 := HZ2.out.c 3 _ rfl; have a4 := HZ2.out.c 4 _ rfl
   have f0 := HZ2.out.f 0 _ rfl; have f1 := HZ2.out.f 1 _ rfl; have f2 := HZ2.out.f 2 _ rfl; have f3 := HZ2.out.f 3 _ rfl; have f4 := HZ2.out.f 4 _ rfl
   clear HD2 HD3
   go_wp2_with (fail)
   have RF := ((((HZ2.out.set 0 (.bool false)).set 1 (.bool false)).set 2 (.bool false)).set 3 (.bool false)).set 4 (.bool false)
   have c0 := RF.c 0 _ rfl; have c1 := RF.c 1 _ rfl; have c2 := RF.c 2 _ rfl; have c3 := RF.c 3 _ rfl; have c4 := RF.c 4 _ rfl
   clear RF
   rw [HE.out]
   refine bodyPost_ret (v := .agg #[.bool false, .bool false, .bool false, .bool false, .bool false]) (by simp [results, Tryz.results111, go_sem, c0, c1, c2, c3, c4]) rfl ⟨rfl, ?_⟩
   exact below_all5 HB1.out (Nat.le_refl _) _ _ _ _ _
 | true =>
   have HE : Hid (nmv l = hnv l l.length) := by show _ = _; unfold nmv; rw [if_pos HQ.out]
   have HRN := Lib.hid (Rt_names HQ.out)
   have hsz : w.heap.size + 1 < w1.heap.size := HD3.out.lt
   go_wp2_with (fail)
   go_loopw [12] (fun i wr => ∃ k : Nat, k ≤ l.length ∧ i = .int .i64 (k : Int) ∧ Below w.heap.size w wr ∧ Blk wr w.heap.size (hasL l 0) ∧ Blk wr (w.heap.size + 1) (hasL l k)) (fun i _ => l.length - (intOf i).toNat)
   case atStart => exact ⟨0, Nat.zero_le _, rfl, HB1.out, HD2.out, HD3.out⟩
   case round =>
    obtain ⟨k, hk, rfl, hb, hz2, hz3⟩ := hrel
    have HB := Lib.hid hb; have HN1 := Lib.hid (HN.out.next hb); have HZ2 := Lib.hid hz2; have HZ3 := Lib.hid hz3
    clear hb hz2 hz3 HD2 HD3 HB1 hsz
    by_cases hlt : k < l.length
    · obtain ⟨G, O, rfl⟩ := HN1.out.shape (by omega)
      have e0 := HN1.out.cell hlt 0 _ rfl
      have e1 := HN1.out.cell hlt 1 _ rfl
      have e2 := HN1.out.cell hlt 2 _ rfl
      have e3 := HN1.out.cell hlt 3 _ rfl
      have e4 := HN1.out.cell hlt 4 _ rfl
      have e5 := HN1.out.cell hlt 5 _ rfl
      rw [Nat.add_zero] at e0
      have hgl : G < wr.heap.size := HN1.out.lt (by omega)
      have hzl := HZ3.out.lt
      have hlo := HB.out.size
      by_cases ho : (nd l k).o = 1
      · obtain ⟨j, hj, hj5⟩ := name_in (HRN.out k hlt) ho
        have HL := Lib.hid (hasL_name hlt ho hj hj5)
        rw [ho] at e0
        rw [hj] at e2
        clear ho hj
        generalize nd l k = n at *
        have hb1 := box1 wr (.cells #[.int .i64 1, .int .i64 n.v.k, .int .i64 (j : Int), .string (tx n.v.s), .int .i64 n.v.x, .int .i64 n.v.y] 118)
        have HZ4 := Lib.hid (HZ3.out.next hb1)
        have HY4 := Lib.hid (HZ2.out.next hb1)
        have HB4 := Lib.hid (Below.next HB.out hb1)
        have b3 := HZ4.out.c j _ (hasL_get l k hj5)
        have f3 := HZ4.out.f j _ (hasL_get l k hj5)
        clear hb1
        go_wp2_with (fail)
        go_roundw
        case rel => exact ⟨k + 1, by omega, by go_num, (HB.out.setCell (p := ⟨w.heap.size + 1, j, none⟩) (Nat.le_succ _) _).alloc (by simp; omega) _, (HZ2.out.put (c := w.heap.size + 1) (by omega) j (.bool true)).old _, ((HZ3.out.set j (.bool true)).old _).cast HL.out.symm⟩
        case measure => simp [intOf]; omega
      · have HL := Lib.hid (hasL_other hlt ho)
        have g1 : ((nd l k).o == 1) = false := beq_eq_false_iff_ne.2 ho
        clear ho
        generalize nd l k = n at *
        have hb1 := box1 wr (.cells #[.int .i64 n.o, .int .i64 n.v.k, .int .i64 n.v.n, .string (tx n.v.s), .int .i64 n.v.x, .int .i64 n.v.y] 118)
        have HZ4 := Lib.hid (HZ3.out.next hb1)
        have HY4 := Lib.hid (HZ2.out.next hb1)
        have HB4 := Lib.hid (Below.next HB.out hb1)
        clear hb1
        go_wp2_with (fail)
        go_roundw
        case rel => exact ⟨k + 1, by omega, by go_num, HB4.out, HY4.out, HZ4.out.cast HL.out.symm⟩
        case measure => simp [intOf]; omega
    · obtain rfl : k = l.length := by omega
      have HY := Lib.hid (HZ2.out.cast (hasL_zero l))
      have d0 := HZ3.out.c 0 _ (hasL_get l _ (by omega)); have d1 := HZ3.out.c 1 _ (hasL_get l _ (by omega)); have d2 := HZ3.out.c 2 _ (hasL_get l _ (by omega)); have d3 := HZ3.out.c 3 _ (hasL_get l _ (by omega)); have d4 := HZ3.out.c 4 _ (hasL_get l _ (by omega))
      obtain ⟨a0, a1, a2, a3, a4⟩ := ck5 HY.out
      have f0 := HY.out.f 0 _ rfl; have f1 := HY.out.f 1 _ rfl; have f2 := HY.out.f 2 _ rfl; have f3 := HY.out.f 3 _ rfl; have f4 := HY.out.f 4 _ rfl
      have HRES : Hid (nmv l = .agg #[.bool (hasN l l.length 0), .bool (hasN l l.length 1), .bool (hasN l l.length 2), .bool (hasN l l.length 3), .bool (hasN l l.length 4)]) := HE.out
      clear HE HZ2 HZ3
      generalize hasN l l.length 0 = p0 at *
      generalize hasN l l.length 1 = p1 at *
      generalize hasN l l.length 2 = p2 at *
      generalize hasN l l.length 3 = p3 at *
      generalize hasN l l.length 4 = p4 at *
      go_wp2_with (fail)
      have RF := ((((HY.out.set 0 (.bool p0)).set 1 (.bool p1)).set 2 (.bool p2)).set 3 (.bool p3)).set 4 (.bool p4)
      have c0 := RF.c 0 _ rfl; have c1 := RF.c 1 _ rfl; have c2 := RF.c 2 _ rfl; have c3 := RF.c 3 _ rfl; have c4 := RF.c 4 _ rfl
      clear RF
      rw [HRES.out]
      refine bodyPost_ret (v := .agg #[.bool p0, .bool p1, .bool p2, .bool p3, .bool p4]) (by simp [results, Tryz.results111, go_sem, c0, c1, c2, c3, c4]) rfl ⟨rfl, ?_⟩
      exact below_all5 HB.out (Nat.le_refl _) _ _ _ _ _
end Go.Proofs.YtimllihegnokeaaGreatDoor.Ex
namespace Go.Proofs.YtimllihegnokeaaGreatDoor.Ev
open Go.ChangeShapes Go.WideShapes Go.ChangeAt Go.RowKit Ov Va Ex
section
variable {w w' w'' : World} {b : Nat} {ov ov' ov'' : Value}
end
section
variable {w0 w w' : World} {A : Option Addr} {c E b B n n' : Nat} {l : List No} {S S' : St} {ov ov' : Value} {xs : List Value}
end
section
variable {w0 w w' : World} {A : Option Addr} {c E b B n : Nat} {l : List No} {S : St} {ov ov' : Value} {xs : List Value} {k m s x y : Int} {t : ByteArray}
end
def putL (w : World) (B o : Nat) : List Value → World
 | [] => w
 | v :: vs => putL (w.setCell ⟨B, o, none⟩ v) B (o + 1) vs
section
variable {w0 w w' : World} {A : Option Addr} {c E b B n : Nat} {l : List No} {S : St} {ov ov' : Value} {xs : List Value}
end
def fin (ks : List Int) (l : List Va) : M (List Va) := if fits ks l = true then ret l else fail 13
section
variable {w0 w wa : World} {A : Option Addr} {c E b B C n : Nat} {l : List No} {S : St} {ov ova : Value} {x0 x1 x2 x3 x4 y0 y1 y2 y3 y4 : Value}
end
end Go.Proofs.YtimllihegnokeaaGreatDoor.Ev
namespace Go.Proofs.YtimllihegnokeaaGreatDoor.Ev
open Go.ChangeShapes Go.WideShapes Go.ChangeAt Go.RowKit Ov Va Ga Ex
end Go.Proofs.YtimllihegnokeaaGreatDoor.Ev
namespace Go.Proofs.YtimllihegnokeaaGreatDoor.Ev
open Go.ChangeShapes Go.WideShapes Go.ChangeAt Go.RowKit Ov Va Ex
end Go.Proofs.YtimllihegnokeaaGreatDoor.Ev
namespace Go.Proofs.YtimllihegnokeaaGreatDoor.Ev
open Go.ChangeShapes Go.WideShapes Go.ChangeAt Go.RowKit Ov Va Ga Ex
end Go.Proofs.YtimllihegnokeaaGreatDoor.Ev
namespace Go.Proofs.YtimllihegnokeaaGreatDoor.Ev
open Go.ChangeShapes Go.WideShapes Go.ChangeAt Go.RowKit Ov Va Ex
section
variable {w0 W w' : World} {A : Option Addr} {c E b n g cap : Nat} {l : List No} {S : St} {ov : Value} {p : List UInt8 × Va}
end
end Go.Proofs.YtimllihegnokeaaGreatDoor.Ev
namespace Go.Proofs.YtimllihegnokeaaGreatDoor.Ex
open Go.ChangeShapes Go.WideShapes Go.ChangeAt Go.RowKit Ov Va
theorem infoR : (Tryz.prog.info? 57).map (fun i => (i.zero, i.size, i.bytes)) = some (some (nov nz), 6, 56) := by kernel_rfl
theorem take_nd {l : List No} {k : Nat} (h : k < l.length) : l.take (k + 1) = l.take k ++ [nd l k] := by rw [nd_at h, List.take_succ_eq_append_getElem h]
def MadeN (ty : TypeId) (l : List No) (w : World) (e : Ending) (w' : World) : Prop :=
 ∃ A c, e = .returned (.slice A l.length c) ∧ w'.ownsRow w.heap.size ty 6 (.slice A l.length c) l.length (cells l) ∧ Below w.heap.size w w'
theorem six_at (W : World) (n : No) (ty : TypeId) (b : Nat) (hb : b = W.heap.size) : ∀ j u, (ncl n)[j]? = some u → (W.alloc (.cells #[.int .i64 n.o, .int .i64 n.v.k, .int .i64 n.v.n, .string (tx n.v.s), .int .i64 n.v.x, .int .i64 n.v.y] ty)).cell? ((⟨b, 0, none⟩ : Addr).add j) = some u := by
 intro j u hu
 subst hb
 have e : (⟨W.heap.size, 0, none⟩ : Addr).add j = ⟨W.heap.size, j, none⟩ := by
  unfold Addr.add
  split
  · rename_i h; subst h; rfl
  · simp
 rw [e]
 exact (Blk.made W ty (ncl n) rfl).c j u hu
set_option maxRecDepth 100000 in
set_option maxHeartbeats 2000000 in
theorem of_any (l : List No) (A : Option Addr) (c : Nat) (w : World) (hn : Nds w A l) (hl : l.length ≤ 1000) : Calls Tryz.prog 33 #[.slice A l.length c] w (MadeN 118 l w) := by
 obtain ⟨i0, hi0, hi1, hi2, hi3⟩ := info_parts infoN
 have HI0 := Lib.hid hi0; have HI1 := Lib.hid hi1; have HI2 := Lib.hid hi2; have HI3 := Lib.hid hi3
 clear hi0 hi1 hi2 hi3
 have HN := Lib.hid hn; clear hn
 go_enter Tryz.func33, Tryz.ntmps33
 go_wp2_with (fail)
 go_loopw [3, 4] (fun v i wr => ∃ (k : Nat) (B : Option Addr) (d : Nat), k ≤ l.length ∧ i = .int .i64 (k : Int) ∧ v = .slice B k d ∧ wr.ownsRow w.heap.size 118 6 (.slice B k d) k (cells (l.take k)) ∧ Below w.heap.size w wr) (fun _ i _ => l.length - (intOf i).toNat)
 case atStart => exact ⟨0, none, 0, Nat.zero_le _, rfl, rfl, World.ownsRow_nil _ _ _ _, Below.refl _ _⟩
 case round =>
  obtain ⟨k, B, d, hk, rfl, rfl, ho, hb⟩ := hrel
  have HO := Lib.hid ho; have HB := Lib.hid hb
  clear ho hb
  by_cases hlt : k < l.length
  · obtain ⟨G, O, rfl⟩ := HN.out.shape (by omega)
    have HN1 := HN.out.next HB.out
    have e0 := HN1.cell hlt 0 _ rfl
    have e1 := HN1.cell hlt 1 _ rfl
    have e2 := HN1.cell hlt 2 _ rfl
    have e3 := HN1.cell hlt 3 _ rfl
    have e4 := HN1.cell hlt 4 _ rfl
    have e5 := HN1.cell hlt 5 _ rfl
    rw [Nat.add_zero] at e0
    have HT := Lib.hid (take_nd hlt)
    generalize nd l k = n at *
    clear HN1
    have hws := HB.out.size
    go_wp2_with (fail)
    go_region_law (refine step_own _ rfl (.tmp 11) (.tmp 23) 30 rfl w.heap.size 118 i0 (nov nz) 6 56 Tryz.underlying30 HI0.out HI1.out HI2.out HI3.out rfl (by decide) (.slice B k d) k (cells (l.take k)) (by simp [Act.eval]) (by exact HO.out.alloc _) ⟨wr.heap.size, 0, none⟩ 1 1 (ncl n) (by simp [Act.eval]) rfl (by exact six_at _ _ _ _ (by simp)) (ncl_one _) (by unfold maxLen; omega) (by omega) (by simp; omega) ?_
                   intro v' w4 hown' hgrow _
                   have HB4 : Hid (Below w.heap.size w w4) := ((below_drewN HB.out 1).alloc (by simpa using hws) _).grown hgrow (by simp; omega) (fun g e => (HO.out.lt g e).1)
                   have hN : w4.ownsRow w.heap.size 118 6 v' (k + 1) (cells (l.take (k + 1))) := by rw [HT.out, cells_snoc]; exact hown'
                   have HN4 := Lib.hid hN
                   clear hown' hgrow hN)
    all_goals
     obtain ⟨B4, d4, rfl⟩ := own_slice HN4.out
     go_wp2_with (fail)
     go_roundw
     case rel => exact ⟨k + 1, B4, d4, by omega, by go_num, rfl, HN4.out, HB4.out⟩
     case measure => simp [intOf]; omega
  · obtain rfl : k = l.length := by omega
    have hE : l.take l.length = l := List.take_of_length_le (Nat.le_refl _)
    have HE : Hid (wr.ownsRow w.heap.size 118 6 (.slice B l.length d) l.length (cells l)) := by
     have := HO.out
     rw [hE] at this; exact this
    clear HO hE
    go_wp2_with (fail)
    go_ret
    exact ⟨B, d, rfl, HE.out, HB.out⟩
set_option maxRecDepth 100000 in
set_option maxHeartbeats 2000000 in
theorem plain_list (l : List No) (A : Option Addr) (c : Nat) (w : World) (hn : Nds w A l) (hl : l.length ≤ 1000) : Calls Tryz.prog 42 #[.slice A l.length c] w (MadeN 57 l w) := by
 obtain ⟨i0, hi0, hi1, hi2, hi3⟩ := info_parts infoR
 have HI0 := Lib.hid hi0; have HI1 := Lib.hid hi1; have HI2 := Lib.hid hi2; have HI3 := Lib.hid hi3
 clear hi0 hi1 hi2 hi3
 have HN := Lib.hid hn; clear hn
 go_enter Tryz.func42, Tryz.ntmps42
 go_wp2_with (fail)
 go_loopw [3, 4] (fun v i wr => ∃ (k : Nat) (B : Option Addr) (d : Nat), k ≤ l.length ∧ i = .int .i64 (k : Int) ∧ v = .slice B k d ∧ wr.ownsRow w.heap.size 57 6 (.slice B k d) k (cells (l.take k)) ∧ Below w.heap.size w wr) (fun _ i _ => l.length - (intOf i).toNat)
 case atStart => exact ⟨0, none, 0, Nat.zero_le _, rfl, rfl, World.ownsRow_nil _ _ _ _, Below.refl _ _⟩
 case round =>
  obtain ⟨k, B, d, hk, rfl, rfl, ho, hb⟩ := hrel
  have HO := Lib.hid ho; have HB := Lib.hid hb
  clear ho hb
  by_cases hlt : k < l.length
  · obtain ⟨G, O, rfl⟩ := HN.out.shape (by omega)
    have HN1 := HN.out.next HB.out
    have e0 := HN1.cell hlt 0 _ rfl
    have e1 := HN1.cell hlt 1 _ rfl
    have e2 := HN1.cell hlt 2 _ rfl
    have e3 := HN1.cell hlt 3 _ rfl
    have e4 := HN1.cell hlt 4 _ rfl
    have e5 := HN1.cell hlt 5 _ rfl
    rw [Nat.add_zero] at e0
    have HT := Lib.hid (take_nd hlt)
    generalize nd l k = n at *
    clear HN1
    have hws := HB.out.size
    go_wp2_with (fail)
    go_region_law (refine step_own _ rfl (.tmp 11) (.tmp 23) 22 rfl w.heap.size 57 i0 (nov nz) 6 56 Tryz.underlying22 HI0.out HI1.out HI2.out HI3.out rfl (by decide) (.slice B k d) k (cells (l.take k)) (by simp [Act.eval]) (by exact HO.out.alloc _) ⟨wr.heap.size, 0, none⟩ 1 1 (ncl n) (by simp [Act.eval]) rfl (by exact six_at _ _ _ _ (by simp)) (ncl_one _) (by unfold maxLen; omega) (by omega) (by simp; omega) ?_
                   intro v' w4 hown' hgrow _
                   have HB4 : Hid (Below w.heap.size w w4) := ((below_drewN HB.out 1).alloc (by simpa using hws) _).grown hgrow (by simp; omega) (fun g e => (HO.out.lt g e).1)
                   have hN : w4.ownsRow w.heap.size 57 6 v' (k + 1) (cells (l.take (k + 1))) := by rw [HT.out, cells_snoc]; exact hown'
                   have HN4 := Lib.hid hN
                   clear hown' hgrow hN)
    all_goals
     obtain ⟨B4, d4, rfl⟩ := own_slice HN4.out
     go_wp2_with (fail)
     go_roundw
     case rel => exact ⟨k + 1, B4, d4, by omega, by go_num, rfl, HN4.out, HB4.out⟩
     case measure => simp [intOf]; omega
  · obtain rfl : k = l.length := by omega
    have hE : l.take l.length = l := List.take_of_length_le (Nat.le_refl _)
    have HE : Hid (wr.ownsRow w.heap.size 57 6 (.slice B l.length d) l.length (cells l)) := by
     have := HO.out
     rw [hE] at this; exact this
    clear HO hE
    go_wp2_with (fail)
    go_ret
    exact ⟨B, d, rfl, HE.out, HB.out⟩
set_option maxRecDepth 100000 in
set_option maxHeartbeats 1000000 in
theorem neq_same (n : No) (w : World) : (binOp .neq 57 (nov n) (nov n)).run Tryz.prog w = .ok (.bool false) w := by
 unfold nov
 generalize n.o = o
 generalize n.v.k = a
 generalize n.v.n = b
 generalize tx n.v.s = s
 generalize n.v.x = x
 generalize n.v.y = y
 have u := Tryz.underlying3
 have hN : Tryz.prog.underlying 57 = some (.struct (Tryz.prog.fieldsOf 57)) := by kernel_rfl
 have hS : Tryz.prog.underlying 45 = some (.struct (Tryz.prog.fieldsOf 45)) := by kernel_rfl
 have hS2 : Tryz.prog.underlying 43 = some (.struct (Tryz.prog.fieldsOf 43)) := by kernel_rfl
 have hp0 : Tryz.prog.stoodInHeld 57 = false := by kernel_rfl
 have hp : Tryz.prog.stoodInHeld 45 = false := by kernel_rfl
 have hp2 : Tryz.prog.stoodInHeld 43 = false := by kernel_rfl
 have hr := fun d xs ys w => run_equalIn_struct (P := Tryz.prog) w d 45 xs ys hS hp
 have hq := fun d xs ys w => run_equalIn_struct (P := Tryz.prog) w d 43 xs ys hS2 hp2
 rw [run_neq_struct, show (10000 : Nat) = 9999 + 1 from rfl, run_equalIn_struct w 9999 57 _ _ hN hp0]
 clear hN hS hS2 hp hp0 hp2
 simp only [Program.fieldsOf, Tryz.underlying57, Tryz.underlying45, Tryz.underlying43] at hq hr ⊢
 go_simp
end Go.Proofs.YtimllihegnokeaaGreatDoor.Ex
